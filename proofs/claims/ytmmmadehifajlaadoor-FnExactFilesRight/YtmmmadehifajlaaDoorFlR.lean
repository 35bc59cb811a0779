/-
  What spec.FilesRight answers and leaves. Condition: files that lie in memory, of texts of at most 1,048,576 bytes.
-/
import Derived.Test.YtmmmadehifajlaaDoorFlS
import Derived.Deep.QuietTactic
import Derived.BigQuiet
import Derived.BigRegion
import Derived.Laws.Cover1
namespace Go.Proofs.YtmmmadehifajlaaDoor.fil
open Go.RowKit Go.Joins Go.Sort
open Go.Proofs.YtmmmadehifajlaaDoor.base Go.Proofs.YtmmmadehifajlaaDoor.blk Go.Proofs.YtmmmadehifajlaaDoor.aid
open Go.Proofs.YtmmmadehifajlaaDoor.ord
open Go.Proofs.YtmmmadehifajlaaDoor.row (Rd Own OwnV)
open Go.Proofs.YtmmmadehifajlaaDoor.rwFile (cs el)
open Go.Proofs.YtmmmadehifajlaaDoor.strs (tx)
open Go.Proofs.YtmmmadehifajlaaDoor.seg (segs)
open Go.Proofs.YtmmmadehifajlaaDoor.obj (nameB name_small)
set_option linter.unusedVariables false
set_option linter.unusedSimpArgs false

theorem below_dn {w V : World} (h : Below w.heap.size w V) (n : Nat) : Below w.heap.size w (V.drewN n) := ⟨h.os, h.tape, h.output, h.size, h.block⟩
def aft (q : Option Fi) (f : Fi) : Bool := match q with | none => true | some g => blt g.1 f.1
theorem fileB_is (all : List Fi) (q : Option Fi) (f : Fi) : fileB all q f = (pathB f.1 && decide (f.2.size ≤ 1500) && aft q f && noneU f.1 all) := rfl
theorem filesB_of {l : List Fi} (h : l.length ≤ 20) : filesB l = filsB l none l := by unfold filesB; rw [decide_eq_true h, Bool.true_and]
theorem bytes_ne {r s : ByteArray} (h : ¬ r = s) : (r.toList == s.toList) = false := by
  rw [ByteArray.toList_eq, ByteArray.toList_eq]
  simp
  intro e
  apply h
  apply ByteArray.ext
  exact e
set_option maxRecDepth 100000 in
set_option maxHeartbeats 8000000 in
theorem rightS_any (a : Option Addr) (c : Nat) (l : List Fi) (w : World) (hl : l.length ≤ 1048576) (hs : Small l) (hr : Rd w a (cs l)) :
    Calls Tryd.prog 5 #[.slice a l.length c] w fun e w' => e = .returned (.bool (filesB l)) ∧ Below w.heap.size w w' := by
  by_cases h1 : 20 < l.length
  · have E : Hid (filesB l = false) := mkHid (by unfold filesB; simp; omega)
    have h1i : (20 : Int) < (l.length : Int) := by omega
    clear hr
    go_enter Tryd.func5, Tryd.ntmps5
    go_wp2_with fail
    go_ret
    exact ⟨ret_eq (by rw [E.out]; rfl), Below.refl _ _⟩
  have h1i : (l.length : Int) ≤ 20 := by omega
  have HP := mkHid (filesB_of (l := l) (by omega))
  go_enter Tryd.func5, Tryd.ntmps5
  go_wp2_with fail
  go_loopw [3] (fun i wr => ∃ k : Nat, k ≤ l.length ∧ i = .int .i64 k ∧ Hid (filsB l none l = filsB l (before l k) (l.drop k)) ∧ Hid (Below w.heap.size w wr))
    (fun i _ => l.length - (intOf i).toNat)
  case atStart => exact ⟨0, Nat.zero_le _, rfl, mkHid (by simp [before]), mkHid (Below.refl _ _)⟩
  case round =>
    obtain ⟨k, hk, rfl, hF, hB⟩ := hrel
    by_cases hlt : k < l.length
    · have hlti : (k : Int) < (l.length : Int) := by omega
      obtain ⟨⟨x0, x1⟩, hx⟩ : ∃ y, l[k]? = some y := ⟨_, List.getElem?_eq_getElem hlt⟩
      have hdm := List.mem_of_getElem? hx
      obtain ⟨g1, o1, rfl, c0, c1, l1⟩ := el hr hx
      have hst := filsB_step l l k _ hx
      rw [fileB_is] at hst
      have hsx := hs _ hdm
      simp only at c0 c1 hsx hst
      have e0 := (hB.out.cell (p := ⟨g1, o1 + k * 2, none⟩) l1).trans c0
      have HPa := mkHid (fun wx => parts_any x0 wx hsx.1)
      have HX := mkHid (And.intro c0 (And.intro c1 (And.intro hst hx)))
      have hx1i : (x1.size : Int) ≤ 1048576 := by omega
      clear c0 c1 hst hx
      go_wp2_with fail
      refine (HPa.out _).mono ?_
      rintro e w2 ⟨pv, rfl, hb2⟩
      have B2 := mkHid (hB.out.trans (hb2.mono hB.out.size))
      have f0 := (B2.out.cell (p := ⟨g1, o1 + k * 2, none⟩) l1).trans HX.out.1
      have f1 := (B2.out.cell (p := ⟨g1, o1 + k * 2 + 1, none⟩) l1).trans HX.out.2.1
      clear e0 hb2 hB HPa
      cases hp : pathB x0 with
      | false =>
        have E : Hid (filesB l = false) := mkHid (by rw [HP.out, hF.out, HX.out.2.2.1, hp]; rfl)
        clear HX hF
        go_wp2_with fail
        go_quiet (fail)
        go_wp2
        go_ret
        exact ⟨ret_eq (by rw [E.out]; rfl), by first | exact B2.out | exact below_dn B2.out _⟩
      | true =>
        by_cases hz : 1500 < x1.size
        · have hzi : (1500 : Int) < (x1.size : Int) := by omega
          have E : Hid (filesB l = false) := mkHid (by
            have : decide (x1.size ≤ 1500) = false := by simp; omega
            rw [HP.out, hF.out, HX.out.2.2.1, this]; simp)
          clear HX hF hz
          go_wp2_with fail
          go_quiet (fail)
          go_wp2
          go_ret
          exact ⟨ret_eq (by rw [E.out]; rfl), by first | exact B2.out | exact below_dn B2.out _⟩
        · have hzi : decide ((1500 : Int) < (x1.size : Int)) = false := by simp; omega
          have hzd : decide (x1.size ≤ 1500) = true := by simp; omega
          have hF2 := hF.out
          rw [HX.out.2.2.1, hp, hzd, Bool.true_and, Bool.true_and] at hF2
          rcases ahead l k hlt with ⟨k0, hb0⟩ | ⟨j, ⟨p0, p1⟩, k1, hpj, hb0⟩
          · have z1 : decide (0 < k) = false := by simp [k0]
            have z2 : decide ((0 : Int) < (k : Int)) = false := by simp [k0]
            rw [hb0] at hF2
            have HF2 : Hid (filsB l none l = (noneU x0 l && filsB l (before l (k + 1)) (l.drop (k + 1)))) := mkHid hF2
            clear hF hF2 hb0 hz hzd k0
            go_wp2_with fail
            go_quiet (fail)
            have HV0 := mkHid (below_dn B2.out nq)
            have hx0i : (x0.size : Int) ≤ 1048576 := by omega
            clear f0 f1 
            generalize w2.drewN nq = V at *
            go_wp2_with fail
            go_loopw [6] (fun jv wr2 => ∃ j2 : Nat, j2 ≤ l.length ∧ jv = .int .i64 j2 ∧ Hid (noneU x0 l = noneU x0 (l.drop j2)) ∧ Hid (Below w.heap.size w wr2))
              (fun jv _ => l.length - (intOf jv).toNat)
            case atStart => exact ⟨0, Nat.zero_le _, rfl, mkHid rfl, HV0⟩
            case round =>
              clear HV0 B2
              obtain ⟨j2, hj, rfl, hU, hV⟩ := hrel
              by_cases hjl : j2 < l.length
              · have hjli : (j2 : Int) < (l.length : Int) := by omega
                obtain ⟨⟨y0, y1⟩, hy⟩ : ∃ y, l[j2]? = some y := ⟨_, List.getElem?_eq_getElem hjl⟩
                have hym := List.mem_of_getElem? hy
                obtain ⟨g3, o3, hg3, d0, d1, l3⟩ := el hr hy
                obtain ⟨rfl, rfl⟩ : g1 = g3 ∧ o1 = o3 := by injection hg3 with e; injection e with e1 e2; exact ⟨e1, e2⟩
                simp only at d0
                have m0 := (hV.out.cell (p := ⟨g1, o1 + j2 * 2, none⟩) l1).trans d0
                have n0 := (hV.out.cell (p := ⟨g1, o1 + k * 2, none⟩) l1).trans HX.out.1
                have hsy := (hs _ hym).1
                simp only at hsy
                have hyi : (y0.size : Int) ≤ 1048576 := by omega
                have hUs := hU.out.trans (noneU_step x0 l j2 _ hy)
                clear hy d0 d1 hg3
                cases hu : under x0 y0 with
                | true =>
                  obtain ⟨u1, u2, u3⟩ := (under_is x0 y0).1 hu
                  have E : Hid (filesB l = false) := mkHid (by rw [HP.out, HF2.out, noneU_no hym hu]; rfl)
                  have s1 : decide ((x0.size : Int) < (y0.size : Int)) = true := by simp; omega
                  have s1n : decide (x0.size < y0.size) = true := by simp; omega
                  have s1i : (x0.size : Int) < (y0.size : Int) := by omega
                  have s2 : ((y0.extract 0 x0.size).toList == x0.toList) = true := by rw [u2]; simp
                  have s3 : ∀ h, (((y0[x0.size]'h).toNat : Int) == 47) = true := fun h => by
                    rw [get_list h] at u3
                    have := Option.some.inj u3
                    rw [this]
                    rfl
                  clear HX HF2 hUs hU u2 u3 hu
                  go_wp2_with fail
                  go_quiet (fail)
                  go_wp2
                  go_ret
                  exact ⟨ret_eq (by rw [E.out]; rfl), by first | exact hV.out | exact below_dn hV.out _⟩
                | false =>
                  rw [hu] at hUs
                  have hU2 : Hid (noneU x0 l = noneU x0 (l.drop (j2 + 1))) := mkHid (by simpa using hUs)
                  clear hUs hU
                  by_cases t1 : x0.size < y0.size
                  · have s1 : decide ((x0.size : Int) < (y0.size : Int)) = true := by simp; omega
                    have s1n : decide (x0.size < y0.size) = true := by simp; omega
                    have s1i : (x0.size : Int) < (y0.size : Int) := by omega
                    by_cases t2 : y0.extract 0 x0.size = x0
                    · have s2 : ((y0.extract 0 x0.size).toList == x0.toList) = true := by rw [t2]; simp
                      have t3 : ¬ y0[x0.size]'t1 = 47 := fun e => by
                        have : under x0 y0 = true := (under_is x0 y0).2 ⟨t1, t2, by rw [get_list t1, e]⟩
                        rw [hu] at this
                        cases this
                      have s3 : ∀ h, (((y0[x0.size]'h).toNat : Int) == 47) = false := fun h => by
                        have := ne_slash t3
                        simpa using this
                      clear t2 t3 hu
                      go_wp2_with fail
                      go_quiet (fail)
                      go_wp2
                      exact ⟨⟨j2 + 1, by omega, by go_num, hU2, mkHid (below_dn hV.out _)⟩, by simp [intOf]; omega⟩
                    · have s2 := bytes_ne t2
                      clear t2 hu
                      go_wp2_with fail
                      go_quiet (fail)
                      go_wp2
                      exact ⟨⟨j2 + 1, by omega, by go_num, hU2, mkHid (below_dn hV.out _)⟩, by simp [intOf]; omega⟩
                  · have s1 : decide ((x0.size : Int) < (y0.size : Int)) = false := by simp; omega
                    have s1n : decide (x0.size < y0.size) = false := by simp; omega
                    clear hu
                    go_wp2_with fail
                    go_quiet (fail)
                    go_wp2
                    exact ⟨⟨j2 + 1, by omega, by go_num, hU2, mkHid (below_dn hV.out _)⟩, by simp [intOf]; omega⟩
              · obtain rfl : j2 = l.length := by omega
                have N1 : Hid (filsB l none l = filsB l (before l (k + 1)) (l.drop (k + 1))) := mkHid (by
                  have h := hU.out
                  rw [List.drop_of_length_le (Nat.le_refl _)] at h
                  rw [HF2.out, h]
                  rfl)
                clear HX HF2 hU
                go_wp2
                exact ⟨⟨k + 1, by omega, by go_num, N1, hV⟩, by simp [intOf]; omega⟩
          · have z1 : decide (0 < k) = true := by simp [k1]
            have z2 : decide ((0 : Int) < (k : Int)) = true := by simp [k1]
            have z3 : IntKind.i64.wrap ((k : Int) - 1) = (j : Int) := by rw [show (k : Int) - 1 = (j : Int) by omega, IntKind.wrap_i64]; omega
            have z4 : (j : Int) < (l.length : Int) := by omega
            obtain ⟨g2, o2, hg2, pc0, pc1, pl'⟩ := el hr hpj
            obtain ⟨rfl, rfl⟩ : g1 = g2 ∧ o1 = o2 := by injection hg2 with e; injection e with e1 e2; exact ⟨e1, e2⟩
            simp only at pc0
            have q0 := (B2.out.cell (p := ⟨g1, o1 + j * 2, none⟩) pl').trans pc0
            rw [hb0] at hF2
            have hba : aft (some (p0, p1)) (x0, x1) = blt p0 x0 := rfl
            rw [hba] at hF2
            cases hless : Op.bytesLess p0.toList x0.toList with
            | false =>
              have E : Hid (filesB l = false) := mkHid (by
                have : blt p0 x0 = false := hless
                rw [HP.out, hF2, this]; rfl)
              clear HX hF hF2 hb0 hz hzd k1 hg2 pc0 pc1 hpj hba
              go_wp2_with fail
              go_quiet (fail)
              go_wp2
              go_ret
              exact ⟨ret_eq (by rw [E.out]; rfl), by first | exact B2.out | exact below_dn B2.out _⟩
            | true =>
              have HF2 : Hid (filsB l none l = (noneU x0 l && filsB l (before l (k + 1)) (l.drop (k + 1)))) := mkHid (by
                have : blt p0 x0 = true := hless
                rw [hF2, this]; rfl)
              clear hF hF2 hb0 hz hzd k1 hg2 pc0 pc1 hpj hba
              go_wp2_with fail
              go_quiet (fail)
              have HV0 := mkHid (below_dn B2.out nq)
              have hx0i : (x0.size : Int) ≤ 1048576 := by omega
              clear f0 f1 q0
              generalize w2.drewN nq = V at *
              go_wp2_with fail
              go_loopw [6] (fun jv wr2 => ∃ j2 : Nat, j2 ≤ l.length ∧ jv = .int .i64 j2 ∧ Hid (noneU x0 l = noneU x0 (l.drop j2)) ∧ Hid (Below w.heap.size w wr2))
                (fun jv _ => l.length - (intOf jv).toNat)
              case atStart => exact ⟨0, Nat.zero_le _, rfl, mkHid rfl, HV0⟩
              case round =>
                clear HV0 B2
                obtain ⟨j2, hj, rfl, hU, hV⟩ := hrel
                by_cases hjl : j2 < l.length
                · have hjli : (j2 : Int) < (l.length : Int) := by omega
                  obtain ⟨⟨y0, y1⟩, hy⟩ : ∃ y, l[j2]? = some y := ⟨_, List.getElem?_eq_getElem hjl⟩
                  have hym := List.mem_of_getElem? hy
                  obtain ⟨g3, o3, hg3, d0, d1, l3⟩ := el hr hy
                  obtain ⟨rfl, rfl⟩ : g1 = g3 ∧ o1 = o3 := by injection hg3 with e; injection e with e1 e2; exact ⟨e1, e2⟩
                  simp only at d0
                  have m0 := (hV.out.cell (p := ⟨g1, o1 + j2 * 2, none⟩) l1).trans d0
                  have n0 := (hV.out.cell (p := ⟨g1, o1 + k * 2, none⟩) l1).trans HX.out.1
                  have hsy := (hs _ hym).1
                  simp only at hsy
                  have hyi : (y0.size : Int) ≤ 1048576 := by omega
                  have hUs := hU.out.trans (noneU_step x0 l j2 _ hy)
                  clear hy d0 d1 hg3
                  cases hu : under x0 y0 with
                  | true =>
                    obtain ⟨u1, u2, u3⟩ := (under_is x0 y0).1 hu
                    have E : Hid (filesB l = false) := mkHid (by rw [HP.out, HF2.out, noneU_no hym hu]; rfl)
                    have s1 : decide ((x0.size : Int) < (y0.size : Int)) = true := by simp; omega
                    have s1n : decide (x0.size < y0.size) = true := by simp; omega
                    have s1i : (x0.size : Int) < (y0.size : Int) := by omega
                    have s2 : ((y0.extract 0 x0.size).toList == x0.toList) = true := by rw [u2]; simp
                    have s3 : ∀ h, (((y0[x0.size]'h).toNat : Int) == 47) = true := fun h => by
                      rw [get_list h] at u3
                      have := Option.some.inj u3
                      rw [this]
                      rfl
                    clear HX HF2 hUs hU u2 u3 hu
                    go_wp2_with fail
                    go_quiet (fail)
                    go_wp2
                    go_ret
                    exact ⟨ret_eq (by rw [E.out]; rfl), by first | exact hV.out | exact below_dn hV.out _⟩
                  | false =>
                    rw [hu] at hUs
                    have hU2 : Hid (noneU x0 l = noneU x0 (l.drop (j2 + 1))) := mkHid (by simpa using hUs)
                    clear hUs hU
                    by_cases t1 : x0.size < y0.size
                    · have s1 : decide ((x0.size : Int) < (y0.size : Int)) = true := by simp; omega
                      have s1n : decide (x0.size < y0.size) = true := by simp; omega
                      have s1i : (x0.size : Int) < (y0.size : Int) := by omega
                      by_cases t2 : y0.extract 0 x0.size = x0
                      · have s2 : ((y0.extract 0 x0.size).toList == x0.toList) = true := by rw [t2]; simp
                        have t3 : ¬ y0[x0.size]'t1 = 47 := fun e => by
                          have : under x0 y0 = true := (under_is x0 y0).2 ⟨t1, t2, by rw [get_list t1, e]⟩
                          rw [hu] at this
                          cases this
                        have s3 : ∀ h, (((y0[x0.size]'h).toNat : Int) == 47) = false := fun h => by
                          have := ne_slash t3
                          simpa using this
                        clear t2 t3 hu
                        go_wp2_with fail
                        go_quiet (fail)
                        go_wp2
                        exact ⟨⟨j2 + 1, by omega, by go_num, hU2, mkHid (below_dn hV.out _)⟩, by simp [intOf]; omega⟩
                      · have s2 := bytes_ne t2
                        clear t2 hu
                        go_wp2_with fail
                        go_quiet (fail)
                        go_wp2
                        exact ⟨⟨j2 + 1, by omega, by go_num, hU2, mkHid (below_dn hV.out _)⟩, by simp [intOf]; omega⟩
                    · have s1 : decide ((x0.size : Int) < (y0.size : Int)) = false := by simp; omega
                      have s1n : decide (x0.size < y0.size) = false := by simp; omega
                      clear hu
                      go_wp2_with fail
                      go_quiet (fail)
                      go_wp2
                      exact ⟨⟨j2 + 1, by omega, by go_num, hU2, mkHid (below_dn hV.out _)⟩, by simp [intOf]; omega⟩
                · obtain rfl : j2 = l.length := by omega
                  have N1 : Hid (filsB l none l = filsB l (before l (k + 1)) (l.drop (k + 1))) := mkHid (by
                    have h := hU.out
                    rw [List.drop_of_length_le (Nat.le_refl _)] at h
                    rw [HF2.out, h]
                    rfl)
                  clear HX HF2 hU
                  go_wp2
                  exact ⟨⟨k + 1, by omega, by go_num, N1, hV⟩, by simp [intOf]; omega⟩
    · obtain rfl : k = l.length := by omega
      have E : Hid (filesB l = true) := mkHid (by rw [HP.out, hF.out, List.drop_of_length_le (Nat.le_refl _), filsB])
      clear hr hF
      go_wp2
      go_ret
      exact ⟨ret_eq (by rw [E.out]; rfl), hB.out⟩
end Go.Proofs.YtmmmadehifajlaaDoor.fil
