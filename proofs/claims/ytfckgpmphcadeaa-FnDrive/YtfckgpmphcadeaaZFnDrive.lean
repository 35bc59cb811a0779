/-
  What '!=' of two DataOuts that are alike answers. No condition.
  laws.FnDrive answers true at all bytes, and leaves what was there as it was. Condition: the bytes lie in memory.
  laws.FnDrive answers true at all bytes, however many, and leaves what was there as it was. Condition: the bytes lie in memory.
-/
import Derived.Test.YtfckgpmphcadeaaAid
import Derived.Test.YtfckgpmphcadeaaZDraw8
import Derived.Test.YtfckgpmphcadeaaDrvDi
import Derived.Test.YtfckgpmphcadeaaDrvCs
import Derived.Laws.StructEq
import Derived.Deep.DeepCutAuto
namespace Go.Proofs.Ytfckgpmphcadeaa.drv
open Go.RowKit Go.Joins
set_option linter.unusedVariables false

theorem dat_fields : Try.prog.underlying 41 = some (.struct (Try.prog.fieldsOf 41)) := by kernel_rfl
theorem dat_names : ((Try.prog.fieldsOf 41).toList.map fun f => (f.name, f.type, f.offset)) = [("Text", 9, 0), ("Code", 2, 1)] := by kernel_rfl
theorem dat_held : Try.prog.stoodInHeld 41 = false := by kernel_rfl
theorem dat_parts (b : ByteArray) (c : Int) (w : World) : (part 9 #[.string b, .int .i64 c] 0).run Try.prog w = .ok (.string b) w ∧ (part 2 #[.string b, .int .i64 c] 1).run Try.prog w = .ok (.int .i64 c) w := by
  refine ⟨?_, ?_⟩ <;> simp [go_sem]
theorem dat_ne (b : ByteArray) (c : Int) (w : World) : (binOp .neq 41 (.agg #[.string b, .int .i64 c]) (.agg #[.string b, .int .i64 c])).run Try.prog w = .ok (.bool false) w := by
  rw [run_neq_struct, run_equalIn_struct (d := 9999) w _ _ _ dat_fields dat_held]
  have h := dat_names
  generalize (Try.prog.fieldsOf 41).toList = fs at h
  obtain ⟨f1, l1, rfl, e1, h⟩ := List.map_eq_cons_iff.1 h
  obtain ⟨f2, l2, rfl, e2, h⟩ := List.map_eq_cons_iff.1 h
  obtain rfl := List.map_eq_nil_iff.1 h
  simp at e1 e2
  obtain ⟨n1, t1, o1⟩ := e1
  obtain ⟨n2, t2, o2⟩ := e2
  have q1 : ∀ w, _ := fun w => (dat_parts b c w).1
  have q2 : ∀ w, _ := fun w => (dat_parts b c w).2
  have hu : Try.prog.underlying 2 = some (.int .i64) := by kernel_rfl
  have hv : Try.prog.underlying 9 = some .string := by kernel_rfl
  have hi : ∀ (x y : Int) (w : World), (Op.equalIn 9999 2 (.int .i64 x) (.int .i64 y)).run Try.prog w = .ok (x == y) w := fun x y w => run_equalIn_int w 9998 _ _ _ x y hu
  have hs : ∀ (x y : ByteArray) (w : World), (Op.equalIn 9999 9 (.string x) (.string y)).run Try.prog w = .ok (x.toList == y.toList) w := fun x y w => run_equalIn_string w 9998 _ x y hv
  simp [Op.eqFields, n1, t1, o1, n2, t2, o2, q1, q2, hi, hs]
end Go.Proofs.Ytfckgpmphcadeaa.drv
namespace Go.Proofs.Ytfckgpmphcadeaa.drv
open Go.RowKit Go.Joins Go.Sort
open Go.Proofs.Ytfckgpmphcadeaa.base Go.Proofs.Ytfckgpmphcadeaa.blk Go.Proofs.Ytfckgpmphcadeaa.aid
open Go.Proofs.Ytfckgpmphcadeaa.row (Rd Own OwnV)
open Go.Proofs.Ytfckgpmphcadeaa.rwStored (cs)
open Go.Proofs.Ytfckgpmphcadeaa.ints (ix)
open Go.Proofs.Ytfckgpmphcadeaa.draw (Row mem_addrow)
set_option linter.unusedVariables false
attribute [local go_sem ↓] slice_fold

theorem crash_is {l : List File} {r : Int} {ks : List Int} (h : driveB l r = true) (hk : ks.length ≤ 30) : crashD l r ks = (keepL l ks, r) := by
  unfold crashD
  rw [if_neg (by omega), h]
  rfl
/-- one file of a drive and what stays of it when the power goes -/
theorem keep_at {l : List File} {r : Int} (h : driveB l r = true) (ks : List Int) {j : Nat} {f : File} (hf : l[j]? = some f) : ∃ m : Nat, (keepL l ks)[j]? = some (f.1, f.2.1.extract 0 m, (m : Int)) ∧ f.2.2 ≤ (m : Int) ∧ m ≤ f.2.1.size ∧ (f.2.1.extract 0 m).size = m ∧ f.1.size ≤ 80 ∧ f.2.1.size ≤ 20000 := by
  have h1 := filesB_all none l (driveB_parts h).2.2.2.1 f (List.mem_of_getElem? hf)
  obtain ⟨m, e, a, b, c⟩ := keep_parts (kk ks j) h1.2.2.1 h1.2.2.2
  exact ⟨m, by rw [keepL_at l ks j f hf, e], a, b, c, (name_small h1.1).2, h1.2.1⟩

set_option maxRecDepth 100000 in
set_option maxHeartbeats 1000000 in
theorem fnDrive_in (a : Option Addr) (len cap : Nat) (b : Option Addr) (lenb capb : Nat) (w : World) (hl : len ≤ 1048576) (hr : Row w a len) (hlb : lenb ≤ 1048576) (hrb : Row w b lenb) :
    Calls Try.prog 3 #[.slice a len cap, .slice b lenb capb] w fun e w' => e = .returned (.bool true) ∧ Below w.heap.size w w' := by
  have hli : (len : Int) ≤ 1048576 := by omega
  have hlbi : (lenb : Int) ≤ 1048576 := by omega
  have HD := mkHid (draw.drawDo_any a len cap w hl hr)
  have HE := mkHid (fun wx (h : Row wx b lenb) => draw.drawCrash_any b lenb capb wx hlb h)
  have HR := mkHid hrb
  clear hl hr hlb hrb
  go_enter Try.func3, Try.ntmps3
  go_wp2_with fail
  refine HD.out.mono ?_
  rintro e w1 ⟨a1, c1, l, r, k, n, t, x, rfl, h1, h2, h3, h4, h5, h6, hr1, hb1⟩
  have S1 := mkHid (((mem_addrow ((mem.start w).next hb1) hr1).var (.cells #[.slice a1 l.length c1, .int .i64 r] 25)).var (.cells #[.int .i64 k, .string n, .string t, .string x] 27))
  have hz1 : (w1.alloc (.cells #[.slice a1 l.length c1, .int .i64 r] 25)).heap.size = w1.heap.size + 1 := by simp
  rw [hz1] at S1
  have HI := mkHid (fun wx (hx : Rd wx a1 (cs l)) => driveDoI_any a1 c1 l r k n t x wx (by omega) h2 (by omega) (by omega) (by omega) hx)
  have HS := mkHid (fun wx (hx : Rd wx a1 (cs l)) => driveDoS_any a1 c1 l r k n t x wx (by omega) h2 h3 (by omega) (by omega) (by omega) hx)
  have HRS := mkHid (fun wx (hx : Rd wx a1 (cs l)) => right_any a1 c1 l r wx (by omega) h2 hx)
  have HCr := mkHid (fun ak ck ks wx (hk : ks.length ≤ 30) (hx : Rd wx a1 (cs l)) (hy : Rd wx ak (ix ks)) => crashI_any a1 ak c1 ck l r ks wx (by omega) (by omega) h2 hx hy)
  have HK := mkHid (fun l2 r2 (h : driveB l r = true) (hd : doT l r k n t x = (l2, r2, 0)) => do_reads h hd)
  unfold OPost at HI HS
  unfold DPost at HCr
  obtain ⟨ov, ho⟩ : ∃ ov, ov = doT l r k n t x := ⟨_, rfl⟩
  rw [← ho] at HI HS HK
  obtain ⟨l2, r2, q2⟩ := ov
  simp only at HI HS
  clear ho hb1 hr1 HD h3 h4 h5 h6 hz1
  obtain ⟨d0, d1⟩ := cel2 S1.out.b1
  obtain ⟨o0, o1, o2, o3⟩ := drv.cel4 S1.out.b0
  go_wp2_with fail
  refine (HI.out _ S1.out.r0).mono ?_
  rintro e w2 ⟨a2, c2, rfl, ho2, hf2, hb2, hc2⟩
  have S2 := mkHid ((S1.out.row hb2 ho2.rd hf2).var (.cells #[.slice a2 l2.length c2, .int .i64 r2, .int .i64 q2] 31))
  clear hb2 ho2 hf2 hc2 S1 HI d0 d1 o0 o1 o2 o3
  obtain ⟨d0, d1⟩ := cel2 S2.out.b2
  obtain ⟨o0, o1, o2, o3⟩ := drv.cel4 S2.out.b1
  go_wp2_with fail
  refine (HS.out _ S2.out.r1).mono ?_
  rintro e w3 ⟨a3, c3, rfl, ho3, hf3, hb3, hc3⟩
  have S3 := mkHid ((S2.out.next hb3).var (.cells #[.slice a3 l2.length c3, .int .i64 r2, .int .i64 q2] 31))
  clear hb3 ho3 hf3 hc3 S2 HS d0 d1 o0 o1 o2 o3
  obtain ⟨x0, x1, x2⟩ := cel3 S3.out.b1
  obtain ⟨y0, y1, y2⟩ := cel3 S3.out.b0
  obtain ⟨d0, d1⟩ := cel2 S3.out.b3
  have hqq : (q2 != q2) = false := by simp
  have hqe : (q2 == q2) = true := by simp
  go_wp2_with fail
  refine (HRS.out _ S3.out.r1).mono ?_
  rintro e w4 ⟨rfl, hb4⟩
  have S4 := mkHid (S3.out.next hb4)
  clear hb4 S3 HRS x0 x1 x2 y0 y1 y2 d0 d1
  obtain ⟨x0, x1, x2⟩ := cel3 S4.out.b1
  obtain ⟨y0, y1, y2⟩ := cel3 S4.out.b0
  cases hdr : driveB l r with
  | false =>
    clear HE HR HCr HK
    go_wp2
    go_ret
    exact ⟨rfl, S4.out.below⟩
  | true =>
    clear y0 y1 y2
    obtain ⟨d0, d1⟩ := cel2 S4.out.b3
    go_wp2_with fail
    refine (HE.out _ (HR.out.below S4.out.below)).mono ?_
    rintro e w5 ⟨a5, c5, l5, r5, ak, ck, ks, rfl, hk30, hr5, hb5⟩
    have S5 := mkHid ((mem_addrow (S4.out.next hb5) hr5).var (.cells #[.slice a5 l5.length c5, .int .i64 r5] 25))
    have HC1 := mkHid (fun wx hx hy => HCr.out ak ck ks wx hk30 hx hy)
    rw [crash_is hdr hk30] at HC1
    simp only at HC1
    have HAt := mkHid (fun j f hf => keep_at hdr ks (j := j) (f := f) hf)
    have hlk := keepL_len l ks
    have hdk := crash_right ks hdr
    have hl60 := (driveB_parts hdr).1
    have HKR := mkHid (fun ac cc wx (hx : Rd wx ac (cs (keepL l ks))) => rightI_any ac cc (keepL l ks) r wx (by omega) (draw.right_small hdk) hx)
    rw [hdk] at HKR
    generalize keepL l ks = lk at *
    simp only [hlk] at HC1 HKR
    clear hlk
    clear hb5 hr5 S4 HE HR HCr x0 x1 x2 d0 d1 hk30 hdk
    obtain ⟨d0, d1⟩ := cel2 S5.out.b4
    go_wp2_with fail
    refine (HC1.out _ S5.out.r2 S5.out.r0).mono ?_
    rintro e w6 ⟨a6, c6, rfl, ho6, hf6, hb6, hc6⟩
    have S6 := mkHid ((S5.out.row hb6 ho6.rd hf6).var (.cells #[.slice a6 l.length c6, .int .i64 r] 25))
    clear hb6 ho6 hf6 hc6 S5 HC1 d0 d1
    obtain ⟨e0, e1⟩ := cel2 S6.out.b0
    have hlki : ((l.length : Int) != (l.length : Int)) = false := by simp
    go_wp2_with fail
    refine (HKR.out _ _ _ S6.out.r0).mono ?_
    rintro e w7 ⟨rfl, hb7⟩
    have S7 := mkHid (S6.out.next hb7)
    clear hb7 S6 HKR e0 e1
    obtain ⟨e0, e1⟩ := cel2 S7.out.b0
    obtain ⟨d0, d1⟩ := cel2 S7.out.b5
    obtain ⟨x0, x1, x2⟩ := cel3 S7.out.b3
    by_cases hq : q2 = 0
    · subst hq
      obtain ⟨hd2, hrd⟩ := HK.out l2 r2 hdr rfl
      have hl2 := (driveB_parts hd2).1
      have hs2 := draw.right_small hd2
      have HRI2 := mkHid (fun wx (hx : Rd wx a2 (cs l2)) => rightI_any a2 c2 l2 r2 wx (by omega) hs2 hx)
      rw [hd2] at HRI2
      have HRd := mkHid (fun nm wx (hn : nm.size ≤ 80) (hx : Rd wx a2 (cs l2)) => readI_any a2 c2 l2 r2 nm wx (by omega) hs2 (by omega) hx)
      have HK2 := mkHid hrd
      clear HK hd2 hrd hl2 hs2
      go_wp2_with fail
      refine (HRI2.out _ S7.out.r2).mono ?_
      rintro e w8 ⟨rfl, hb8⟩
      have S8 := mkHid (S7.out.next hb8)
      clear hb8 S7 HRI2 d0 d1 e0 e1 x0 x1 x2
      go_wp2_with fail
      go_loopw [12, 13, 14, 15] (fun i f g nn wr => ∃ j : Nat, i = .int .i64 j ∧ j ≤ l.length ∧ Hid (mem.Mem w [(w6.heap.size, .cells #[.slice a6 l.length c6, .int .i64 r] 25), (w5.heap.size, .cells #[.slice a5 l5.length c5, .int .i64 r5] 25), (w3.heap.size, .cells #[.slice a3 l2.length c3, .int .i64 r2, .int .i64 0] 31), (w2.heap.size, .cells #[.slice a2 l2.length c2, .int .i64 r2, .int .i64 0] 31), (w1.heap.size + 1, .cells #[.int .i64 k, .string n, .string t, .string x] 27), (w1.heap.size, .cells #[.slice a1 l.length c1, .int .i64 r] 25)] [(a6, cs lk), (ak, ix ks), (a2, cs l2), (a1, cs l)] [] wr))
        (fun i _ _ _ _ => l.length - (intOf i).toNat)
      case atStart => exact ⟨0, rfl, Nat.zero_le _, S8⟩
      case round =>
        clear S8
        obtain ⟨j, rfl, hj, hS⟩ := hrel
        obtain ⟨d0, d1⟩ := cel2 hS.out.b5
        obtain ⟨e0, e1⟩ := cel2 hS.out.b0
        by_cases hlt : j < l.length
        · have hlti : (j : Int) < (l.length : Int) := by omega
          obtain ⟨⟨n0, t0, z0⟩, hf⟩ : ∃ f, l[j]? = some f := ⟨_, List.getElem?_eq_getElem hlt⟩
          obtain ⟨m, hg, hm1, hm2, hm3, hn80, ht2⟩ := HAt.out j _ hf
          simp only at hg hm1 hm2 hm3 hn80 ht2
          have hsl := fun wx => slice_to t0 m hm2 wx
          generalize t0.extract 0 m = gt at *
          subst hm3
          obtain ⟨ga, oa, rfl, u0, u1, u2, lu⟩ := rwStored.el hS.out.r3 hf
          obtain ⟨gc, oc, rfl, v0, v1, v2, lv⟩ := rwStored.el hS.out.r0 hg
          simp only at u0 u1 u2 v0 v1 v2
          have hne0 : (!n0.toList == n0.toList) = false := by simp
          have hge : (!gt.toList == gt.toList) = false := by simp
          have hzz : ((gt.size : Int) != (gt.size : Int)) = false := by simp
          have hm2i : (gt.size : Int) ≤ (t0.size : Int) := by omega
          have HRj := mkHid (fun (q1 : ¬ n0 = n) (q3 : ¬ n0 = t) => HK2.out (n0, t0, z0) (List.mem_of_getElem? hf) q1 q3)
          have SF := mkHid ((hS.out.var (.cells #[.string n0, .string t0, .int .i64 z0] 39)).var (.cells #[.string n0, .string gt, .int .i64 gt.size] 39))
          have hsF : (wr.alloc (.cells #[.string n0, .string t0, .int .i64 z0] 39)).heap.size = wr.heap.size + 1 := by simp
          rw [hsF] at SF
          have hc6l : w6.heap.size < wr.heap.size := (Array.getElem?_eq_some_iff.1 hS.out.b0).1
          have hd1l : w1.heap.size < wr.heap.size := (Array.getElem?_eq_some_iff.1 hS.out.b5).1
          clear hf hg hS hsF
          go_wp2_with fail
          generalize (wr.alloc (.cells #[.string n0, .string t0, .int .i64 z0] 39)).alloc (.cells #[.string n0, .string gt, .int .i64 gt.size] 39) = wf at *
          clear d0 d1 e0 e1 u0 u1 u2 v0 v1 v2 lu lv hc6l hd1l
          obtain ⟨f0, f1, f2⟩ := cel3 SF.out.b1
          obtain ⟨g0, g1, g2⟩ := cel3 SF.out.b0
          obtain ⟨x0, x1, x2⟩ := cel3 SF.out.b5
          obtain ⟨o0, o1, o2, o3⟩ := drv.cel4 (SF.out.b ⟨w1.heap.size + 1, _⟩ (.tail _ (.tail _ (.tail _ (.tail _ (.tail _ (.tail _ (.head _))))))))
          go_quiet (fail)
          have SG := mkHid (SF.out.same (wy := wf.drewN nq) rfl rfl rfl rfl)
          clear SF f0 f1 f2 g0 g1 g2 x0 x1 x2 o0 o1 o2 o3
          generalize wf.drewN nq = wg at *
          go_wp2_with fail
          clear hsl hge hzz hm1 hm2i hm2 hne0
          obtain ⟨f0, f1, f2⟩ := cel3 SG.out.b1
          obtain ⟨x0, x1, x2⟩ := cel3 SG.out.b5
          obtain ⟨o0, o1, o2, o3⟩ := drv.cel4 (SG.out.b ⟨w1.heap.size + 1, _⟩ (.tail _ (.tail _ (.tail _ (.tail _ (.tail _ (.tail _ (.head _))))))))
          by_cases hn : n0 = n
          · have hN : (!n0.toList == n.toList) = false := by simp [hn]
            clear hn HRj
            go_quiet (fail)
            have N1 := mkHid (SG.out.pick (bs' := [(w6.heap.size, .cells #[.slice (some ⟨gc, oc, none⟩) l.length c6, .int .i64 r] 25), (w5.heap.size, .cells #[.slice a5 l5.length c5, .int .i64 r5] 25), (w3.heap.size, .cells #[.slice a3 l2.length c3, .int .i64 r2, .int .i64 0] 31), (w2.heap.size, .cells #[.slice a2 l2.length c2, .int .i64 r2, .int .i64 0] 31), (w1.heap.size + 1, .cells #[.int .i64 k, .string n, .string t, .string x] 27), (w1.heap.size, .cells #[.slice (some ⟨ga, oa, none⟩) l.length c1, .int .i64 r] 25)]) (fun p hp => .tail _ (.tail _ hp)))
            clear SG f0 f1 f2 x0 x1 x2 o0 o1 o2 o3
            go_wp2
            exact ⟨⟨j + 1, by go_num, by omega, mkHid (N1.out.same rfl rfl rfl rfl)⟩, by simp [intOf]; omega⟩
          · have hN0 := strs.bytes_ne hn
            have hN : (!n0.toList == n.toList) = true := by rw [hN0]; rfl
            clear hN0
            by_cases hto : n0 = t
            · have hT : (!n0.toList == t.toList) = false := by simp [hto]
              clear hto hn HRj
              go_quiet (fail)
              have N1 := mkHid (SG.out.pick (bs' := [(w6.heap.size, .cells #[.slice (some ⟨gc, oc, none⟩) l.length c6, .int .i64 r] 25), (w5.heap.size, .cells #[.slice a5 l5.length c5, .int .i64 r5] 25), (w3.heap.size, .cells #[.slice a3 l2.length c3, .int .i64 r2, .int .i64 0] 31), (w2.heap.size, .cells #[.slice a2 l2.length c2, .int .i64 r2, .int .i64 0] 31), (w1.heap.size + 1, .cells #[.int .i64 k, .string n, .string t, .string x] 27), (w1.heap.size, .cells #[.slice (some ⟨ga, oa, none⟩) l.length c1, .int .i64 r] 25)]) (fun p hp => .tail _ (.tail _ hp)))
              clear SG f0 f1 f2 x0 x1 x2 o0 o1 o2 o3
              go_wp2
              exact ⟨⟨j + 1, by go_num, by omega, mkHid (N1.out.same rfl rfl rfl rfl)⟩, by simp [intOf]; omega⟩
            · have hT0 := strs.bytes_ne hto
              have hT : (!n0.toList == t.toList) = true := by rw [hT0]; rfl
              have hrd := HRj.out hn hto
              have HR9 := mkHid (fun wx hx => HRd.out n0 wx hn80 hx)
              rw [hrd] at HR9
              have hcmp := fun wx => dat_ne t0 0 wx
              clear hT0 hn hto HRj hrd
              go_region_held3 (fun w' => w'.cell? ⟨wr.heap.size, 0, none⟩ = some (.string n0) ∧ w'.cell? ⟨wr.heap.size, 1, none⟩ = some (.string t0) ∧ w'.cell? ⟨w2.heap.size, 0, none⟩ = some (.slice a2 l2.length c2) ∧ w'.cell? ⟨w2.heap.size, 1, none⟩ = some (.int .i64 r2) ∧ w'.cell? ⟨w2.heap.size, 2, none⟩ = some (.int .i64 0) ∧ w'.cell? ⟨w1.heap.size + 1, 1, none⟩ = some (.string n) ∧ w'.cell? ⟨w1.heap.size + 1, 2, none⟩ = some (.string t)) (go_keep)
                (first
                 | (go_at_call 17; refine Calls.mono (HR9.out _ (by exact SG.out.r2)) ?_; rintro e w9 ⟨rfl, hb9⟩; have S9 := mkHid (SG.out.next (re (w := wg) hb9 rfl rfl rfl rfl)); obtain ⟨p0, p1, p2⟩ := cel3 S9.out.b1; obtain ⟨y0, y1, y2⟩ := cel3 S9.out.b5; obtain ⟨q0, q1, q2, q3⟩ := drv.cel4 (S9.out.b ⟨w1.heap.size + 1, _⟩ (.tail _ (.tail _ (.tail _ (.tail _ (.tail _ (.tail _ (.head _)))))))); clear hb9))
              have N1 := mkHid (S9.out.pick (bs' := [(w6.heap.size, .cells #[.slice (some ⟨gc, oc, none⟩) l.length c6, .int .i64 r] 25), (w5.heap.size, .cells #[.slice a5 l5.length c5, .int .i64 r5] 25), (w3.heap.size, .cells #[.slice a3 l2.length c3, .int .i64 r2, .int .i64 0] 31), (w2.heap.size, .cells #[.slice a2 l2.length c2, .int .i64 r2, .int .i64 0] 31), (w1.heap.size + 1, .cells #[.int .i64 k, .string n, .string t, .string x] 27), (w1.heap.size, .cells #[.slice (some ⟨ga, oa, none⟩) l.length c1, .int .i64 r] 25)]) (fun p hp => .tail _ (.tail _ hp)))
              clear S9 f0 f1 f2 x0 x1 x2 o0 o1 o2 o3
              go_wp2
              exact ⟨⟨j + 1, by go_num, by omega, mkHid (N1.out.same rfl rfl rfl rfl)⟩, by simp [intOf]; omega⟩
        · obtain rfl : j = l.length := by omega
          have B := mkHid hS.out.below
          clear hS
          go_wp2
          go_ret
          exact ⟨rfl, B.out⟩
    · have hq0 : (q2 == 0) = false := by simp [hq]
      clear HK hq
      go_wp2_with fail
      clear d0 d1 e0 e1 x0 x1 x2
      go_loopw [12, 13, 14, 15] (fun i f g nn wr => ∃ j : Nat, i = .int .i64 j ∧ j ≤ l.length ∧ Hid (mem.Mem w [(w6.heap.size, .cells #[.slice a6 l.length c6, .int .i64 r] 25), (w5.heap.size, .cells #[.slice a5 l5.length c5, .int .i64 r5] 25), (w3.heap.size, .cells #[.slice a3 l2.length c3, .int .i64 r2, .int .i64 q2] 31), (w2.heap.size, .cells #[.slice a2 l2.length c2, .int .i64 r2, .int .i64 q2] 31), (w1.heap.size + 1, .cells #[.int .i64 k, .string n, .string t, .string x] 27), (w1.heap.size, .cells #[.slice a1 l.length c1, .int .i64 r] 25)] [(a6, cs lk), (ak, ix ks), (a2, cs l2), (a1, cs l)] [] wr))
        (fun i _ _ _ _ => l.length - (intOf i).toNat)
      case atStart => exact ⟨0, rfl, Nat.zero_le _, S7⟩
      case round =>
        clear S7
        obtain ⟨j, rfl, hj, hS⟩ := hrel
        obtain ⟨d0, d1⟩ := cel2 hS.out.b5
        obtain ⟨e0, e1⟩ := cel2 hS.out.b0
        by_cases hlt : j < l.length
        · have hlti : (j : Int) < (l.length : Int) := by omega
          obtain ⟨⟨n0, t0, z0⟩, hf⟩ : ∃ f, l[j]? = some f := ⟨_, List.getElem?_eq_getElem hlt⟩
          obtain ⟨m, hg, hm1, hm2, hm3, hn80, ht2⟩ := HAt.out j _ hf
          simp only at hg hm1 hm2 hm3 hn80 ht2
          have hsl := fun wx => slice_to t0 m hm2 wx
          generalize t0.extract 0 m = gt at *
          subst hm3
          obtain ⟨ga, oa, rfl, u0, u1, u2, lu⟩ := rwStored.el hS.out.r3 hf
          obtain ⟨gc, oc, rfl, v0, v1, v2, lv⟩ := rwStored.el hS.out.r0 hg
          simp only at u0 u1 u2 v0 v1 v2
          have hne0 : (!n0.toList == n0.toList) = false := by simp
          have hge : (!gt.toList == gt.toList) = false := by simp
          have hzz : ((gt.size : Int) != (gt.size : Int)) = false := by simp
          have hm2i : (gt.size : Int) ≤ (t0.size : Int) := by omega
          have SF := mkHid ((hS.out.var (.cells #[.string n0, .string t0, .int .i64 z0] 39)).var (.cells #[.string n0, .string gt, .int .i64 gt.size] 39))
          have hsF : (wr.alloc (.cells #[.string n0, .string t0, .int .i64 z0] 39)).heap.size = wr.heap.size + 1 := by simp
          rw [hsF] at SF
          have hc6l : w6.heap.size < wr.heap.size := (Array.getElem?_eq_some_iff.1 hS.out.b0).1
          have hd1l : w1.heap.size < wr.heap.size := (Array.getElem?_eq_some_iff.1 hS.out.b5).1
          clear hf hg hS hsF
          go_wp2_with fail
          generalize (wr.alloc (.cells #[.string n0, .string t0, .int .i64 z0] 39)).alloc (.cells #[.string n0, .string gt, .int .i64 gt.size] 39) = wf at *
          clear d0 d1 e0 e1 u0 u1 u2 v0 v1 v2 lu lv hc6l hd1l
          obtain ⟨f0, f1, f2⟩ := cel3 SF.out.b1
          obtain ⟨g0, g1, g2⟩ := cel3 SF.out.b0
          obtain ⟨x0, x1, x2⟩ := cel3 SF.out.b5
          obtain ⟨o0, o1, o2, o3⟩ := drv.cel4 (SF.out.b ⟨w1.heap.size + 1, _⟩ (.tail _ (.tail _ (.tail _ (.tail _ (.tail _ (.tail _ (.head _))))))))
          go_quiet (fail)
          have SG := mkHid (SF.out.same (wy := wf.drewN nq) rfl rfl rfl rfl)
          clear SF f0 f1 f2 g0 g1 g2 x0 x1 x2 o0 o1 o2 o3
          generalize wf.drewN nq = wg at *
          go_wp2_with fail
          clear hsl hge hzz hm1 hm2i hm2 hne0
          obtain ⟨f0, f1, f2⟩ := cel3 SG.out.b1
          obtain ⟨x0, x1, x2⟩ := cel3 SG.out.b5
          obtain ⟨o0, o1, o2, o3⟩ := drv.cel4 (SG.out.b ⟨w1.heap.size + 1, _⟩ (.tail _ (.tail _ (.tail _ (.tail _ (.tail _ (.tail _ (.head _))))))))
          go_quiet (fail)
          have N1 := mkHid (SG.out.pick (bs' := [(w6.heap.size, .cells #[.slice (some ⟨gc, oc, none⟩) l.length c6, .int .i64 r] 25), (w5.heap.size, .cells #[.slice a5 l5.length c5, .int .i64 r5] 25), (w3.heap.size, .cells #[.slice a3 l2.length c3, .int .i64 r2, .int .i64 q2] 31), (w2.heap.size, .cells #[.slice a2 l2.length c2, .int .i64 r2, .int .i64 q2] 31), (w1.heap.size + 1, .cells #[.int .i64 k, .string n, .string t, .string x] 27), (w1.heap.size, .cells #[.slice (some ⟨ga, oa, none⟩) l.length c1, .int .i64 r] 25)]) (fun p hp => .tail _ (.tail _ hp)))
          clear SG f0 f1 f2 x0 x1 x2 o0 o1 o2 o3
          go_wp2
          exact ⟨⟨j + 1, by go_num, by omega, mkHid (N1.out.same rfl rfl rfl rfl)⟩, by simp [intOf]; omega⟩
        · obtain rfl : j = l.length := by omega
          have B := mkHid hS.out.below
          clear hS
          go_wp2
          go_ret
          exact ⟨rfl, B.out⟩
end Go.Proofs.Ytfckgpmphcadeaa.drv
namespace Go.Proofs.Ytfckgpmphcadeaa.drv
open Go.RowKit Go.Joins Go.Sort
open Go.Proofs.Ytfckgpmphcadeaa.base Go.Proofs.Ytfckgpmphcadeaa.blk Go.Proofs.Ytfckgpmphcadeaa.aid
open Go.Proofs.Ytfckgpmphcadeaa.draw (Row)
set_option linter.unusedVariables false

set_option maxRecDepth 100000 in
theorem fnDrive_walk (a : Option Addr) (len cap : Nat) (b : Option Addr) (lenb capb : Nat) (w : World) (hl : (len : Int) ≤ 9223372036854775807) (hr : Row w a len) (hlb : (lenb : Int) ≤ 9223372036854775807) (hrb : Row w b lenb) :
    Calls Try.prog 3 #[.slice a len cap, .slice b lenb capb] w fun e w' => e = .returned (.bool true) ∧ Below w.heap.size w w' := by
  by_cases h0 : 1048576 < (len : Int)
  · clear hr hrb
    go_enter Try.func3, Try.ntmps3
    go_wp2
    go_ret
    exact ⟨rfl, Below.refl _ _⟩
  by_cases h1 : 1048576 < (lenb : Int)
  · have h0' : (len : Int) ≤ 1048576 := by omega
    clear hr hrb
    go_enter Try.func3, Try.ntmps3
    go_wp2
    go_ret
    exact ⟨rfl, Below.refl _ _⟩
  exact fnDrive_in a len cap b lenb capb w (by omega) hr (by omega) hrb
end Go.Proofs.Ytfckgpmphcadeaa.drv
