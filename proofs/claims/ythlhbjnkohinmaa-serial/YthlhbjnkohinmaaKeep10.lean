/- The book of Serial: Commit by one who is there. -/
import Derived.Test.YthlhbjnkohinmaaKeep9
namespace Go.Proofs.Ythlhbjnkohinmaa
open Go.RowKit

theorem bclash_at {B : Bk} {C : Cli} {k : Nat} (hk : k < 60) (hw : C.wrote k = true) (hl : C.begun < B.latest k) : bclash B C = true := by
  unfold bclash
  rw [List.any_eq_true]
  exact ⟨k, by simpa using hk, by simp [hw]; omega⟩
theorem bclash_not {B : Bk} {C : Cli} (h : ∀ k, k < 60 → C.wrote k = true → ¬ C.begun < B.latest k) : bclash B C = false := by
  cases hb : bclash B C with
  | false => rfl
  | true =>
    exfalso
    unfold bclash at hb
    rw [List.any_eq_true] at hb
    obtain ⟨c, hc, h1⟩ := hb
    simp at hc h1
    exact h c hc h1.1 (by omega)

theorem BkAt.lay2 {w : World} {b k : Nat} {B : Bk} {C : Cli} {v : Value} {cm vj : Int} (h : BkAt w b (bcomN B C k) v) (hk : k < 60) (hw : true = C.wrote k) (hc : cm = B.commits) (hv : vj = C.vals k) :
    Fr [b] w ((w.setCell ⟨b, 2 + k, none⟩ (.int .i64 (cm + 1))).setCell ⟨b, 62 + k, none⟩ (.int .u8 vj)).drew.drew ∧ BkAt ((w.setCell ⟨b, 2 + k, none⟩ (.int .i64 (cm + 1))).setCell ⟨b, 62 + k, none⟩ (.int .u8 vj)).drew.drew b (bcomN B C (k + 1)) v := by
  subst hc hv
  obtain ⟨cs, hb⟩ := h.block
  have far : ∀ i u, i ≠ 62 + k → ((w.setCell ⟨b, 2 + k, none⟩ (.int .i64 (B.commits + 1))).setCell ⟨b, 62 + k, none⟩ u).cell? ⟨b, i, none⟩ = (w.setCell ⟨b, 2 + k, none⟩ (.int .i64 (B.commits + 1))).cell? ⟨b, i, none⟩ := fun i u h1 => World.cell?_setCell_other _ _ _ _ (by intro e; injection e with e1 e2; omega)
  have far2 : ∀ i u, i ≠ 2 + k → (w.setCell ⟨b, 2 + k, none⟩ u).cell? ⟨b, i, none⟩ = w.cell? ⟨b, i, none⟩ := fun i u h1 => World.cell?_setCell_other _ _ _ _ (by intro e; injection e with e1 e2; omega)
  refine ⟨((((Fr.refl [b] w).set (.inl (by simp)) _).set (.inl (by simp)) _).drewN 1).drewN 1, BkAt.lay h hk hw.symm ?_ ?_ ⟨_, blk_setCell (blk_setCell hb _ _) _ _⟩ (fun i h1 h2 => (far i _ h2).trans (far2 i _ h1))⟩
  · exact (far _ _ (by omega)).trans (World.cell?_setCell_same _ _ _ (h.latest k hk))
  · exact World.cell?_setCell_same _ _ _ ((far2 _ _ (by omega)).trans (h.vals k hk))

theorem keptN_le {X : PEng} {m : Int} (h : ∀ c, c < 60 → ((X.hist c).length : Int) ≤ m) (hm : m ≤ 14) (h0 : 0 ≤ m) : ∀ n, n ≤ 60 → (keptN X n : Int) ≤ n * 14
  | 0, _ => by simp [keptN]
  | n + 1, hn => by
    have h1 := keptN_le h hm h0 n (by omega)
    have h2 := h n (by omega)
    unfold keptN
    omega

set_option maxRecDepth 20000 in
set_option maxHeartbeats 4000000 in
/-- A commit by one who is there. -/
theorem bended_commit_some (b x i : Nat) (B : Bk) (X : PEng) (fb fx : List Nat) (n c : Int) (s : ByteArray) (w : World) (h : KAt b x B X w fb fx) (hg : KGood i B X) (hi : i ≤ 4000000000000) (k ci : Nat) (L : List (Nat × Nat)) (hs : BSim X B L) (hq : (k, ci) ∈ L) (hci : ci < B.cls.length) (hfp : findP X n = some k) (hbf : bfind B n = some ci) (h15 : B.commits < 15) :
    Calls Try.prog 12 #[.pointer (some ⟨b, 0, none⟩), .pointer (some ⟨x, 0, none⟩), actV 6 n c s] w fun e w' => e = .returned (.bool true) ∧ KNext b x i (fb ++ fx) w w' := by
  obtain ⟨nb, nx, dis, lb, lx⟩ := h.parts
  have hfew := hg.few
  have hlat := hs.latest
  have hpos := hs.pos
  have hcom := hg.com
  have hhist := hg.hist
  have hcnt := hg.cnt.commit n
  have HA : Hid (∀ W, Fr [] w W → Calls Try.prog 16 #[.pointer (some ⟨x, 0, none⟩), actV 6 n c s] W fun e w' => e = .returned (ansV ByteArray.empty (pcommitF X n).1.1 0 (pcommitF X n).1.2) ∧ ATo (PEngA x (pcommitF X n).2) fx W w') := hid (fun W hW => act_commit x X fx n c s W (PEngA.framed _ _ h.eng hW (by simp)) nx (by omega) (fun c _ => by have := hhist c; omega) (fun k _ => by have := keptN_le hs.histN (by omega) hpos 60 (Nat.le_refl _); have := writN_le (X.ses k) 60; rw [hs.room]; omega) (by rw [hs.room]; decide))
  have HZ : Hid (w.heap.size ∉ fx) := hid (fun e => by have := lx _ e; omega)
  have HB : Hid (∀ w1, ATo (PEngA x (pcommitF X n).2) fx (w.alloc (.cells #[.int .i64 6, .int .i64 n, .int .i64 c, .string s] 33)) w1 → BkA b B w1 fb) := hid (fun w1 h1 => h.bookAt (h1.before (fr_alloc w _)))
  have HEND : Hid (∀ w1 w2 B', ATo (PEngA x (pcommitF X n).2) fx (w.alloc (.cells #[.int .i64 6, .int .i64 n, .int .i64 c, .string s] 33)) w1 → ATo (BkA b B') fb w1 w2 → KTo b x B' (pcommitF X n).2 (fb ++ fx) w w2) := hid (fun w1 w2 B' h1 h2 => KTo.both h (h1.before (fr_alloc w _)) h2)
  have HLB := hid lb
  have HQ : Hid (∀ w1 w2, BkA b B w1 fb → Fr [] w1 w2 → ATo (BkA b B) fb w1 w2) := hid (fun w1 w2 hb hf => ⟨fb, BkA.framed _ _ hb hf (by simp), nb, fun _ hy => .inl hy, hf.mono (fun k hk => by cases hk)⟩)
  have hans := commit_ans hs hq hfp hci
  obtain ⟨_, hcnum, hcsim⟩ := hs.cli (k, ci) hq
  have hdrop := hs.drop hq B.cls[ci].off rfl (fun d hd => hs.cbyte _ (List.getElem_mem hci) d hd)
  have hcb := hs.cbyte _ (List.getElem_mem hci)
  obtain ⟨C, hC⟩ : ∃ C, C = B.cls[ci] := ⟨_, rfl⟩
  rw [← hC] at hans hcsim hdrop hcb
  have HG1 : Hid ((pcommitF X n).2 = X.setSes k .zero → KGood (i + 1) (B.setC ci C.off) (pcommitF X n).2) := hid (fun e => ⟨⟨_, by rw [e]; exact hdrop⟩, by simp [Bk.setC]; omega, fun c => by rw [e]; exact Nat.le_succ_of_le (hhist c), by show B.commits ≤ ((i + 1 : Nat) : Int); omega, hcnt⟩)
  have HG2 : Hid ((pcommitF X n).2 = (X.setSes k .zero).commit (X.ses k) → KGood (i + 1) ((B.setC ci C.off).commit C) (pcommitF X n).2) := hid (fun e => ⟨⟨_, by rw [e]; exact hdrop.commit (fun d hd => hcsim.wr d hd) hcb⟩, by simp [Bk.setC, Bk.commit]; omega, fun d => by
    rw [e]
    show (match (X.ses k).wr d with | some v => X.hist d ++ [(X.latest + 1, v)] | none => X.hist d).length ≤ i + 1
    have := hhist d
    cases (X.ses k).wr d with
    | none => simp only []; omega
    | some v => simp; omega, by show B.commits + 1 ≤ ((i + 1 : Nat) : Int); omega, hcnt⟩)
  have HBF := hid hbf
  have HCC := hid hC
  have HANS := hid hans
  clear hg hs hfp hbf nx dis lb lx hq hcsim hcnum hdrop hcb hans hlat hhist hcnt h
  have A1 : Hid (bclash B C = true → pcommitF X n = ((0, 10), X.setSes k .zero)) := hid (fun e => by rw [HANS.out, bclash_some e, e]; rfl)
  have A2 : Hid (bsome C = false → pcommitF X n = ((0, 0), X.setSes k .zero)) := hid (fun e => by rw [HANS.out, e]; rfl)
  have A3 : Hid (bsome C = true → bclash B C = false → pcommitF X n = ((B.commits + 1, 0), (X.setSes k .zero).commit (X.ses k))) := hid (fun e e' => by rw [HANS.out, e, e']; rfl)
  clear HANS
  obtain ⟨rn, hrn⟩ : ∃ rn, rn = (pcommitF X n).1.1 := ⟨_, rfl⟩
  obtain ⟨re, hre⟩ : ∃ re, re = (pcommitF X n).1.2 := ⟨_, rfl⟩
  rw [← hrn, ← hre] at HA
  have HRN := hid hrn
  have HRE := hid hre
  clear hrn hre
  go_enter Try.func12, Try.ntmps12
  go_wp2_with fail
  go_at_call 16
  refine (HA.out _ (fr_alloc w _)).mono ?_
  rintro e w1 ⟨rfl, ht⟩
  have HT := hid ht
  obtain ⟨_, _, _, _, hfr⟩ := ht
  have k0 := keepc hfr (cell_new (w := w) (cs := #[.int .i64 6, .int .i64 n, .int .i64 c, .string s]) (t := 33) (j := 0) rfl) HZ.out
  have k1 := keepc hfr (cell_new (w := w) (cs := #[.int .i64 6, .int .i64 n, .int .i64 c, .string s]) (t := 33) (j := 1) rfl) HZ.out
  have hsz1 := hfr.size
  have hHl : w.heap.size < w1.heap.size := by simp at hsz1; omega
  have hHz : w.heap.size ≠ w1.heap.size := by omega
  obtain ⟨v, ps, f3, g, hb1, hr1, hc1, hpg, hca, hgin, hgb, hset⟩ := (HB.out w1 HT.out).client nb hci
  rw [← HCC.out] at hca
  have HSET := hid hset
  have hgl := hca.lt
  have HBIN : Hid (b ∈ fb) := hid (by obtain ⟨_, _, _, _, _, _, _, e⟩ := HB.out w1 HT.out; rw [e]; simp)
  have hbl := hb1.lt
  have hgz : g ≠ w1.heap.size := by omega
  have hgH : g ≠ w.heap.size := fun e => by
    have h1 := HLB.out g hgin
    omega
  have u0 := hca.num
  obtain ⟨csg, hbg⟩ := hca.block
  have zg := frozen_blk hbg 0
  have hfc := bfind_any b B v ps f3 n (w1.alloc (.cells #[.string ByteArray.empty, .int .i64 rn, .int .i64 0, .int .i64 re] 44)) (hb1.fr (fr_alloc w1 _) (by simp)) (RowA.framed _ _ _ _ _ ⟨hr1, rfl⟩ (fr_alloc w1 _) (by simp)).1 (EachA.framed CliA.framed _ _ hc1 (fr_alloc w1 _) (by simp)) (by omega)
  rw [HBF.out] at hfc
  simp only [hpg] at hfc
  have HFC := hid hfc
  have hoff := (hca.fr (fr_alloc w1 (.cells #[.string ByteArray.empty, .int .i64 rn, .int .i64 0, .int .i64 re] 44)) (by simp)).off
  have ecomm : (w1.alloc (.cells #[.string ByteArray.empty, .int .i64 rn, .int .i64 0, .int .i64 re] 44)).setCell ⟨g, 0, none⟩ (.int .i64 0) = (w1.setCell ⟨g, 0, none⟩ (.int .i64 0)).alloc (.cells #[.string ByteArray.empty, .int .i64 rn, .int .i64 0, .int .i64 re] 44) := World.setCell_alloc_past _ g 0 _ hgl
  rw [ecomm] at hoff
  have HOFF := hid hoff.1
  have HBK := hid (HSET.out _ _ hoff.1 (((fr_alloc w1 _).mono (fun k hk => by cases hk)).trans hoff.2))
  have HFRO : Hid (Fr fb w1 ((w1.setCell ⟨g, 0, none⟩ (.int .i64 0)).alloc (.cells #[.string ByteArray.empty, .int .i64 rn, .int .i64 0, .int .i64 re] 44))) := hid (((fr_alloc w1 _).mono (fun k hk => by cases hk)).trans (hoff.2.mono (fun k hk => .inl (by simp at hk; rw [hk]; exact hgin))))
  have HR1 : Hid (((w1.setCell ⟨g, 0, none⟩ (.int .i64 0)).alloc (.cells #[.string ByteArray.empty, .int .i64 rn, .int .i64 0, .int .i64 re] 44)).cell? ⟨w1.heap.size, 1, none⟩ = some (.int .i64 rn)) := hid (by rw [← ecomm, World.cell?_setCell_other _ _ _ _ (by intro e; injection e with e1 e2; omega)]; exact cell_new rfl)
  have HR3 : Hid (((w1.setCell ⟨g, 0, none⟩ (.int .i64 0)).alloc (.cells #[.string ByteArray.empty, .int .i64 rn, .int .i64 0, .int .i64 re] 44)).cell? ⟨w1.heap.size, 3, none⟩ = some (.int .i64 re)) := hid (by rw [← ecomm, World.cell?_setCell_other _ _ _ _ (by intro e; injection e with e1 e2; omega)]; exact cell_new rfl)
  have HBB := hid (hb1.fr (fr_alloc w1 (.cells #[.string ByteArray.empty, .int .i64 rn, .int .i64 0, .int .i64 re] 44)) (by simp) |>.fr hoff.2 (by simp; exact fun e => hgb e.symm))
  generalize C.num = un at u0
  clear hfr hsz1 hfc hb1 hr1 hc1 hpg hset hca hbg hoff ecomm
  go_wp2_with fail
  go_at_call 28
  refine HFC.out.mono ?_
  rintro e w2 ⟨rfl, rfl⟩
  go_wp2_with fail
  generalize hW0 : (w1.setCell ⟨g, 0, none⟩ (.int .i64 0)).alloc (.cells #[.string ByteArray.empty, .int .i64 rn, .int .i64 0, .int .i64 re] 44) = W0 at HOFF HBK HFRO HR1 HR3 HBB ⊢
  have hz0 : w1.heap.size < W0.heap.size := by rw [← hW0]; simp
  clear hW0 k0 k1 u0 zg HFC HB HA
  have HEND1 : Hid (∀ W, Fr [] W0 W → (pcommitF X n).2 = X.setSes k .zero → KNext b x i (fb ++ fx) w W) := hid (fun W hW e => ⟨_, _, HEND.out w1 W _ HT.out ⟨fb, BkA.framed _ _ HBK.out hW (by simp), nb, fun _ hy => .inl hy, HFRO.out.trans (hW.mono (fun k hk => by cases hk))⟩, HG1.out e⟩)
  go_loopw [9, 10] (fun so t wr => ∃ j : Nat, j ≤ 60 ∧ t = .int .i64 j ∧ so = .bool (anyN C.wrote j) ∧ Fr [] W0 wr ∧ ∀ d, d < j → C.wrote d = true → B.latest d ≤ C.begun) (fun _ t _ => 60 - (intOf t).toNat)
  case atStart => exact ⟨0, by omega, rfl, rfl, Fr.refl [] W0, fun d hd => by omega⟩
  case round =>
    obtain ⟨j, hj, rfl, rfl, hf, hno⟩ := hrel
    have HF := hid hf
    have HNO := hid hno
    have ca := HOFF.out.fr hf (by simp)
    have bb := HBB.out.fr hf (by simp)
    have r1 := keep0 hf HR1.out
    have r3 := keep0 hf HR3.out
    have hsz := hf.size
    have hgr : g < wr.heap.size := by omega
    clear hf hno
    by_cases hlt : j < 60
    · have d0 : wr.cell? ⟨g, 2 + j, none⟩ = some (.bool (C.wrote j)) := ca.wrote j hlt
      have d1 : wr.cell? ⟨g, 1, none⟩ = some (.int .i64 C.begun) := ca.begun
      have d2 : wr.cell? ⟨b, 2 + j, none⟩ = some (.int .i64 (B.latest j)) := bb.latest j hlt
      have HSU := hid (anyN_succ C.wrote j)
      obtain ⟨wj, hwj⟩ : ∃ wj, wj = C.wrote j := ⟨_, rfl⟩
      obtain ⟨bg, hbg⟩ : ∃ bg, bg = C.begun := ⟨_, rfl⟩
      obtain ⟨lj, hlj⟩ : ∃ lj, lj = B.latest j := ⟨_, rfl⟩
      obtain ⟨sj, hsj⟩ : ∃ sj, sj = anyN C.wrote j := ⟨_, rfl⟩
      rw [← hwj] at d0 HSU
      rw [← hbg] at d1
      rw [← hlj] at d2
      rw [← hsj] at HSU ⊢
      have HWJ := hid hwj
      have HBG := hid hbg
      have HLJ := hid hlj
      clear ca bb hwj hbg hlj hsj
      have HGO : Hid ((wj = true → lj ≤ bg) → ∀ d, d < j + 1 → C.wrote d = true → B.latest d ≤ C.begun) := hid (fun h d hd hw => by
        by_cases e : d = j
        · subst e; rw [← HBG.out, ← HLJ.out]; exact h (by rw [HWJ.out]; exact hw)
        · exact HNO.out d (by omega) hw)
      cases wj with
      | false =>
        simp only [Bool.or_false] at HSU
        have HGO2 := hid (HGO.out (fun e => by cases e))
        cases sj with
        | false =>
          go_wp2_with fail
          go_quiet ((fail))
          go_wp2_with fail
          go_roundw
          case rel => exact ⟨j + 1, by omega, by go_num, by rw [HSU.out], HF.out.drewN _, HGO2.out⟩
          case measure => simp [intOf]; omega
        | true =>
          go_wp2_with fail
          go_quiet ((fail))
          go_wp2_with fail
          go_roundw
          case rel => exact ⟨j + 1, by omega, by go_num, by rw [HSU.out], HF.out.drewN _, HGO2.out⟩
          case measure => simp [intOf]; omega
      | true =>
        simp only [Bool.or_true] at HSU
        cases sj with
        | false =>
          by_cases hgt : bg < lj
          · have hcl : bclash B C = true := bclash_at hlt HWJ.out.symm (by rw [← HBG.out, ← HLJ.out]; exact hgt)
            have ea := A1.out hcl
            obtain rfl : rn = 0 := by rw [HRN.out, ea]
            obtain rfl : re = 10 := by rw [HRE.out, ea]
            have HFIN : Hid (∀ W, Fr [] W0 W → KNext b x i (fb ++ fx) w W) := hid (fun W hW => HEND1.out W hW (by rw [ea]))
            clear ea hcl
            go_wp2_with fail
            go_quiet ((fail))
            go_wp2_with fail
            go_ret
            exact ⟨rfl, HFIN.out _ (HF.out.drewN _)⟩
          · have HGO2 := hid (HGO.out (fun _ => by omega))
            go_wp2_with fail
            go_quiet ((fail))
            go_wp2_with fail
            go_roundw
            case rel => exact ⟨j + 1, by omega, by go_num, by rw [HSU.out], HF.out.drewN _, HGO2.out⟩
            case measure => simp [intOf]; omega
        | true =>
          by_cases hgt : bg < lj
          · have hcl : bclash B C = true := bclash_at hlt HWJ.out.symm (by rw [← HBG.out, ← HLJ.out]; exact hgt)
            have ea := A1.out hcl
            obtain rfl : rn = 0 := by rw [HRN.out, ea]
            obtain rfl : re = 10 := by rw [HRE.out, ea]
            have HFIN : Hid (∀ W, Fr [] W0 W → KNext b x i (fb ++ fx) w W) := hid (fun W hW => HEND1.out W hW (by rw [ea]))
            clear ea hcl
            go_wp2_with fail
            go_quiet ((fail))
            go_wp2_with fail
            go_ret
            exact ⟨rfl, HFIN.out _ (HF.out.drewN _)⟩
          · have HGO2 := hid (HGO.out (fun _ => by omega))
            go_wp2_with fail
            go_quiet ((fail))
            go_wp2_with fail
            go_roundw
            case rel => exact ⟨j + 1, by omega, by go_num, by rw [HSU.out], HF.out.drewN _, HGO2.out⟩
            case measure => simp [intOf]; omega
    · obtain rfl : j = 60 := by omega
      have HSO : Hid (anyN C.wrote 60 = bsome C) := hid rfl
      have hcl := bclash_not (B := B) (C := C) (fun d hd hw => by have := HNO.out d hd hw; omega)
      cases hso : bsome C with
      | false =>
        have ea := A2.out hso
        obtain rfl : rn = 0 := by rw [HRN.out, ea]
        obtain rfl : re = 0 := by rw [HRE.out, ea]
        have HFIN : Hid (∀ W, Fr [] W0 W → KNext b x i (fb ++ fx) w W) := hid (fun W hW => HEND1.out W hW (by rw [ea]))
        rw [HSO.out, hso]
        clear ea hcl ca bb hso
        go_wp2_with fail
        go_ret
        exact ⟨rfl, HFIN.out _ HF.out⟩
      | true =>
        have ea := A3.out hso hcl
        obtain rfl : rn = B.commits + 1 := by rw [HRN.out, ea]
        obtain rfl : re = 0 := by rw [HRE.out, ea]
        rw [HSO.out, hso]
        have HG3 := hid (HG2.out (by rw [ea]))
        have HE3 : Hid (∀ W, Fr [b] W0 W → BkAt W b (bcomN B C 60) v → KNext b x i (fb ++ fx) w W) := hid (fun W hW hB => ⟨_, _, HEND.out w1 W _ HT.out ⟨fb, BkA.own HBK.out nb (B' := (B.setC ci C.off).commit C) rfl hW (fun v' hb' => by
          have e : v' = v := by
            have h1 := hb'.cls
            rw [HBB.out.cls] at h1
            injection h1 with h1
            exact h1.symm
          subst e
          exact hB.congr rfl (fun c hc => by simp [Bk.commit, Bk.setC, bcomN, hc]) (fun c hc => by simp [Bk.commit, Bk.setC, bcomN, hc])), nb, fun _ hy => .inl hy, HFRO.out.trans (hW.mono (fun k hk => .inl (by simp at hk; subst hk; exact HBIN.out)))⟩, HG3.out⟩)
        have e0 : wr.cell? ⟨b, 1, none⟩ = some (.int .i64 B.commits) := bb.commits
        obtain ⟨cb, hcb⟩ := bb.block
        have zb := frozen_blk hcb 1
        have HBUMP := hid (BkAt.bump (C := C) bb)
        have HCA := hid HOFF.out
        obtain ⟨cm, hcm⟩ : ∃ cm, cm = B.commits := ⟨_, rfl⟩
        rw [← hcm] at HBUMP e0 r1 hpos hcom
        have HCM := hid hcm
        clear ea hcl ca bb hso hcb HSO hcm
        go_wp2_with fail
        generalize hW2 : wr.setCell ⟨b, 1, none⟩ (.int .i64 (cm + 1)) = W2 at HBUMP ⊢
        have HF2 : Hid (Fr [b] W0 W2) := hid ((HF.out.mono (fun k hk => by cases hk)).trans HBUMP.out.2)
        clear hW2 e0 zb r1 r3
        go_loopw [11] (fun t wr => ∃ j : Nat, j ≤ 60 ∧ t = .int .i64 j ∧ Fr [b] W0 wr ∧ BkAt wr b (bcomN B C j) v) (fun t _ => 60 - (intOf t).toNat)
        case atStart => exact ⟨0, by omega, rfl, HF2.out, HBUMP.out.1⟩
        case round =>
          obtain ⟨j, hj, rfl, hf, hbj⟩ := hrel
          have HFJ := hid hf
          have HBJ := hid hbj
          have ca := HOFF.out.fr hf (by simp; exact hgb)
          have r1 := keepc hf HR1.out (by simp; omega)
          have r3 := keepc hf HR3.out (by simp; omega)
          have e1 : wr.cell? ⟨b, 1, none⟩ = some (.int .i64 (cm + 1)) := by rw [HCM.out]; exact hbj.commits
          rw [← HCM.out] at r1
          have hsz := hf.size
          have hbr : b < wr.heap.size := by omega
          have hgr : g < wr.heap.size := by omega
          obtain ⟨cb, hcb⟩ := hbj.block
          have zb := frozen_blk hcb
          by_cases hlt : j < 60
          · have d0 : wr.cell? ⟨g, 2 + j, none⟩ = some (.bool (C.wrote j)) := ca.wrote j hlt
            have d1 : wr.cell? ⟨g, 62 + j, none⟩ = some (.int .u8 (C.vals j)) := ca.vals j hlt
            have d2 : ∃ q, wr.cell? ⟨b, 2 + j, none⟩ = some (.int .i64 q) := ⟨_, hbj.latest j hlt⟩
            have d3 : ∃ q, wr.cell? ⟨b, 62 + j, none⟩ = some (.int .u8 q) := ⟨_, hbj.vals j hlt⟩
            obtain ⟨q2, d2⟩ := d2
            obtain ⟨q3, d3⟩ := d3
            obtain ⟨wj, hwj⟩ : ∃ wj, wj = C.wrote j := ⟨_, rfl⟩
            obtain ⟨vj, hvj⟩ : ∃ vj, vj = C.vals j := ⟨_, rfl⟩
            rw [← hwj] at d0
            rw [← hvj] at d1
            have HWJ := hid hwj
            have HVJ := hid hvj
            have HCB := hid hcb
            clear ca hwj hvj hf hbj hcb
            cases wj with
            | false =>
              go_wp2_with fail
              go_roundw
              case rel => exact ⟨j + 1, by omega, by go_num, HFJ.out, by rw [bcomN_no HWJ.out.symm]; exact HBJ.out⟩
              case measure => simp [intOf]; omega
            | true =>
              have HLAY := hid (HBJ.out.lay2 hlt HWJ.out HCM.out HVJ.out)
              go_wp2_with fail
              go_region
              go_wp2_with fail
              go_region
              go_wp2_with fail
              go_roundw
              case rel => exact ⟨j + 1, by omega, by go_num, HFJ.out.trans (HLAY.out.1.mono (fun k hk => .inl hk)), HLAY.out.2⟩
              case measure => simp [intOf]; omega
          · obtain rfl : j = 60 := by omega
            clear ca hf hbj hcb
            go_wp2_with fail
            go_quiet ((fail))
            go_wp2_with fail
            go_ret
            exact ⟨rfl, HE3.out _ (HFJ.out.drewN _) (HBJ.out.fr ((Fr.refl [] _).drewN _) (by simp))⟩

end Go.Proofs.Ythlhbjnkohinmaa
