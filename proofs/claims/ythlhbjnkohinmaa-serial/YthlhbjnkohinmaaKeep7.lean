/- The book of Serial: what is written. (Written by program: wip/tools/mk_keep7.py.) -/
import Derived.Test.YthlhbjnkohinmaaKeep6
namespace Go.Proofs.Ythlhbjnkohinmaa
open Go.RowKit

theorem CliAt.put2 {w : World} {g : Nat} {C : Cli} (h : CliAt w g C) {c : Nat} (hc : c < 60) (v : Int) : CliAt (((w.setCell ⟨g, 2 + c, none⟩ (.bool true)).setCell ⟨g, 62 + c, none⟩ (.int .u8 0)).setCell ⟨g, 62 + c, none⟩ (.int .u8 v)).drew g (C.put c v) ∧ Fr [g] w (((w.setCell ⟨g, 2 + c, none⟩ (.bool true)).setCell ⟨g, 62 + c, none⟩ (.int .u8 0)).setCell ⟨g, 62 + c, none⟩ (.int .u8 v)).drew := by
  obtain ⟨h1, hf⟩ := h.put hc 0
  obtain ⟨cs, hb⟩ := h1.block
  have far : ∀ i u, i ≠ 62 + c → ((w.setCell ⟨g, 2 + c, none⟩ (.bool true)).setCell ⟨g, 62 + c, none⟩ (.int .u8 0)).cell? ⟨g, i, none⟩ = some u → (((w.setCell ⟨g, 2 + c, none⟩ (.bool true)).setCell ⟨g, 62 + c, none⟩ (.int .u8 0)).setCell ⟨g, 62 + c, none⟩ (.int .u8 v)).cell? ⟨g, i, none⟩ = some u := fun i u h1 hu => by
    rw [World.cell?_setCell_other _ _ _ _ (by intro e; injection e with e1 e2; omega)]
    exact hu
  refine ⟨⟨⟨_, blk_setCell hb _ _⟩, far _ _ (by omega) h1.num, far _ _ (by omega) h1.begun, fun d hd => far _ _ (by omega) (h1.wrote d hd), fun d hd => ?_⟩, (hf.set (.inl (by simp)) _).drewN 1⟩
  show World.cell? (World.setCell _ _ _) _ = some (Value.int .u8 (upd C.vals c v d))
  by_cases e : d = c
  · subst e
    rw [upd_same, World.cell?_setCell_same _ _ _ (h1.vals d hd)]
  · rw [upd_ne _ _ _ e]
    have := far _ _ (by omega) (h1.vals d hd)
    rw [this]
    show some (Value.int .u8 (upd C.vals c 0 d)) = _
    rw [upd_ne _ _ _ e]

set_option maxRecDepth 20000 in
set_option maxHeartbeats 4000000 in
theorem bwrote_put (b x i : Nat) (B : Bk) (X : PEng) (fb fx : List Nat) (n c : Int) (s : ByteArray) (w : World) (h : KAt b x B X w fb fx) (hg : KGood i B X) (hi : i ≤ 4000000000000) (hs63 : s.size < 9223372036854775808) :
    Calls Try.prog 11 #[.pointer (some ⟨b, 0, none⟩), .pointer (some ⟨x, 0, none⟩), actV 2 n c s] w fun e w' => e = .returned (.bool true) ∧ KNext b x i (fb ++ fx) w w' := by
  obtain ⟨nb, nx, dis, lb, lx⟩ := h.parts
  obtain ⟨L, hs⟩ := hg.sim
  have hfew := hg.few
  have HA : Hid (∀ W, Fr [] w W → Calls Try.prog 16 #[.pointer (some ⟨x, 0, none⟩), actV 2 n c s] W fun e w' => e = .returned (ansV ByteArray.empty 0 0 (pputF X n s).1) ∧ ATo (PEngA x (pputF X n s).2) fx W w') := hid (fun W hW => act_put x X fx n c s W (PEngA.framed _ _ h.eng hW (by simp)) nx hs63 (fun k hf => hg.cnt.more hi hf))
  have HZ : Hid (w.heap.size ∉ fx) := hid (fun e => by have := lx _ e; omega)
  have HB : Hid (∀ w1, ATo (PEngA x (pputF X n s).2) fx (w.alloc (.cells #[.int .i64 2, .int .i64 n, .int .i64 c, .string s] 33)) w1 → BkA b B w1 fb) := hid (fun w1 h1 => h.bookAt (h1.before (fr_alloc w _)))
  have HEND : Hid (∀ w1 w2 B', ATo (PEngA x (pputF X n s).2) fx (w.alloc (.cells #[.int .i64 2, .int .i64 n, .int .i64 c, .string s] 33)) w1 → ATo (BkA b B') fb w1 w2 → KTo b x B' (pputF X n s).2 (fb ++ fx) w w2) := hid (fun w1 w2 B' h1 h2 => KTo.both h (h1.before (fr_alloc w _)) h2)
  have HNB := hid nb
  have HLB := hid lb
  have HH : Hid (∀ c, ((pputF X n s).2.hist c).length ≤ i + 1) := hid (fun c => by rw [pput_hist]; exact Nat.le_succ_of_le (hg.hist c))
  have HFEW := hid (hg.cnt.put n s)
  have HCOM : Hid (B.commits ≤ ((i + 1 : Nat) : Int)) := hid (by have := hg.com; omega)
  have HQ : Hid (∀ w1 w2, BkA b B w1 fb → Fr [] w1 w2 → ATo (BkA b B) fb w1 w2) := hid (fun w1 w2 hb hf => ⟨fb, BkA.framed _ _ hb hf (by simp), nb, fun _ hy => .inl hy, hf.mono (fun k hk => by cases hk)⟩)
  have HFIND : Hid (∀ w1 W, BkA b B w1 fb → Fr [] w1 W → ∃ ps f3 v, EachA CliA ps B.cls w1 f3 ∧ BkAt w1 b B v ∧ w1.ownsRow 0 69 1 v B.cls.length ps ∧ Calls Try.prog 28 #[.pointer (some ⟨b, 0, none⟩), .int .i64 n] W fun e w' => e = .returned (match bfind B n with | some i => ps.getD i (.pointer none) | none => .pointer none) ∧ w' = W) := hid (fun w1 W hb hW => by
    obtain ⟨v, ps, f2, f3, h1, h2, h3, _⟩ := hb
    exact ⟨ps, f3, v, h3, h1, h2.1, bfind_any b B v ps f3 n W (h1.fr hW (by simp)) (RowA.framed _ _ _ _ _ h2 hW (by simp)).1 (EachA.framed CliA.framed _ _ h3 hW (by simp)) (by omega)⟩)
  have HKC := hid (fun W => kcell_any s W hs63)
  rcases hs.find n with ⟨hfp, hbf⟩ | ⟨k, ci, hq, hci, hnn, hfp, hbf⟩
  · have e1 : pputF X n s = (6, X) := by unfold pputF; rw [hfp]
    have HSAME : Hid (∀ w1 w2, ATo (PEngA x (pputF X n s).2) fx (w.alloc (.cells #[.int .i64 2, .int .i64 n, .int .i64 c, .string s] 33)) w1 → Fr [] w1 w2 → KNext b x i (fb ++ fx) w w2) := hid (fun w1 w2 h1 h2 => ⟨B, _, HEND.out w1 w2 B h1 (HQ.out _ _ (HB.out w1 h1) h2), by rw [e1]; exact hg.mono (Nat.le_succ i)⟩)
    rw [show (pputF X n s).1 = 6 by rw [e1]] at HA
    rw [hbf] at HFIND
    clear h hg hs hfp hbf e1 nb nx dis lb lx
    go_enter Try.func11, Try.ntmps11
    go_wp2_with fail
    go_at_call 16
    refine (HA.out _ (fr_alloc w _)).mono ?_
    rintro e w1 ⟨rfl, ht⟩
    have HT := hid ht
    obtain ⟨_, _, _, _, hfr⟩ := ht
    have k0 := keepc hfr (cell_new (w := w) (cs := #[.int .i64 2, .int .i64 n, .int .i64 c, .string s]) (t := 33) (j := 0) rfl) HZ.out
    have k1 := keepc hfr (cell_new (w := w) (cs := #[.int .i64 2, .int .i64 n, .int .i64 c, .string s]) (t := 33) (j := 1) rfl) HZ.out
    have k3 := keepc hfr (cell_new (w := w) (cs := #[.int .i64 2, .int .i64 n, .int .i64 c, .string s]) (t := 33) (j := 3) rfl) HZ.out
    have hsz1 := hfr.size
    have hHl : w.heap.size < w1.heap.size := by simp at hsz1; omega
    have hHz : w.heap.size ≠ w1.heap.size := by omega
    have HBA := hid (HB.out w1 HT.out)
    clear hfr hsz1
    go_wp2_with fail
    go_at_call 28
    obtain ⟨ps, f3, v, _, _, _, hfc⟩ := HFIND.out w1 _ HBA.out (fr_alloc w1 _)
    refine hfc.mono ?_
    rintro e w2 ⟨rfl, rfl⟩
    clear hfc
    go_wp2_with fail
    go_ret
    exact ⟨rfl, HSAME.out _ _ HT.out (fr_alloc w1 _)⟩
  · cases hfb : factB s with
    | false =>
      have e1 : pputF X n s = (8, X) := by unfold pputF; rw [hfp]; simp only []; rw [hfb]; rfl
      have HSAME : Hid (∀ w1 w2, ATo (PEngA x (pputF X n s).2) fx (w.alloc (.cells #[.int .i64 2, .int .i64 n, .int .i64 c, .string s] 33)) w1 → Fr [] w1 w2 → KNext b x i (fb ++ fx) w w2) := hid (fun w1 w2 h1 h2 => ⟨B, _, HEND.out w1 w2 B h1 (HQ.out _ _ (HB.out w1 h1) h2), by rw [e1]; exact hg.mono (Nat.le_succ i)⟩)
      rw [show (pputF X n s).1 = 8 by rw [e1]] at HA
      rw [hbf] at HFIND
      have hbad := fact_bad hfb
      clear h hg hs hfp hbf e1 nb nx dis lb lx hq hnn hfb
      go_enter Try.func11, Try.ntmps11
      go_wp2_with fail
      go_at_call 16
      refine (HA.out _ (fr_alloc w _)).mono ?_
      rintro e w1 ⟨rfl, ht⟩
      have HT := hid ht
      obtain ⟨_, _, _, _, hfr⟩ := ht
      have k0 := keepc hfr (cell_new (w := w) (cs := #[.int .i64 2, .int .i64 n, .int .i64 c, .string s]) (t := 33) (j := 0) rfl) HZ.out
      have k1 := keepc hfr (cell_new (w := w) (cs := #[.int .i64 2, .int .i64 n, .int .i64 c, .string s]) (t := 33) (j := 1) rfl) HZ.out
      have k3 := keepc hfr (cell_new (w := w) (cs := #[.int .i64 2, .int .i64 n, .int .i64 c, .string s]) (t := 33) (j := 3) rfl) HZ.out
      have hsz1 := hfr.size
      have hHl : w.heap.size < w1.heap.size := by simp at hsz1; omega
      have hHz : w.heap.size ≠ w1.heap.size := by omega
      have HBA := hid (HB.out w1 HT.out)
      clear hfr hsz1
      go_wp2_with fail
      go_at_call 28
      obtain ⟨ps, f3, v, hec, _, _, hfc⟩ := HFIND.out w1 _ HBA.out (fr_alloc w1 _)
      obtain ⟨g, hpg⟩ : ∃ g, ps.getD ci (.pointer none) = .pointer (some ⟨g, 0, none⟩) := by
        have hl := EachA.len hec
        obtain ⟨_, ⟨g, e, _⟩, _⟩ := EachA.get hec ci (by omega) hci
        exact ⟨g, by simp only [List.getD, List.getElem?_eq_getElem (show ci < ps.length by omega), Option.getD_some]; exact e⟩
      simp only [hpg] at hfc
      refine hfc.mono ?_
      rintro e w2 ⟨rfl, rfl⟩
      clear hfc hec hpg
      go_wp2_with fail
      go_at_call 29
      refine (HKC.out _).mono ?_
      rintro e w3 ⟨rfl, hf3⟩
      have r3 := keep0 hf3 (cell_new (w := w1) (cs := #[.string ByteArray.empty, .int .i64 0, .int .i64 0, .int .i64 8]) (t := 44) (j := 3) rfl)
      have j0 := keep0 hf3 (keep0 (fr_alloc w1 _) k0)
      have j3 := keep0 hf3 (keep0 (fr_alloc w1 _) k3)
      have HF3 := hid ((fr_alloc w1 _).trans hf3)
      obtain ⟨ck, hck⟩ : ∃ ck, ck = cellK s := ⟨_, rfl⟩
      rw [← hck] at hbad ⊢
      clear hf3 hck
      rcases hbad with rfl | ⟨h1, h2, h3⟩ | ⟨h1, h2, h3, h4⟩
      · go_wp2_with fail
        go_ret
        exact ⟨rfl, HSAME.out _ _ HT.out HF3.out⟩
      · have q1 : ((s.size : Int) != 3) = true := by simp; omega
        go_wp2_with fail
        go_ret
        exact ⟨rfl, HSAME.out _ _ HT.out HF3.out⟩
      · have s2' : 2 < s.size := by omega
        have e2 : ((s[2]'s2').toNat : Int) = bt s 2 := by rw [bt_in s2']
        obtain ⟨d2, hd2⟩ : ∃ d2, d2 = bt s 2 := ⟨_, rfl⟩
        rw [← hd2] at e2 h4
        clear hd2
        rcases h4 with h4 | ⟨h4, h5⟩
        · go_wp2_with fail
          go_ret
          exact ⟨rfl, HSAME.out _ _ HT.out HF3.out⟩
        · go_wp2_with fail
          go_ret
          exact ⟨rfl, HSAME.out _ _ HT.out HF3.out⟩
    | true =>
      obtain ⟨hck, hcn, hsz, hd1, hd2⟩ := cellK_fact hfb
      have e1 : pputF X n s = (0, X.setSes k ((X.ses k).put (cellN s) (some (bt s 2 - 48)))) := by unfold pputF; rw [hfp]; simp only []; rw [hfb]; rfl
      have hv : toV (bt s 2) = (some (bt s 2 - 48)) := by unfold toV; rw [if_neg (by omega)]
      obtain ⟨_, hcnum, hcsim⟩ := hs.cli (k, ci) hq
      have hsim := hs.setC hq _ (B.cls[ci].put (cellN s) (bt s 2)) (hcsim.put (cellN s) (bt s 2)) hcnum (fun d hd => by
        show ByteOk (upd B.cls[ci].vals (cellN s) (bt s 2) d)
        by_cases e : d = cellN s
        · subst e; rw [upd_same]; exact .inr ⟨hd1, hd2⟩
        · rw [upd_ne _ _ _ e]; exact hs.cbyte _ (List.getElem_mem hci) d hd)
      rw [hv] at hsim
      have HGOOD : Hid (KGood (i + 1) (B.setC ci (B.cls[ci].put (cellN s) (bt s 2))) (pputF X n s).2) := hid ⟨⟨L, by rw [e1]; exact hsim⟩, by simp [Bk.setC]; omega, HH.out, HCOM.out, HFEW.out⟩
      rw [show (pputF X n s).1 = 0 by rw [e1]] at HA
      have HBF := hid hbf
      obtain ⟨cn, hcne⟩ : ∃ cn, cn = cellN s := ⟨_, rfl⟩
      rw [← hcne] at hck hcn HGOOD
      rw [hck] at HKC
      clear hcne
      have s2' : 2 < s.size := by omega
      obtain ⟨d2, hd2e⟩ : ∃ d2, d2 = bt s 2 := ⟨_, rfl⟩
      have e2 : ((s[2]'s2').toNat : Int) = d2 := by rw [hd2e, bt_in s2']
      rw [← hd2e] at hd1 hd2 HGOOD
      clear hd2e
      clear h hg hs hfp hbf e1 nx dis lb lx hq hnn hfb hcsim hcnum hsim hv hck HFIND
      go_enter Try.func11, Try.ntmps11
      go_wp2_with fail
      go_at_call 16
      refine (HA.out _ (fr_alloc w _)).mono ?_
      rintro e w1 ⟨rfl, ht⟩
      have HT := hid ht
      obtain ⟨_, _, _, _, hfr⟩ := ht
      have k0 := keepc hfr (cell_new (w := w) (cs := #[.int .i64 2, .int .i64 n, .int .i64 c, .string s]) (t := 33) (j := 0) rfl) HZ.out
      have k1 := keepc hfr (cell_new (w := w) (cs := #[.int .i64 2, .int .i64 n, .int .i64 c, .string s]) (t := 33) (j := 1) rfl) HZ.out
      have k3 := keepc hfr (cell_new (w := w) (cs := #[.int .i64 2, .int .i64 n, .int .i64 c, .string s]) (t := 33) (j := 3) rfl) HZ.out
      have hsz1 := hfr.size
      have hHl : w.heap.size < w1.heap.size := by simp at hsz1; omega
      have hHz : w.heap.size ≠ w1.heap.size := by omega
      have HBA := hid (HB.out w1 HT.out)
      clear hfr hsz1
      go_wp2_with fail
      go_at_call 28
      obtain ⟨v, ps, f3, g, hb1, hr1, hc1, hpg, hca, hgin, hgb, hset⟩ := HBA.out.client nb hci
      have HSET := hid hset
      have HCA := hid hca
      have hgl := hca.lt
      have hfc := bfind_any b B v ps f3 n (w1.alloc (.cells #[.string ByteArray.empty, .int .i64 0, .int .i64 0, .int .i64 0] 44)) (hb1.fr (fr_alloc w1 _) (by simp)) (RowA.framed _ _ _ _ _ ⟨hr1, rfl⟩ (fr_alloc w1 _) (by simp)).1 (EachA.framed CliA.framed _ _ hc1 (fr_alloc w1 _) (by simp)) (by omega)
      rw [HBF.out] at hfc
      simp only [hpg] at hfc
      refine hfc.mono ?_
      rintro e w2 ⟨rfl, rfl⟩
      clear hfc hb1 hr1 hc1 hpg hset hca
      go_wp2_with fail
      go_at_call 29
      refine (HKC.out _).mono ?_
      rintro e w3 ⟨rfl, hf3⟩
      have r3 := keep0 hf3 (cell_new (w := w1) (cs := #[.string ByteArray.empty, .int .i64 0, .int .i64 0, .int .i64 0]) (t := 44) (j := 3) rfl)
      have j0 := keep0 hf3 (keep0 (fr_alloc w1 _) k0)
      have j3 := keep0 hf3 (keep0 (fr_alloc w1 _) k3)
      have hF3 := (fr_alloc w1 _).trans hf3
      have HF3 := hid hF3
      have hc3 := HCA.out.fr hF3 (by simp)
      obtain ⟨cs3, hbk3⟩ := hc3.block
      have u1 := hc3.wrote cn hcn
      have u2 := hc3.vals cn hcn
      have zf := frozen_blk hbk3
      have HC3 := hid hc3
      have hsz3 := hF3.size
      have hgR : g ≠ w1.heap.size := by omega
      have hgH : g ≠ w.heap.size := fun e => by
        have h1 := HLB.out g hgin
        omega
      have hi0 : (0 : Int) ≤ (cn : Int) := by omega
      have hi1 : (cn : Int) < 60 := by omega
      generalize B.cls[ci].wrote cn = uw at u1
      generalize B.cls[ci].vals cn = uv at u2
      clear hf3 hF3 hc3 hbk3 k0 k1 k3
      go_wp2_with fail
      go_region
      have hcl := HC3.out.put2 hcn d2
      have HFIN : Hid (KNext b x i (fb ++ fx) w _) := hid ⟨_, _, HEND.out w1 _ _ HT.out ⟨fb, HSET.out _ _ hcl.1 ((HF3.out.mono (fun k hk => by cases hk)).trans hcl.2), nb, fun _ hy => .inl hy, (HF3.out.mono (fun k hk => by cases hk)).trans (hcl.2.mono (fun k hk => .inl (by simp at hk; rw [hk]; exact hgin)))⟩, HGOOD.out⟩
      clear hcl
      go_wp2_with fail
      go_ret
      exact ⟨rfl, HFIN.out⟩

set_option maxRecDepth 20000 in
set_option maxHeartbeats 4000000 in
theorem bwrote_clear (b x i : Nat) (B : Bk) (X : PEng) (fb fx : List Nat) (n c : Int) (s : ByteArray) (w : World) (h : KAt b x B X w fb fx) (hg : KGood i B X) (hi : i ≤ 4000000000000) (hs63 : s.size < 9223372036854775808) :
    Calls Try.prog 11 #[.pointer (some ⟨b, 0, none⟩), .pointer (some ⟨x, 0, none⟩), actV 3 n c s] w fun e w' => e = .returned (.bool true) ∧ KNext b x i (fb ++ fx) w w' := by
  obtain ⟨nb, nx, dis, lb, lx⟩ := h.parts
  obtain ⟨L, hs⟩ := hg.sim
  have hfew := hg.few
  have HA : Hid (∀ W, Fr [] w W → Calls Try.prog 16 #[.pointer (some ⟨x, 0, none⟩), actV 3 n c s] W fun e w' => e = .returned (ansV ByteArray.empty 0 0 (pclearF X n s).1) ∧ ATo (PEngA x (pclearF X n s).2) fx W w') := hid (fun W hW => act_clear x X fx n c s W (PEngA.framed _ _ h.eng hW (by simp)) nx hs63 (fun k hf => hg.cnt.more hi hf))
  have HZ : Hid (w.heap.size ∉ fx) := hid (fun e => by have := lx _ e; omega)
  have HB : Hid (∀ w1, ATo (PEngA x (pclearF X n s).2) fx (w.alloc (.cells #[.int .i64 3, .int .i64 n, .int .i64 c, .string s] 33)) w1 → BkA b B w1 fb) := hid (fun w1 h1 => h.bookAt (h1.before (fr_alloc w _)))
  have HEND : Hid (∀ w1 w2 B', ATo (PEngA x (pclearF X n s).2) fx (w.alloc (.cells #[.int .i64 3, .int .i64 n, .int .i64 c, .string s] 33)) w1 → ATo (BkA b B') fb w1 w2 → KTo b x B' (pclearF X n s).2 (fb ++ fx) w w2) := hid (fun w1 w2 B' h1 h2 => KTo.both h (h1.before (fr_alloc w _)) h2)
  have HNB := hid nb
  have HLB := hid lb
  have HH : Hid (∀ c, ((pclearF X n s).2.hist c).length ≤ i + 1) := hid (fun c => by rw [pclear_hist]; exact Nat.le_succ_of_le (hg.hist c))
  have HFEW := hid (hg.cnt.clear n s)
  have HCOM : Hid (B.commits ≤ ((i + 1 : Nat) : Int)) := hid (by have := hg.com; omega)
  have HQ : Hid (∀ w1 w2, BkA b B w1 fb → Fr [] w1 w2 → ATo (BkA b B) fb w1 w2) := hid (fun w1 w2 hb hf => ⟨fb, BkA.framed _ _ hb hf (by simp), nb, fun _ hy => .inl hy, hf.mono (fun k hk => by cases hk)⟩)
  have HFIND : Hid (∀ w1 W, BkA b B w1 fb → Fr [] w1 W → ∃ ps f3 v, EachA CliA ps B.cls w1 f3 ∧ BkAt w1 b B v ∧ w1.ownsRow 0 69 1 v B.cls.length ps ∧ Calls Try.prog 28 #[.pointer (some ⟨b, 0, none⟩), .int .i64 n] W fun e w' => e = .returned (match bfind B n with | some i => ps.getD i (.pointer none) | none => .pointer none) ∧ w' = W) := hid (fun w1 W hb hW => by
    obtain ⟨v, ps, f2, f3, h1, h2, h3, _⟩ := hb
    exact ⟨ps, f3, v, h3, h1, h2.1, bfind_any b B v ps f3 n W (h1.fr hW (by simp)) (RowA.framed _ _ _ _ _ h2 hW (by simp)).1 (EachA.framed CliA.framed _ _ h3 hW (by simp)) (by omega)⟩)
  have HKC := hid (fun W => kcell_any s W hs63)
  rcases hs.find n with ⟨hfp, hbf⟩ | ⟨k, ci, hq, hci, hnn, hfp, hbf⟩
  · have e1 : pclearF X n s = (6, X) := by unfold pclearF; rw [hfp]
    have HSAME : Hid (∀ w1 w2, ATo (PEngA x (pclearF X n s).2) fx (w.alloc (.cells #[.int .i64 3, .int .i64 n, .int .i64 c, .string s] 33)) w1 → Fr [] w1 w2 → KNext b x i (fb ++ fx) w w2) := hid (fun w1 w2 h1 h2 => ⟨B, _, HEND.out w1 w2 B h1 (HQ.out _ _ (HB.out w1 h1) h2), by rw [e1]; exact hg.mono (Nat.le_succ i)⟩)
    rw [show (pclearF X n s).1 = 6 by rw [e1]] at HA
    rw [hbf] at HFIND
    clear h hg hs hfp hbf e1 nb nx dis lb lx
    go_enter Try.func11, Try.ntmps11
    go_wp2_with fail
    go_at_call 16
    refine (HA.out _ (fr_alloc w _)).mono ?_
    rintro e w1 ⟨rfl, ht⟩
    have HT := hid ht
    obtain ⟨_, _, _, _, hfr⟩ := ht
    have k0 := keepc hfr (cell_new (w := w) (cs := #[.int .i64 3, .int .i64 n, .int .i64 c, .string s]) (t := 33) (j := 0) rfl) HZ.out
    have k1 := keepc hfr (cell_new (w := w) (cs := #[.int .i64 3, .int .i64 n, .int .i64 c, .string s]) (t := 33) (j := 1) rfl) HZ.out
    have k3 := keepc hfr (cell_new (w := w) (cs := #[.int .i64 3, .int .i64 n, .int .i64 c, .string s]) (t := 33) (j := 3) rfl) HZ.out
    have hsz1 := hfr.size
    have hHl : w.heap.size < w1.heap.size := by simp at hsz1; omega
    have hHz : w.heap.size ≠ w1.heap.size := by omega
    have HBA := hid (HB.out w1 HT.out)
    clear hfr hsz1
    go_wp2_with fail
    go_at_call 28
    obtain ⟨ps, f3, v, _, _, _, hfc⟩ := HFIND.out w1 _ HBA.out (fr_alloc w1 _)
    refine hfc.mono ?_
    rintro e w2 ⟨rfl, rfl⟩
    clear hfc
    go_wp2_with fail
    go_ret
    exact ⟨rfl, HSAME.out _ _ HT.out (fr_alloc w1 _)⟩
  · cases hfb : cellB s with
    | false =>
      have e1 : pclearF X n s = (8, X) := by unfold pclearF; rw [hfp]; simp only []; rw [hfb]; rfl
      have HSAME : Hid (∀ w1 w2, ATo (PEngA x (pclearF X n s).2) fx (w.alloc (.cells #[.int .i64 3, .int .i64 n, .int .i64 c, .string s] 33)) w1 → Fr [] w1 w2 → KNext b x i (fb ++ fx) w w2) := hid (fun w1 w2 h1 h2 => ⟨B, _, HEND.out w1 w2 B h1 (HQ.out _ _ (HB.out w1 h1) h2), by rw [e1]; exact hg.mono (Nat.le_succ i)⟩)
      rw [show (pclearF X n s).1 = 8 by rw [e1]] at HA
      rw [hbf] at HFIND
      have hbad := cell_bad hfb
      clear h hg hs hfp hbf e1 nb nx dis lb lx hq hnn hfb
      go_enter Try.func11, Try.ntmps11
      go_wp2_with fail
      go_at_call 16
      refine (HA.out _ (fr_alloc w _)).mono ?_
      rintro e w1 ⟨rfl, ht⟩
      have HT := hid ht
      obtain ⟨_, _, _, _, hfr⟩ := ht
      have k0 := keepc hfr (cell_new (w := w) (cs := #[.int .i64 3, .int .i64 n, .int .i64 c, .string s]) (t := 33) (j := 0) rfl) HZ.out
      have k1 := keepc hfr (cell_new (w := w) (cs := #[.int .i64 3, .int .i64 n, .int .i64 c, .string s]) (t := 33) (j := 1) rfl) HZ.out
      have k3 := keepc hfr (cell_new (w := w) (cs := #[.int .i64 3, .int .i64 n, .int .i64 c, .string s]) (t := 33) (j := 3) rfl) HZ.out
      have hsz1 := hfr.size
      have hHl : w.heap.size < w1.heap.size := by simp at hsz1; omega
      have hHz : w.heap.size ≠ w1.heap.size := by omega
      have HBA := hid (HB.out w1 HT.out)
      clear hfr hsz1
      go_wp2_with fail
      go_at_call 28
      obtain ⟨ps, f3, v, hec, _, _, hfc⟩ := HFIND.out w1 _ HBA.out (fr_alloc w1 _)
      obtain ⟨g, hpg⟩ : ∃ g, ps.getD ci (.pointer none) = .pointer (some ⟨g, 0, none⟩) := by
        have hl := EachA.len hec
        obtain ⟨_, ⟨g, e, _⟩, _⟩ := EachA.get hec ci (by omega) hci
        exact ⟨g, by simp only [List.getD, List.getElem?_eq_getElem (show ci < ps.length by omega), Option.getD_some]; exact e⟩
      simp only [hpg] at hfc
      refine hfc.mono ?_
      rintro e w2 ⟨rfl, rfl⟩
      clear hfc hec hpg
      go_wp2_with fail
      go_at_call 29
      refine (HKC.out _).mono ?_
      rintro e w3 ⟨rfl, hf3⟩
      have r3 := keep0 hf3 (cell_new (w := w1) (cs := #[.string ByteArray.empty, .int .i64 0, .int .i64 0, .int .i64 8]) (t := 44) (j := 3) rfl)
      have j0 := keep0 hf3 (keep0 (fr_alloc w1 _) k0)
      have j3 := keep0 hf3 (keep0 (fr_alloc w1 _) k3)
      have HF3 := hid ((fr_alloc w1 _).trans hf3)
      obtain ⟨ck, hck⟩ : ∃ ck, ck = cellK s := ⟨_, rfl⟩
      rw [← hck] at hbad ⊢
      clear hf3 hck
      rcases hbad with rfl | ⟨h1, h2, h3⟩
      · go_wp2_with fail
        go_ret
        exact ⟨rfl, HSAME.out _ _ HT.out HF3.out⟩
      · have q1 : ((s.size : Int) != 2) = true := by simp; omega
        go_wp2_with fail
        go_ret
        exact ⟨rfl, HSAME.out _ _ HT.out HF3.out⟩
    | true =>
      obtain ⟨hck, hcn, hsz⟩ := cellK_cell hfb
      have e1 : pclearF X n s = (0, X.setSes k ((X.ses k).put (cellN s) none)) := by unfold pclearF; rw [hfp]; simp only []; rw [hfb]; rfl
      have hv : toV 0 = none := by unfold toV; rfl
      obtain ⟨_, hcnum, hcsim⟩ := hs.cli (k, ci) hq
      have hsim := hs.setC hq _ (B.cls[ci].put (cellN s) 0) (hcsim.put (cellN s) 0) hcnum (fun d hd => by
        show ByteOk (upd B.cls[ci].vals (cellN s) 0 d)
        by_cases e : d = cellN s
        · subst e; rw [upd_same]; exact .inl rfl
        · rw [upd_ne _ _ _ e]; exact hs.cbyte _ (List.getElem_mem hci) d hd)
      rw [hv] at hsim
      have HGOOD : Hid (KGood (i + 1) (B.setC ci (B.cls[ci].put (cellN s) 0)) (pclearF X n s).2) := hid ⟨⟨L, by rw [e1]; exact hsim⟩, by simp [Bk.setC]; omega, HH.out, HCOM.out, HFEW.out⟩
      rw [show (pclearF X n s).1 = 0 by rw [e1]] at HA
      have HBF := hid hbf
      obtain ⟨cn, hcne⟩ : ∃ cn, cn = cellN s := ⟨_, rfl⟩
      rw [← hcne] at hck hcn HGOOD
      rw [hck] at HKC
      clear hcne
      clear h hg hs hfp hbf e1 nx dis lb lx hq hnn hfb hcsim hcnum hsim hv hck HFIND
      go_enter Try.func11, Try.ntmps11
      go_wp2_with fail
      go_at_call 16
      refine (HA.out _ (fr_alloc w _)).mono ?_
      rintro e w1 ⟨rfl, ht⟩
      have HT := hid ht
      obtain ⟨_, _, _, _, hfr⟩ := ht
      have k0 := keepc hfr (cell_new (w := w) (cs := #[.int .i64 3, .int .i64 n, .int .i64 c, .string s]) (t := 33) (j := 0) rfl) HZ.out
      have k1 := keepc hfr (cell_new (w := w) (cs := #[.int .i64 3, .int .i64 n, .int .i64 c, .string s]) (t := 33) (j := 1) rfl) HZ.out
      have k3 := keepc hfr (cell_new (w := w) (cs := #[.int .i64 3, .int .i64 n, .int .i64 c, .string s]) (t := 33) (j := 3) rfl) HZ.out
      have hsz1 := hfr.size
      have hHl : w.heap.size < w1.heap.size := by simp at hsz1; omega
      have hHz : w.heap.size ≠ w1.heap.size := by omega
      have HBA := hid (HB.out w1 HT.out)
      clear hfr hsz1
      go_wp2_with fail
      go_at_call 28
      obtain ⟨v, ps, f3, g, hb1, hr1, hc1, hpg, hca, hgin, hgb, hset⟩ := HBA.out.client nb hci
      have HSET := hid hset
      have HCA := hid hca
      have hgl := hca.lt
      have hfc := bfind_any b B v ps f3 n (w1.alloc (.cells #[.string ByteArray.empty, .int .i64 0, .int .i64 0, .int .i64 0] 44)) (hb1.fr (fr_alloc w1 _) (by simp)) (RowA.framed _ _ _ _ _ ⟨hr1, rfl⟩ (fr_alloc w1 _) (by simp)).1 (EachA.framed CliA.framed _ _ hc1 (fr_alloc w1 _) (by simp)) (by omega)
      rw [HBF.out] at hfc
      simp only [hpg] at hfc
      refine hfc.mono ?_
      rintro e w2 ⟨rfl, rfl⟩
      clear hfc hb1 hr1 hc1 hpg hset hca
      go_wp2_with fail
      go_at_call 29
      refine (HKC.out _).mono ?_
      rintro e w3 ⟨rfl, hf3⟩
      have r3 := keep0 hf3 (cell_new (w := w1) (cs := #[.string ByteArray.empty, .int .i64 0, .int .i64 0, .int .i64 0]) (t := 44) (j := 3) rfl)
      have j0 := keep0 hf3 (keep0 (fr_alloc w1 _) k0)
      have j3 := keep0 hf3 (keep0 (fr_alloc w1 _) k3)
      have hF3 := (fr_alloc w1 _).trans hf3
      have HF3 := hid hF3
      have hc3 := HCA.out.fr hF3 (by simp)
      obtain ⟨cs3, hbk3⟩ := hc3.block
      have u1 := hc3.wrote cn hcn
      have u2 := hc3.vals cn hcn
      have zf := frozen_blk hbk3
      have HC3 := hid hc3
      have hsz3 := hF3.size
      have hgR : g ≠ w1.heap.size := by omega
      have hgH : g ≠ w.heap.size := fun e => by
        have h1 := HLB.out g hgin
        omega
      have hi0 : (0 : Int) ≤ (cn : Int) := by omega
      have hi1 : (cn : Int) < 60 := by omega
      generalize B.cls[ci].wrote cn = uw at u1
      generalize B.cls[ci].vals cn = uv at u2
      clear hf3 hF3 hc3 hbk3 k0 k1 k3
      go_wp2_with fail
      have hcl := HC3.out.put hcn 0
      have HFIN : Hid (KNext b x i (fb ++ fx) w _) := hid ⟨_, _, HEND.out w1 _ _ HT.out ⟨fb, HSET.out _ _ hcl.1 ((HF3.out.mono (fun k hk => by cases hk)).trans hcl.2), nb, fun _ hy => .inl hy, (HF3.out.mono (fun k hk => by cases hk)).trans (hcl.2.mono (fun k hk => .inl (by simp at hk; rw [hk]; exact hgin)))⟩, HGOOD.out⟩
      clear hcl
      go_wp2_with fail
      go_ret
      exact ⟨rfl, HFIN.out⟩

end Go.Proofs.Ythlhbjnkohinmaa
