/- The book of Serial: a session's end. -/
import Derived.Test.YthlhbjnkohinmaaKeep7
namespace Go.Proofs.Ythlhbjnkohinmaa
open Go.RowKit

def Cli.off (C : Cli) : Cli := { C with num := 0 }
theorem CliAt.off {w : World} {g : Nat} {C : Cli} (h : CliAt w g C) : CliAt (w.setCell ⟨g, 0, none⟩ (.int .i64 0)) g C.off ∧ Fr [g] w (w.setCell ⟨g, 0, none⟩ (.int .i64 0)) := by
  obtain ⟨cs, hb⟩ := h.block
  have far : ∀ i u, i ≠ 0 → w.cell? ⟨g, i, none⟩ = some u → (w.setCell ⟨g, 0, none⟩ (.int .i64 0)).cell? ⟨g, i, none⟩ = some u := fun i u h1 hu => by
    rw [World.cell?_setCell_other _ _ _ _ (by intro e; injection e with e1 e2; omega)]
    exact hu
  exact ⟨⟨⟨_, blk_setCell hb _ _⟩, World.cell?_setCell_same _ _ _ h.num, far _ _ (by omega) h.begun, fun d hd => far _ _ (by omega) (h.wrote d hd), fun d hd => far _ _ (by omega) (h.vals d hd)⟩, (Fr.refl [g] w).set (.inl (by simp)) _⟩

/-- The book's own block is changed. -/
theorem BkA.own {b : Nat} {B B' : Bk} {w w' : World} {fb : List Nat} (h : BkA b B w fb) (hn : fb.Nodup) (hc : B'.cls = B.cls) (hf : Fr [b] w w') (hb : ∀ v, BkAt w b B v → BkAt w' b B' v) : BkA b B' w' fb := by
  obtain ⟨v, ps, f2, f3, h1, h2, h3, rfl⟩ := h
  rw [List.nodup_cons] at hn
  refine ⟨v, ps, f2, f3, hb v h1, ?_, ?_, rfl⟩
  · rw [hc]
    exact RowA.framed _ _ _ _ _ h2 hf (fun k hk e => by simp at e; subst e; exact hn.1 (by simp [hk]))
  · rw [hc]
    exact EachA.framed CliA.framed _ _ h3 hf (fun k hk e => by simp at e; subst e; exact hn.1 (by simp [hk]))

set_option maxRecDepth 20000 in
set_option maxHeartbeats 4000000 in
theorem bended_abort (b x i : Nat) (B : Bk) (X : PEng) (fb fx : List Nat) (n c : Int) (s : ByteArray) (w : World) (h : KAt b x B X w fb fx) (hg : KGood i B X) (hi : i ≤ 4000000000000) :
    Calls Try.prog 12 #[.pointer (some ⟨b, 0, none⟩), .pointer (some ⟨x, 0, none⟩), actV 5 n c s] w fun e w' => e = .returned (.bool true) ∧ KNext b x i (fb ++ fx) w w' := by
  obtain ⟨nb, nx, dis, lb, lx⟩ := h.parts
  obtain ⟨L, hs⟩ := hg.sim
  have hfew := hg.few
  have HA : Hid (∀ W, Fr [] w W → Calls Try.prog 16 #[.pointer (some ⟨x, 0, none⟩), actV 5 n c s] W fun e w' => e = .returned (ansV ByteArray.empty 0 0 (pabortF X n).1) ∧ ATo (PEngA x (pabortF X n).2) fx W w') := hid (fun W hW => act_abort x X fx n c s W (PEngA.framed _ _ h.eng hW (by simp)) nx)
  have HZ : Hid (w.heap.size ∉ fx) := hid (fun e => by have := lx _ e; omega)
  have HB : Hid (∀ w1, ATo (PEngA x (pabortF X n).2) fx (w.alloc (.cells #[.int .i64 5, .int .i64 n, .int .i64 c, .string s] 33)) w1 → BkA b B w1 fb) := hid (fun w1 h1 => h.bookAt (h1.before (fr_alloc w _)))
  have HEND : Hid (∀ w1 w2 B', ATo (PEngA x (pabortF X n).2) fx (w.alloc (.cells #[.int .i64 5, .int .i64 n, .int .i64 c, .string s] 33)) w1 → ATo (BkA b B') fb w1 w2 → KTo b x B' (pabortF X n).2 (fb ++ fx) w w2) := hid (fun w1 w2 B' h1 h2 => KTo.both h (h1.before (fr_alloc w _)) h2)
  have HLB := hid lb
  have HH : Hid (∀ c, ((pabortF X n).2.hist c).length ≤ i + 1) := hid (fun c => by rw [pabort_hist]; exact Nat.le_succ_of_le (hg.hist c))
  have HFEW := hid (hg.cnt.abort n)
  have HCOM : Hid (B.commits ≤ ((i + 1 : Nat) : Int)) := hid (by have := hg.com; omega)
  have HQ : Hid (∀ w1 w2, BkA b B w1 fb → Fr [] w1 w2 → ATo (BkA b B) fb w1 w2) := hid (fun w1 w2 hb hf => ⟨fb, BkA.framed _ _ hb hf (by simp), nb, fun _ hy => .inl hy, hf.mono (fun k hk => by cases hk)⟩)
  rcases hs.find n with ⟨hfp, hbf⟩ | ⟨k, ci, hq, hci, hnn, hfp, hbf⟩
  · have e1 : pabortF X n = (6, X) := by unfold pabortF; rw [hfp]
    have HSAME : Hid (∀ w1 w2, ATo (PEngA x (pabortF X n).2) fx (w.alloc (.cells #[.int .i64 5, .int .i64 n, .int .i64 c, .string s] 33)) w1 → Fr [] w1 w2 → KNext b x i (fb ++ fx) w w2) := hid (fun w1 w2 h1 h2 => ⟨B, _, HEND.out w1 w2 B h1 (HQ.out _ _ (HB.out w1 h1) h2), by rw [e1]; exact hg.mono (Nat.le_succ i)⟩)
    rw [show (pabortF X n).1 = 6 by rw [e1]] at HA
    have HBF := hid hbf
    clear h hg hs hfp hbf e1 nx dis lb lx
    go_enter Try.func12, Try.ntmps12
    go_wp2_with fail
    go_at_call 16
    refine (HA.out _ (fr_alloc w _)).mono ?_
    rintro e w1 ⟨rfl, ht⟩
    have HT := hid ht
    obtain ⟨_, _, _, _, hfr⟩ := ht
    have k1 := keepc hfr (cell_new (w := w) (cs := #[.int .i64 5, .int .i64 n, .int .i64 c, .string s]) (t := 33) (j := 1) rfl) HZ.out
    have hsz1 := hfr.size
    have hHl : w.heap.size < w1.heap.size := by simp at hsz1; omega
    have hHz : w.heap.size ≠ w1.heap.size := by omega
    obtain ⟨v, ps, f2, f3, hb1, hr1, hc1, _⟩ := HB.out w1 HT.out
    have hfc := bfind_any b B v ps f3 n (w1.alloc (.cells #[.string ByteArray.empty, .int .i64 0, .int .i64 0, .int .i64 6] 44)) (hb1.fr (fr_alloc w1 _) (by simp)) (RowA.framed _ _ _ _ _ hr1 (fr_alloc w1 _) (by simp)).1 (EachA.framed CliA.framed _ _ hc1 (fr_alloc w1 _) (by simp)) (by omega)
    rw [HBF.out] at hfc
    have HFC := hid hfc
    clear hfr hsz1 hfc hb1 hr1 hc1
    go_wp2_with fail
    go_at_call 28
    refine HFC.out.mono ?_
    rintro e w2 ⟨rfl, rfl⟩
    go_wp2_with fail
    go_ret
    exact ⟨rfl, HSAME.out _ _ HT.out (fr_alloc w1 _)⟩
  · have e1 : pabortF X n = (0, X.setSes k .zero) := by unfold pabortF; rw [hfp]
    obtain ⟨_, hcnum, hcsim⟩ := hs.cli (k, ci) hq
    have hsim := hs.drop hq B.cls[ci].off rfl (fun d hd => hs.cbyte _ (List.getElem_mem hci) d hd)
    have HGOOD : Hid (KGood (i + 1) (B.setC ci B.cls[ci].off) (pabortF X n).2) := hid ⟨⟨_, by rw [e1]; exact hsim⟩, by simp [Bk.setC]; omega, HH.out, HCOM.out, HFEW.out⟩
    rw [show (pabortF X n).1 = 0 by rw [e1]] at HA
    have HBF := hid hbf
    clear h hg hs hfp hbf e1 nx dis lb lx hq hnn hcsim hcnum hsim
    go_enter Try.func12, Try.ntmps12
    go_wp2_with fail
    go_at_call 16
    refine (HA.out _ (fr_alloc w _)).mono ?_
    rintro e w1 ⟨rfl, ht⟩
    have HT := hid ht
    obtain ⟨_, _, _, _, hfr⟩ := ht
    have k0 := keepc hfr (cell_new (w := w) (cs := #[.int .i64 5, .int .i64 n, .int .i64 c, .string s]) (t := 33) (j := 0) rfl) HZ.out
    have k1 := keepc hfr (cell_new (w := w) (cs := #[.int .i64 5, .int .i64 n, .int .i64 c, .string s]) (t := 33) (j := 1) rfl) HZ.out
    have hsz1 := hfr.size
    have hHl : w.heap.size < w1.heap.size := by simp at hsz1; omega
    have hHz : w.heap.size ≠ w1.heap.size := by omega
    obtain ⟨v, ps, f3, g, hb1, hr1, hc1, hpg, hca, hgin, hgb, hset⟩ := (HB.out w1 HT.out).client nb hci
    have HSET := hid hset
    have HCA := hid hca
    have hgl := hca.lt
    have hgz : g ≠ w1.heap.size := by omega
    have hgH : g ≠ w.heap.size := fun e => by
      have h1 := HLB.out g hgin
      omega
    have u0 := hca.num
    obtain ⟨csg, hbg⟩ := hca.block
    have zg := frozen_blk hbg 0
    have hfc := bfind_any b B v ps f3 n (w1.alloc (.cells #[.string ByteArray.empty, .int .i64 0, .int .i64 0, .int .i64 0] 44)) (hb1.fr (fr_alloc w1 _) (by simp)) (RowA.framed _ _ _ _ _ ⟨hr1, rfl⟩ (fr_alloc w1 _) (by simp)).1 (EachA.framed CliA.framed _ _ hc1 (fr_alloc w1 _) (by simp)) (by omega)
    rw [HBF.out] at hfc
    simp only [hpg] at hfc
    have HFC := hid hfc
    have hoff := (hca.fr (fr_alloc w1 (.cells #[.string ByteArray.empty, .int .i64 0, .int .i64 0, .int .i64 0] 44)) (by simp)).off
    have ecomm : (w1.alloc (.cells #[.string ByteArray.empty, .int .i64 0, .int .i64 0, .int .i64 0] 44)).setCell ⟨g, 0, none⟩ (.int .i64 0) = (w1.setCell ⟨g, 0, none⟩ (.int .i64 0)).alloc (.cells #[.string ByteArray.empty, .int .i64 0, .int .i64 0, .int .i64 0] 44) := World.setCell_alloc_past _ g 0 _ hgl
    rw [ecomm] at hoff
    have HFIN : Hid (KNext b x i (fb ++ fx) w ((w1.setCell ⟨g, 0, none⟩ (.int .i64 0)).alloc (.cells #[.string ByteArray.empty, .int .i64 0, .int .i64 0, .int .i64 0] 44))) := hid ⟨_, _, HEND.out w1 _ _ HT.out ⟨fb, HSET.out _ _ hoff.1 (((fr_alloc w1 _).mono (fun k hk => by cases hk)).trans hoff.2), nb, fun _ hy => .inl hy, ((fr_alloc w1 _).mono (fun k hk => by cases hk)).trans (hoff.2.mono (fun k hk => .inl (by simp at hk; rw [hk]; exact hgin)))⟩, HGOOD.out⟩
    generalize B.cls[ci].num = un at u0
    clear hfr hsz1 hfc hb1 hr1 hc1 hpg hset hca hbg hoff ecomm
    go_wp2_with fail
    go_at_call 28
    refine HFC.out.mono ?_
    rintro e w2 ⟨rfl, rfl⟩
    go_wp2_with fail
    go_ret
    exact ⟨rfl, HFIN.out⟩

end Go.Proofs.Ythlhbjnkohinmaa
