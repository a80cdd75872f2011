import Derived.Test.YthlhbjnkohinmaaGreatPart06
import Derived.Test.YthlhbjnkohinmaaGreatPart08
import Derived.Deep.AppendLies
/- The program's engine, as New makes it. -/
namespace Go.Proofs.YthlhbjnkohinmaaGreat
open Go.RowKit

theorem flatm_len {α : Type} {m : Nat} {f : Nat → List α} (hf : ∀ c, (f c).length = m) : ∀ n, ((List.range n).flatMap f).length = n * m
  | 0 => by simp
  | n + 1 => by rw [List.range_succ, List.flatMap_append, List.length_append, flatm_len hf n]; simp [hf, Nat.add_mul]
theorem flatm_at {α : Type} {m : Nat} {f : Nat → List α} (hf : ∀ c, (f c).length = m) {c j : Nat} (hj : j < m) : ∀ n, c < n → ((List.range n).flatMap f)[c * m + j]? = (f c)[j]?
  | 0, h => by omega
  | n + 1, h => by
    rw [List.range_succ, List.flatMap_append]
    by_cases e : c = n
    · subst e
      rw [List.getElem?_append_right (by rw [flatm_len hf]; omega), flatm_len hf]
      simp
    · have h1 : c * m + j < n * m := by
        have : (c + 1) * m ≤ n * m := Nat.mul_le_mul_right m (by omega)
        rw [Nat.add_mul] at this
        omega
      rw [List.getElem?_append_left (by rw [flatm_len hf]; exact h1)]
      exact flatm_at hf hj n (by omega)
/-- An engine that was just made. -/
def X0 (r : Src) : PEng := ⟨r, 0, fun _ => .zero, 0, fun _ => 0, fun _ => []⟩
def kv0 : Nat → Value := fun _ => .slice none 0 0
def zeroEng : List Value := [.slice none 0 0, .int .i64 0, .int .i64 0] ++ ((List.range 8).flatMap (fun _ => sesCells .zero) ++ (.int .i64 0 :: (List.range 60).flatMap (fun _ => [.int .i64 0, .slice none 0 0])))
theorem zero_eng : Tryz.zeroCells91.toList = zeroEng := by kernel_rfl
theorem zeroEng_ses {k j : Nat} (hk : k < 8) (hj : j < 244) : zeroEng[3 + k * 244 + j]? = (sesCells .zero)[j]? := by
  unfold zeroEng
  rw [List.getElem?_append_right (by simp; omega), List.getElem?_append_left (by rw [flatm_len (fun _ => sesCells_len _)]; simp; omega)]
  have := flatm_at (f := fun _ => sesCells .zero) (m := 244) (fun _ => sesCells_len _) (c := k) (j := j) hj 8 hk
  rw [← this]
  congr 1
  simp
  omega
theorem zeroEng_latest : zeroEng[1955]? = some (.int .i64 0) := by
  unfold zeroEng
  rw [List.getElem?_append_right (by simp), List.getElem?_append_right (by rw [flatm_len (fun _ => sesCells_len _)]; simp), flatm_len (fun _ => sesCells_len _)]
  rfl
theorem zeroEng_hist {c j : Nat} (hc : c < 60) (hj : j < 2) : zeroEng[1955 + 1 + c * 2 + j]? = ([.int .i64 0, .slice none 0 0] : List Value)[j]? := by
  unfold zeroEng
  rw [List.getElem?_append_right (by simp; omega), List.getElem?_append_right (by rw [flatm_len (fun _ => sesCells_len _)]; simp; omega), flatm_len (fun _ => sesCells_len _)]
  have := flatm_at (f := fun _ => ([.int .i64 0, .slice none 0 0] : List Value)) (m := 2) (fun _ => rfl) (c := c) (j := j) hj 60 hc
  rw [← this, show 1955 + 1 + c * 2 + j - [Value.slice none 0 0, Value.int .i64 0, Value.int .i64 0].length - 8 * 244 = c * 2 + j + 1 by simp; omega]
  rfl
theorem each_zero (r : Src) (w : World) : ∀ l : List Nat, EachA HistA (l.map kv0) (l.map (X0 r).hist) w []
  | [] => rfl
  | _ :: l => ⟨[], [], RowA.nil _ _ _, each_zero r w l, rfl⟩
theorem fresh_prog {w : World} {g : Nat} {v : Value} {u : Int} (r : ByteArray × List (Nat × List Nat × List Nat)) (hb : w.heap[g]? = some (.cells ((Tryz.zeroCells91.setIfInBounds 0 v).setIfInBounds 1 (.int .i64 u)) 91 (0, 0))) : PEngA g (X0 ((v, u), r)) w [g] := by
  have hc : ∀ i, 2 ≤ i → w.cell? ⟨g, i, none⟩ = zeroEng[i]? := by
    intro i hi
    rw [cell_of_row _ _ _ _ _ _ hb, Array.getElem?_setIfInBounds_ne (by omega), Array.getElem?_setIfInBounds_ne (by omega), ← zero_eng]
    simp
  have hz : 1 < Tryz.zeroCells91.size := by
    have := congrArg List.length zero_eng
    simp only [Array.length_toList] at this
    rw [this]
    simp [zeroEng]
  refine ⟨kv0, ⟨⟨_, hb⟩, ?_, ?_, ?_, ?_, ?_⟩, [], ?_, rfl⟩
  · rw [cell_of_row _ _ _ _ _ _ hb, Array.getElem?_setIfInBounds_ne (by omega), Array.getElem?_setIfInBounds_self_of_lt (by omega)]
    rfl
  · rw [cell_of_row _ _ _ _ _ _ hb, Array.getElem?_setIfInBounds_self_of_lt (by simp)]
    rfl
  · rw [hc 2 (by omega)]; rfl
  · intro k hk
    refine .of (fun j v hv => ?_) ok_zero
    have hj : j < 244 := by
      have := (List.getElem?_eq_some_iff.1 hv).1
      rw [sesCells_len] at this
      exact this
    rw [hc _ (by omega), zeroEng_ses hk hj]
    exact hv
  · refine ⟨?_, fun c hcl => ?_, fun c hcl => ?_⟩
    · rw [hc 1955 (by omega)]; exact zeroEng_latest
    · rw [hc _ (by omega)]; exact zeroEng_hist (j := 0) hcl (by omega)
    · rw [hc _ (by omega)]; exact zeroEng_hist (j := 1) hcl (by omega)
  · exact each_zero _ w _

end Go.Proofs.YthlhbjnkohinmaaGreat

/- The statements' world in memory; an engine that was just made. -/
namespace Go.Proofs.YthlhbjnkohinmaaGreat
open Go.RowKit

def E0 (room : Int) : Eng := ⟨room, [], [], [], 0⟩
theorem fresh_doc {r : Src} {fr : List Nat} {w : World} {y : Nat} {v : Value} {room : Int} (hq : QR r v w fr) (hb : w.heap[y]? = some (.cells (refCells v room) 40 (0, 0))) : EngA (QR r) y (E0 room) w (y :: (fr ++ [])) :=
  ⟨v, _, _, _, [], [], [y], fr ++ [], ⟨hb, rfl⟩, ⟨fr, [], hq, ⟨[], [], RowA.nil _ _ _, ⟨[], [], rfl, ⟨[], [], RowA.nil _ _ _, ⟨[], [], RowA.nil _ _ _, rfl, rfl⟩, rfl⟩, rfl⟩, rfl⟩, rfl⟩, rfl⟩
theorem fresh_good (r : Src) (i : Nat) (hr : r.1.2 = 999) : Good i (X0 r, E0 999) := by
  refine ⟨⟨[], ?_⟩, ?_⟩
  · refine { opn := rfl, places := by simp, lt := by simp, ses := by simp, free := fun k _ _ => rfl, nums := by simp, opened := rfl, openedPos := Int.le_refl 0, numLe := by simp, snap := by simp, latest := rfl, hist := ?_, histS := ?_, histLe := ?_, last := ?_, room := hr, kept := rfl }
    · intro c _ t ht
      have : t = 0 := by simpa [E0] using ht
      subst this
      rfl
    · intro c _ t ht
      have : t = 0 := by simpa [E0] using ht
      subst this
      rfl
    · intro c _ p hp
      cases hp
    · intro c _
      rfl
  · exact ⟨rfl, by simp [E0], by simp [E0], by simp [E0], by simp [E0], by simp [E0], by simp [E0], by simp [E0], fun c => by simp [X0]⟩

/-- The statements' world, in block bw. -/
def WorldA (bw : Nat) (Ps : List (PEng × Eng)) : Asn := fun w f => ∃ v ps f2 f3, w.heap[bw]? = some (.cells #[v] 28 (0, 0)) ∧ RowA 33 1 v Ps.length ps w f2 ∧ EachA PairA ps Ps w f3 ∧ f = bw :: (f2 ++ f3)
theorem WorldA.framed (bw : Nat) (Ps : List (PEng × Eng)) : Framed (WorldA bw Ps) := by
  rintro S w w' f ⟨v, ps, f2, f3, h1, h2, h3, rfl⟩ hf hs
  exact ⟨v, ps, f2, f3, (hf.block bw (lt_of_block h1) (hs bw (by simp))).trans h1, RowA.framed _ _ _ _ _ h2 hf (fun k hk => hs k (by simp [hk])), EachA.framed PairA.framed _ _ h3 hf (fun k hk => hs k (by simp [hk])), rfl⟩
theorem WorldA.within (bw : Nat) (Ps : List (PEng × Eng)) : Within (WorldA bw Ps) := by
  rintro w f ⟨v, ps, f2, f3, h1, h2, h3, rfl⟩ k hk
  rcases List.mem_cons.mp hk with rfl | hk
  · exact lt_of_block h1
  · rcases List.mem_append.mp hk with hk | hk
    · exact RowA.within _ _ _ _ _ h2 k hk
    · exact EachA.within PairA.within _ _ h3 k hk

/-- The world behind a step. -/
def WTo (bw i n : Nat) (f : List Nat) (w w' : World) : Prop := ∃ Ps', ATo (WorldA bw Ps') f w w' ∧ (∀ q ∈ Ps', Good (i + 1) q) ∧ Ps'.length ≤ n + 1
theorem WTo.same {bw i : Nat} {Ps : List (PEng × Eng)} {f : List Nat} {w w' : World} (h : WorldA bw Ps w f) (hn : f.Nodup) (hg : ∀ q ∈ Ps, Good i q) (hf : Fr [] w w') : WTo bw i Ps.length f w w' :=
  ⟨Ps, ⟨f, WorldA.framed _ _ h hf (by simp), hn, fun _ hx => .inl hx, hf.mono (fun k hk => by cases hk)⟩, fun q hq => (hg q hq).mono (Nat.le_succ i), Nat.le_succ _⟩

end Go.Proofs.YthlhbjnkohinmaaGreat

/- The statements' world: New. -/
namespace Go.Proofs.YthlhbjnkohinmaaGreat
open Go.RowKit

theorem made_close {bw g2 gx gy va' : Nat} {Ps : List (PEng × Eng)} {i cap : Nat} {v : Value} {ps : List Value} {f2 f3 : List Nat} {w w2 w3 : World} {ob : Obj} {rv rd : Value} {s : ByteArray} {R : List RuleP}
    (h1 : w.heap[bw]? = some (.cells #[v] 28 (0, 0))) (h2 : RowA 33 1 v Ps.length ps w f2) (h3 : EachA PairA ps Ps w f3) (hn : (bw :: (f2 ++ f3)).Nodup) (hg : ∀ q ∈ Ps, Good i q)
    (hg12 : w.grownBy w2 none) (hx : w2.heap[gx]? = some (.cells ((Tryz.zeroCells91.setIfInBounds 0 rv).setIfInBounds 1 (.int .i64 999)) 91 (0, 0))) (hy : w2.heap[gy]? = some (.cells (refCells rd 999) 40 (0, 0)))
    (hro : RulesOwn w2 w.heap.size s rv R) (hrd : RefOwn w2 w.heap.size s rd R) (hread : ReadAns s 0 0 (some R)) (hgx : w.heap.size ≤ gx) (hgy : w.heap.size ≤ gy) (hxy : gx ≠ gy) (hgp : g2 = w2.heap.size)
    (ho : w3.ownsRow 0 33 1 (.slice (some ⟨va', 0, none⟩) (Ps.length + 1) cap) (Ps.length + 1) (ps ++ [.pointer (some ⟨g2, 0, none⟩)]))
    (hg3 : ((w2.alloc (.cells #[.pointer (some ⟨gx, 0, none⟩), .pointer (some ⟨gy, 0, none⟩)] 44)).alloc ob).grownBy w3 v.ownBlock) (hva : v.ownBlock = some va' ∨ va' = w2.heap.size + 2) :
    WTo bw i Ps.length (bw :: (f2 ++ f3)) w (w3.setCell ⟨bw, 0, none⟩ (.slice (some ⟨va', 0, none⟩) (Ps.length + 1) cap)) := by
  subst hgp
  obtain ⟨h2a, rfl⟩ := h2
  have hbl := lt_of_block h1
  have w2l : ∀ k ∈ v.ownBlock.toList, k < w.heap.size := RowA.within _ _ _ _ _ ⟨h2a, rfl⟩
  have w3l : ∀ k ∈ f3, k < w.heap.size := EachA.within PairA.within _ _ h3
  have hsz := hg12.size
  have hxl := lt_of_block hx
  have hyl := lt_of_block hy
  rw [List.nodup_cons, List.nodup_append] at hn
  obtain ⟨nb, n2, n3, nd⟩ := hn
  have hb2 : bw ∉ v.ownBlock.toList := fun e => nb (by simp [e])
  have hb3 : bw ∉ f3 := fun e => nb (by simp [e])
  -- the frames
  have fr0 : Fr v.ownBlock.toList w w3 := by
    have a1 : Fr [] w ((w2.alloc (.cells #[.pointer (some ⟨gx, 0, none⟩), .pointer (some ⟨gy, 0, none⟩)] 44)).alloc ob) := ((fr_none hg12).alloc _).alloc _
    exact (a1.mono (fun k hk => by cases hk)).trans (Fr.grown hg3)
  have fr2 : Fr v.ownBlock.toList w2 w3 := by
    have a1 : Fr [] w2 ((w2.alloc (.cells #[.pointer (some ⟨gx, 0, none⟩), .pointer (some ⟨gy, 0, none⟩)] 44)).alloc ob) := ((Fr.refl [] w2).alloc _).alloc _
    exact (a1.mono (fun k hk => by cases hk)).trans (Fr.grown hg3)
  have frb : Fr [bw] w3 (w3.setCell ⟨bw, 0, none⟩ (.slice (some ⟨va', 0, none⟩) (Ps.length + 1) cap)) := (Fr.refl [bw] w3).set (.inl (by simp)) _
  have s3 := fr0.size
  have hb3' : w3.heap[bw]? = some (.cells #[v] 28 (0, 0)) := (fr0.block bw hbl hb2).trans h1
  have hvn : va' ≠ bw := by
    rcases hva with h | h
    · intro e; subst e; exact hb2 (by rw [h]; simp)
    · omega
  have hnew : ∀ k, w.heap.size ≤ k → k < w2.heap.size → w3.heap[k]? = w2.heap[k]? := fun k hk hk2 => fr2.block k hk2 (fun e => by have := w2l k e; omega)
  have hpair : w3.heap[w2.heap.size]? = some (.cells #[.pointer (some ⟨gx, 0, none⟩), .pointer (some ⟨gy, 0, none⟩)] 44 (0, 0)) := by
    have e1 := hg3.block w2.heap.size (by simp; omega) (fun e => by have := w2l w2.heap.size (by rw [← e]; simp); omega)
    exact e1.trans ((Below.heap_alloc _ _ _ (by simp)).trans (heap_alloc_new w2 _))
  have hsz3 : w2.heap.size + 1 < w3.heap.size := by
    have := hg3.size
    simp at this
    omega
  obtain ⟨fr, hfr⟩ : ∃ fr, fr = restOf w2 w.heap.size gx gy := ⟨_, rfl⟩
  have frl : ∀ k ∈ fr, w.heap.size ≤ k ∧ k < w2.heap.size ∧ k ≠ gx ∧ k ≠ gy := fun k hk => by
    rw [hfr] at hk
    have := restOf_mem.mp hk
    exact ⟨this.2.1, this.1, this.2.2⟩
  have hQ : QR ((rv, 999), s, R) rd w3 fr := by
    have h0 := QR.fresh (rm := 999) hro hrd hx hy
    rw [← hfr] at h0
    exact QR.framed _ _ h0 fr2 (fun k hk e => by have := frl k hk; have := w2l k e; omega)
  have hP : PairA (.pointer (some ⟨w2.heap.size, 0, none⟩)) (X0 ((rv, 999), s, R), E0 999) w3 (w2.heap.size :: gx :: gy :: fr) :=
    ⟨w2.heap.size, gx, gy, [gx], gy :: (fr ++ []), rfl, ⟨hpair, fresh_prog (s, R) ((hnew gx hgx hxl).trans hx), fresh_doc hQ ((hnew gy hgy hyl).trans hy), hread⟩, by simp⟩
  have hE : EachA PairA (ps ++ [.pointer (some ⟨w2.heap.size, 0, none⟩)]) (Ps ++ [(X0 ((rv, 999), s, R), E0 999)]) w3 (f3 ++ (w2.heap.size :: gx :: gy :: fr)) :=
    EachA.snoc hP (EachA.framed PairA.framed _ _ h3 fr0 (fun k hk e => nd k e k hk rfl))
  have hW : WorldA bw (Ps ++ [(X0 ((rv, 999), s, R), E0 999)]) (w3.setCell ⟨bw, 0, none⟩ (.slice (some ⟨va', 0, none⟩) (Ps.length + 1) cap)) (bw :: ([va'] ++ (f3 ++ (w2.heap.size :: gx :: gy :: fr)))) := by
    refine ⟨_, _, [va'], _, one_setCell hb3', ⟨?_, rfl⟩, EachA.framed PairA.framed _ _ hE frb ?_, rfl⟩
    · simp only [List.length_append, List.length_cons, List.length_nil]
      exact ownsRow_setCell_other ho (by simp [Value.ownBlock, hvn]) _
    · intro k hk e
      simp at e
      subst e
      simp at hk
      rcases hk with hk | hk | hk | hk | hk
      · exact hb3 hk
      · omega
      · omega
      · omega
      · have := frl k hk; omega
  have hvb : va' ∈ v.ownBlock.toList ∨ va' = w2.heap.size + 2 := by
    rcases hva with h | h
    · exact .inl (by rw [h]; simp)
    · exact .inr h
  refine ⟨_, ⟨_, hW, ?_, ?_, ?_⟩, ?_, by simp⟩
  · rw [List.nodup_cons]
    constructor
    · intro hm
      simp at hm
      rcases hm with h | h | h | h | h | h
      · exact hvn h.symm
      · exact hb3 h
      · omega
      · omega
      · omega
      · have := frl bw h; omega
    · simp only [List.singleton_append, List.nodup_cons]
      constructor
      · intro hm
        simp at hm
        rcases hvb with hv | hv
        · have := w2l va' hv
          rcases hm with h | h | h | h | h
          · exact nd va' hv va' h rfl
          · omega
          · omega
          · omega
          · have := frl va' h; omega
        · rcases hm with h | h | h | h | h
          · have := w3l va' h; omega
          · omega
          · omega
          · omega
          · have := frl va' h; omega
      · rw [List.nodup_append]
        refine ⟨n3, ?_, ?_⟩
        · rw [List.nodup_cons, List.nodup_cons, List.nodup_cons]
          refine ⟨?_, ?_, ?_, ?_⟩
          · intro hm
            simp at hm
            rcases hm with h | h | h
            · omega
            · omega
            · have := frl _ h; omega
          · intro hm
            simp at hm
            rcases hm with h | h
            · exact hxy h
            · exact (frl _ h).2.2.1 rfl
          · intro hm
            exact (frl _ hm).2.2.2 rfl
          · rw [hfr]; exact restOf_nodup _ _ _ _
        · rintro a ha b hb rfl
          have := w3l a ha
          simp at hb
          rcases hb with h | h | h | h
          · omega
          · omega
          · omega
          · have := frl a h; omega
  · intro k hk
    simp at hk ⊢
    rcases hk with h | h | h | h | h | h | h
    · exact .inl (.inl h)
    · subst h
      rcases hvb with hv | hv
      · have : v.ownBlock = some k := by simpa using hv
        exact .inl (.inr (.inl this))
      · exact .inr (by omega)
    · exact .inl (.inr (.inr h))
    · exact .inr (by omega)
    · exact .inr (by omega)
    · exact .inr (by omega)
    · exact .inr (frl k h).1
  · exact (fr0.mono (fun k hk => .inl (by simp at hk ⊢; simp [hk]))).trans (frb.mono (fun k hk => .inl (by simp at hk ⊢; simp [hk])))
  · intro q hq
    rcases List.mem_append.mp hq with hq | hq
    · exact (hg q hq).mono (Nat.le_succ i)
    · simp at hq; subst hq; exact fresh_good _ _ rfl


set_option maxRecDepth 20000 in
set_option maxHeartbeats 2000000 in
theorem made_all (bw i : Nat) (Ps : List (PEng × Eng)) (f : List Nat) (s : ByteArray) (w : World) (hI : WorldA bw Ps w f) (hn : f.Nodup) (hg : ∀ q ∈ Ps, Good i q) (hs : s.size ≤ maxLen) (hl : (Ps.length + 1) * 8 ≤ 140737488355328) :
    Calls Tryz.prog 12 #[.pointer (some ⟨bw, 0, none⟩), .string s, .int .i64 999] w fun e w' => e = .returned (.bool true) ∧ WTo bw i Ps.length f w w' := by
  obtain ⟨i0, hi0, hz0, hz1, hz2⟩ := info_parts Tryz.info33
  have HSAME : Hid (∀ w', w.grownBy w' none → WTo bw i Ps.length f w w') := hid (fun w' hw => WTo.same hI hn hg (fr_none hw))
  obtain ⟨v, ps, f2, f3, h1, h2, h3, rfl⟩ := hI
  have hlb := lt_of_block h1
  have HCL := hid (fun g2 gx gy va' cap w2 w3 ob rv rd R => made_close (s := s) (R := R) (g2 := g2) (gx := gx) (gy := gy) (va' := va') (cap := cap) (w2 := w2) (w3 := w3) (ob := ob) (rv := rv) (rd := rd) h1 h2 h3 hn hg)
  obtain ⟨h2a, rfl⟩ := h2
  have hvb : v.ownBlock ≠ some bw := own_ne_ty h2a h1 (by decide)
  obtain ⟨av, mv, cv, rfl⟩ := own_slice h2a
  have em := own_len h2a
  subst em
  have H2 := hid h2a
  have H1 := hid h1
  clear h1 h2a h3 hn hg
  go_enter Tryz.func12, Tryz.ntmps12
  go_wp2_with fail
  go_at_call 16
  refine (new_any s 999 w hs).mono ?_
  rintro e w1 ⟨x, p, o, ha, hg1, hcase⟩
  have HA := hid ha
  clear ha
  rcases hcase with ⟨x1, x4, rfl⟩ | ⟨rfl, hroom, rfl⟩ | ⟨rfl, r1, r2, g, R, rv, rfl, rfl, hgw, hgb, hro⟩
  · go_wp2_with fail
    go_at_call 17
    refine (fresh_err s 999 _ x p o hs HA.out x1).mono ?_
    rintro e w2 ⟨rfl, hg2⟩
    have q1 : (x != x) = false := by simp
    have q2 : (p != p) = false := by simp
    have q3 : (x != 0) = true := by simp; omega
    have q4 : (x == 0) = false := by simp; omega
    have HG := hid (grown_trans hg1 hg2)
    clear hg1 hg2
    go_wp2_with (go_at_call 18; refine (num_any _ _).mono ?_; rintro e w' ⟨rfl, rfl⟩)
    go_ret
    exact ⟨rfl, HSAME.out _ HG.out⟩
  · exfalso
    omega
  · have HRO := hid hro
    have HREAD : Hid (ReadAns s 0 0 (some R)) := hid (by
      have h0 := HA.out
      rcases h0.zero with ⟨_, hp, _⟩ | ⟨hp, _⟩
      · rw [hp] at h0; exact h0
      · omega)
    clear hro
    go_wp2_with fail
    go_at_call 17
    refine (fresh_ok s 999 _ p R hs HA.out r1 r2).mono ?_
    rintro e w2 ⟨g2, rd, rfl, hgw2, hgb2, hro2, hg2⟩
    have HRO2 := hid hro2
    clear hro2
    have hsz1 := hg1.size
    have hsz2 := hg2.size
    have hgl := lt_of_block hgb
    have HG12 := hid (grown_trans hg1 hg2)
    have HROK := hid (RulesOwn_kept HRO.out hg2)
    have HX := hid ((hg2.block g hgl (by simp)).trans hgb)
    have HY := hid hgb2
    have b1 := (HG12.out.block bw hlb (by simp)).trans H1.out
    have HO2 := hid (own_kept H2.out HG12.out (fun g hg => by cases hg))
    have c0 := cell_of_one b1
    have hl2 := lt_of_block b1
    have hbz : bw ≠ w2.heap.size := by omega
    have hbz1 : bw ≠ w2.heap.size + 1 := by omega
    have hbz2 : bw < w2.heap.size + 1 := by omega
    have HB1 := hid b1
    clear hgb hgb2 hg1 hg2 b1
    go_wp2_with (first | (go_at_call 18; refine (num_any _ _).mono ?_; rintro e w' ⟨rfl, rfl⟩) | (at_builtin; refine wpList_append_lies _ rfl (.tmp 49) (.tmp 54) 26 rfl 0 33 i0 (.pointer none) 1 8 Tryz.underlying26 hi0 hz0 hz1 hz2 rfl (by decide) _ _ _ rfl ((HO2.out.alloc _).alloc _) _ 1 1 [.pointer (some ⟨w2.heap.size, 0, none⟩)] rfl rfl ?c1 ?c2 (by decide) ?c3 ?c4 (Nat.zero_le _) (w2.heap.size + 2) ?c5 ?_))
    case c1 => intro j u hj; exact news_at hj
    case c2 => intro u hu; simp at hu; subst hu; rfl
    case c3 => unfold maxLen; omega
    case c4 => exact hl
    case c5 => simp
    · intro va' cap w3 hown3 hg3 hva hvl
      have hb3 : w3.heap[bw]? = some (.cells #[.slice av Ps.length cv] 28 (0, 0)) := (hg3.block bw (by simp; omega) (fun e => hvb e.symm)).trans ((Below.heap_alloc _ _ _ (by simp; omega)).trans ((Below.heap_alloc _ _ _ hl2).trans HB1.out))
      have c3 := cell_of_one hb3
      have f3' := free_of_one hb3
      have HFIN := hid (HCL.out w2.heap.size g g2 va' cap w2 w3 _ rv rd R HG12.out HX.out HY.out HROK.out (RefOwn_mono hsz1 HRO2.out) HREAD.out hgw (by omega) (by omega) rfl hown3 hg3 hva)
      clear hown3 hg3 hb3 c0
      go_wp2
      go_ret
      exact ⟨rfl, HFIN.out⟩

end Go.Proofs.YthlhbjnkohinmaaGreat

/- The statements' world: late, and one step of a script. -/
namespace Go.Proofs.YthlhbjnkohinmaaGreat
open Go.RowKit

/-- Which pair a number speaks of. -/
def pickN (a : Int) (n : Nat) : Nat := (pickF a n).toNat
theorem pickN_lt (a : Int) {n : Nat} (h : 0 < n) : pickN a n < n := by
  have := pickF_bd a n (by omega)
  unfold pickN
  omega
theorem pickN_eq (a : Int) {n : Nat} (h : 0 < n) : ((pickN a n : Nat) : Int) = pickF a n := by
  have := pickF_bd a n (by omega)
  unfold pickN
  omega

/-- One of the world's pairs: what it is, and the world behind its step. -/
theorem WorldA.at {bw i r : Nat} {Ps : List (PEng × Eng)} {f : List Nat} {w : World} (h : WorldA bw Ps w f) (hn : f.Nodup) (hg : ∀ q ∈ Ps, Good i q) (hr : r < Ps.length) (hi : i ≤ 4000000000000) :
    ∃ v ps, w.heap[bw]? = some (.cells #[v] 28 (0, 0)) ∧ w.ownsRow 0 33 1 v Ps.length ps ∧ ∃ g x y f1 f2, ps[r]? = some (.pointer (some ⟨g, 0, none⟩)) ∧ Start g x y Ps[r].1 Ps[r].2 f1 f2 i w ∧
      ∀ W w', Fr [] w W → PairTo g i (g :: (f1 ++ f2)) W w' → WTo bw i Ps.length f w w' := by
  have hwi := WorldA.within _ _ h
  obtain ⟨v, ps, f2, f3, h1, h2, h3, rfl⟩ := h
  have hl : ps.length = Ps.length := EachA.len h3
  obtain ⟨fa, fg, fb, hp, e3, hput⟩ := EachA.focus PairA.framed h3 r (by omega) hr
  subst e3
  obtain ⟨g, x, y, k1, k2, e, hpa, rfl⟩ := hp
  refine ⟨v, ps, h1, h2.1, g, x, y, k1, k2, by rw [List.getElem?_eq_getElem (by omega), e], ⟨hpa, ?_, hg _ (List.getElem_mem hr), hi⟩, ?_⟩
  · have : (g :: (k1 ++ k2)).Sublist (bw :: (f2 ++ (fa ++ (g :: (k1 ++ k2) ++ fb)))) :=
      ((((List.sublist_append_left _ fb).trans (List.sublist_append_right fa _)).trans (List.sublist_append_right f2 _))).trans (List.sublist_cons_self bw _)
    exact hn.sublist this
  · rintro W w' hW ⟨q', hq, hgq⟩
    obtain ⟨fg', a, n, s, r1⟩ := hq.before hW
    have hn2 : ((bw :: (f2 ++ fa)) ++ ((g :: (k1 ++ k2)) ++ fb)).Nodup := by simpa using hn
    have hdis : ∀ k, k ∈ bw :: (f2 ++ fa) ∨ k ∈ fb → k ∉ g :: (k1 ++ k2) := by
      intro k hk hk2
      rw [List.nodup_append, List.nodup_append] at hn2
      obtain ⟨_, ⟨_, _, d2⟩, d1⟩ := hn2
      rcases hk with hk | hk
      · exact d1 k hk k (List.mem_append_left _ hk2) rfl
      · exact d2 k hk2 k hk rfl
    have hE := hput _ _ _ _ _ a r1 (fun k hk => hdis k (.inl (by simp [hk]))) (fun k hk => hdis k (.inr hk))
    have hps : ps.set r (.pointer (some ⟨g, 0, none⟩)) = ps := by rw [← e]; simp
    rw [hps] at hE
    refine ⟨Ps.set r q', ⟨bw :: (f2 ++ (fa ++ (fg' ++ fb))), ⟨v, ps, f2, _, (r1.block bw (lt_of_block h1) (hdis bw (.inl (by simp)))).trans h1, ?_, hE, rfl⟩, ?_, ?_, ?_⟩, ?_, by simp⟩
    · have := RowA.framed _ _ _ _ _ h2 r1 (fun k hk => hdis k (.inl (by simp [hk])))
      simpa using this
    · have := nodup_swap (fa := bw :: (f2 ++ fa)) (g := g :: (k1 ++ k2)) (g' := fg') (fb := fb) (N := w.heap.size) hn2 (fun k hk => hwi k (by simpa using hk)) n s
      simpa using this
    · intro k hk
      have : k ∈ fg' → k ∈ g :: (k1 ++ k2) ∨ w.heap.size ≤ k := s k
      simp only [List.mem_cons, List.mem_append] at hk this ⊢
      grind
    · exact r1.mono (fun k hk => .inl (by simp only [List.mem_cons, List.mem_append] at hk ⊢; grind))
    · intro q hq
      rcases List.mem_or_eq_of_mem_set hq with hq | rfl
      · exact (hg q hq).mono (Nat.le_succ i)
      · exact hgq

theorem WTo.before {bw i n : Nat} {f : List Nat} {w w0 w' : World} (h : WTo bw i n f w0 w') (hf : Fr [] w w0) : WTo bw i n f w w' := by
  obtain ⟨Ps', h1, h2, h3⟩ := h
  exact ⟨Ps', h1.before hf, h2, h3⟩

/-- What late tells. -/
def LateIs (Ps : List (PEng × Eng)) (k a : Int) (bl : Bool) : Prop := k = 7 → ∀ h : pickN a Ps.length < Ps.length, bl = decide ((Ps[pickN a Ps.length].2.kept.length : Int) + 60 > 999)

set_option maxRecDepth 20000 in
set_option maxHeartbeats 1000000 in
theorem late_all (bw i : Nat) (Ps : List (PEng × Eng)) (f : List Nat) (k a b c : Int) (s : ByteArray) (w : World) (hI : WorldA bw Ps w f) (hn : f.Nodup) (hg : ∀ q ∈ Ps, Good i q) (hi : i ≤ 4000000000000) (hl : Ps.length ≤ 9223372036854775807) (ha : -9223372036854775808 ≤ a) (ha2 : a ≤ 9223372036854775807) :
    Calls Tryz.prog 11 #[.pointer (some ⟨bw, 0, none⟩), stepV k a b c s] w fun e w' => (∃ bl, e = .returned (.bool bl) ∧ LateIs Ps k a bl) ∧ Fr [] w w' := by
  by_cases hk : k = 7
  · subst hk
    by_cases hm : Ps = []
    · subst hm
      obtain ⟨v, ps, f2, f3, h1, h2, h3, rfl⟩ := hI
      obtain ⟨av, mv, cv, rfl⟩ := own_slice h2.1
      have em := own_len h2.1
      have c0 := cell_of_one h1
      have hlb := lt_of_block h1
      have hz : bw ≠ w.heap.size := by omega
      simp at em
      subst em
      clear h1 h2 h3 hn hg
      go_enter Tryz.func11, Tryz.ntmps11
      go_wp2
      go_ret
      exact ⟨⟨_, rfl, fun _ h => by simp at h⟩, fr_alloc w _⟩
    · have hpos : 0 < Ps.length := List.length_pos_iff.mpr hm
      have hr := pickN_lt a hpos
      obtain ⟨v, ps, h1, h2, g, x, y, f1, f2, hpr, hst, _⟩ := WorldA.at hI hn hg hr hi
      obtain ⟨rv, cv, kv, ov, cs, qs, hst2⟩ := hst.pair.doc
      obtain ⟨_, _, ⟨hyb, _⟩, ⟨_, _, _, ⟨_, _, _, ⟨_, _, _, ⟨_, _, hkr, _, _⟩, _⟩, _⟩, _⟩, _⟩ := hst2
      obtain ⟨ak, mk, ck, rfl⟩ := own_slice hkr.1
      have ek := own_len hkr.1
      subst ek
      obtain ⟨av, mv, cv', rfl⟩ := own_slice h2
      have em := own_len h2
      subst em
      have c0 := cell_of_one h1
      have hlb := lt_of_block h1
      have hz : bw ≠ w.heap.size := by omega
      have hm' : ((Ps.length : Int) == 0) = false := by simp; exact hm
      have HPK := hid (fun W => pick_any a Ps.length W ha ha2 hpos hl)
      rw [← pickN_eq a hpos] at HPK
      obtain ⟨gr, rfl, _, hgb, hgl, hcell⟩ := own_cell h2 hpos
      have d0 := hcell _ _ hpr
      have d1 : w.cell? ⟨g, 1, none⟩ = some (.pointer (some ⟨y, 0, none⟩)) := by rw [cell_of_row _ _ _ _ _ _ hst.pair.block]; rfl
      have d2 : w.cell? ⟨y, 3, none⟩ = some (.slice ak Ps[pickN a Ps.length].2.kept.length ck) := by rw [cell_of_row _ _ _ _ _ _ hyb]; rfl
      have y1l := lt_of_block hst.pair.block
      have y2l := lt_of_block hyb
      have z1 : gr ≠ w.heap.size := by omega
      have z2 : g ≠ w.heap.size := by omega
      have z3 : y ≠ w.heap.size := by omega
      have hkl := hst.good.2.kept
      have HLI : Hid (LateIs Ps 7 a (decide ((Ps[pickN a Ps.length].2.kept.length : Int) + 60 > 999))) := hid (fun _ _ => rfl)
      obtain ⟨kl, hkl2⟩ : ∃ kl, kl = Ps[pickN a Ps.length].2.kept.length := ⟨_, rfl⟩
      simp only at hkl
      rw [← hkl2] at d2 hkl HLI
      obtain ⟨pn, hpn⟩ : ∃ pn, pn = pickN a Ps.length := ⟨_, rfl⟩
      rw [← hpn] at d0 HPK hr
      clear hcell h1 h2 hst hyb hkr hkl2 hpn hm hI hg hn hpr
      by_cases hlate : (kl : Int) + 60 > 999
      · have e1 : decide ((kl : Int) + 60 > 999) = true := by simpa using hlate
        rw [e1] at HLI
        clear e1
        go_enter Tryz.func11, Tryz.ntmps11
        go_wp2
        go_quiet ((go_at_call 13; exact Calls.quiet_of_same (HPK.out _)))
        go_wp2
        go_ret
        exact ⟨⟨_, rfl, HLI.out⟩, (fr_alloc w _).drewN _⟩
      · go_enter Tryz.func11, Tryz.ntmps11
        go_wp2
        go_quiet ((go_at_call 13; exact Calls.quiet_of_same (HPK.out _)))
        go_wp2
        go_ret
        exact ⟨⟨_, rfl, HLI.out⟩, (fr_alloc w _).drewN _⟩
  · have hk' : (k != 7) = true := by simpa using hk
    have HLI : Hid (LateIs Ps k a false) := hid (fun e => absurd e hk)
    clear hI hn hg
    go_enter Tryz.func11, Tryz.ntmps11
    go_wp2
    go_ret
    exact ⟨⟨_, rfl, HLI.out⟩, fr_alloc w _⟩


set_option maxRecDepth 20000 in
set_option maxHeartbeats 2000000 in
theorem step_all (bw i : Nat) (Ps : List (PEng × Eng)) (f : List Nat) (k a b c : Int) (s : ByteArray) (w : World) (hI : WorldA bw Ps w f) (hn : f.Nodup) (hg : ∀ q ∈ Ps, Good i q) (hi : i ≤ 4000000000000) (hl : (Ps.length + 1) * 8 ≤ 140737488355328) (ha : -9223372036854775808 ≤ a) (ha2 : a ≤ 9223372036854775807) (hs : s.size ≤ maxLen)
    (hc : k = 1 → c = 999) (hk : k ≤ 6) :
    Calls Tryz.prog 10 #[.pointer (some ⟨bw, 0, none⟩), stepV k a b c s] w fun e w' => e = .returned (.bool true) ∧ WTo bw i Ps.length f w w' := by
  have hs63 : s.size < 9223372036854775808 := by unfold maxLen at hs; omega
  by_cases hk1 : k = 1
  · subst hk1
    have hc9 := hc rfl
    subst hc9
    have HM := hid (fun o => made_all bw i Ps f s (w.alloc o) (WorldA.framed _ _ hI (fr_alloc w o) (by simp)) hn hg hs hl)
    clear hI hg
    go_enter Tryz.func10, Tryz.ntmps10
    go_wp2_with fail
    go_at_call 12
    refine (HM.out _).mono ?_
    rintro e w1 ⟨rfl, hw⟩
    have HW := hid hw
    clear hw
    go_wp2
    go_ret
    exact ⟨rfl, HW.out.before (fr_alloc w _)⟩
  · have hk2 : (k == 1) = false := by simpa using hk1
    by_cases hz : Ps = [] ∨ k < 1
    · have HS : Hid (∀ w', Fr [] w w' → WTo bw i Ps.length f w w') := hid (fun w' hw => WTo.same hI hn hg hw)
      obtain ⟨v, ps, f2, f3, h1, h2, h3, rfl⟩ := hI
      obtain ⟨av, mv, cv, rfl⟩ := own_slice h2.1
      have em := own_len h2.1
      have c0 := cell_of_one h1
      have hlb := lt_of_block h1
      have hzz : bw ≠ w.heap.size := by omega
      subst em
      clear h1 h2 h3 hn hg hk1 hc
      by_cases hm : Ps.length = 0
      · rw [hm] at c0
        clear hz
        go_enter Tryz.func10, Tryz.ntmps10
        go_wp2
        go_ret
        exact ⟨rfl, HS.out _ (fr_alloc w _)⟩
      · have hk3 : k < 1 := by
          rcases hz with h | h
          · rw [h] at hm; simp at hm
          · exact h
        have hm' : ((Ps.length : Int) == 0) = false := by simp; intro e; rw [e] at hm; simp at hm
        clear hm hz
        go_enter Tryz.func10, Tryz.ntmps10
        go_wp2
        go_ret
        exact ⟨rfl, HS.out _ (fr_alloc w _)⟩
    · have hm : Ps ≠ [] := fun e => hz (.inl e)
      have hk3 : 2 ≤ k := by have : ¬ k < 1 := fun e => hz (.inr e); omega
      have hpos : 0 < Ps.length := List.length_pos_iff.mpr hm
      have hr := pickN_lt a hpos
      obtain ⟨v, ps, h1, h2, g, x, y, f1, f2, hpr, hst, hgo⟩ := WorldA.at hI hn hg hr hi
      obtain ⟨av, mv, cv', rfl⟩ := own_slice h2
      have em := own_len h2
      subst em
      have c0 := cell_of_one h1
      have hlb := lt_of_block h1
      have hzz : bw ≠ w.heap.size := by omega
      have hm' : ((Ps.length : Int) == 0) = false := by simp; exact hm
      have hk4 : ¬ k < 1 := by omega
      have HPK := hid (fun W => pick_any a Ps.length W ha ha2 hpos (by omega))
      rw [← pickN_eq a hpos] at HPK
      obtain ⟨gr, rfl, _, hgb, hgl, hcell⟩ := own_cell h2 hpos
      have d0 := hcell _ _ hpr
      have z1 : gr ≠ w.heap.size := by omega
      have HPS := hid (fun W (hW : Fr [] w W) => pair_sessions g x y _ _ f1 f2 i k a b c s W (hst.grown hW) hs63 hk3 hk)
      have HGO := hid hgo
      obtain ⟨pn, hpn⟩ : ∃ pn, pn = pickN a Ps.length := ⟨_, rfl⟩
      rw [← hpn] at d0 HPK hr
      clear hcell h1 h2 hst hgo hpn hm hI hg hn hpr hz hk1 hc
      go_enter Tryz.func10, Tryz.ntmps10
      go_wp2_with fail
      go_quiet ((go_at_call 13; exact Calls.quiet_of_same (HPK.out _)))
      go_wp2_with fail
      go_at_call 14
      refine (HPS.out _ ((fr_alloc w _).drewN _)).mono ?_
      rintro e w1 ⟨rfl, hp⟩
      have HP := hid hp
      clear hp
      go_wp2
      go_ret
      exact ⟨rfl, HGO.out _ _ ((fr_alloc w _).drewN _) HP.out⟩

end Go.Proofs.YthlhbjnkohinmaaGreat
