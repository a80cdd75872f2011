import Derived.Test.YthlhbjnkohinmaaGreatFresh
import Derived.Test.YthlhbjnkohinmaaGreatPair4
import Derived.Deep.AppendLies
/- The statements' world in memory; an engine that was just made. -/
namespace Go.Proofs.YthlhbjnkohinmaaGreat
open Go.RowKit

def E0 (room : Int) : Eng := ⟨room, [], [], [], 0⟩
theorem fresh_doc {r : Src} {fr : List Nat} {w : World} {y : Nat} {v : Value} {room : Int} (hq : QR r v w fr) (hb : w.heap[y]? = some (.cells (refCells v room) 40 (0, 0))) : EngA (QR r) y (E0 room) w (y :: (fr ++ [])) :=
  ⟨v, _, _, _, [], [], [y], fr ++ [], ⟨hb, rfl⟩, ⟨fr, [], hq, ⟨[], [], RowA.nil _ _ _, ⟨[], [], rfl, ⟨[], [], RowA.nil _ _ _, ⟨[], [], RowA.nil _ _ _, rfl, rfl⟩, rfl⟩, rfl⟩, rfl⟩, rfl⟩, rfl⟩
theorem fresh_good (r : Src) (i : Nat) (hr : r.1.2 = 999) : Good i (X0 r, E0 999) := by
  refine ⟨⟨[], ?_⟩, ?_⟩
  · refine { opn := rfl, places := by simp, lt := by simp, ses := by simp, free := fun k _ _ => rfl, nums := by simp, opened := rfl, openedPos := Int.le_refl 0, numLe := by simp, snap := by simp, latest := rfl, hist := ?_, histS := ?_, histLe := ?_, last := ?_, room := hr, kept := rfl }
    · intro c _ t ht
      have : t = 0 := by simpa [E0] using ht
      subst this
      rfl
    · intro c _ t ht
      have : t = 0 := by simpa [E0] using ht
      subst this
      rfl
    · intro c _ p hp
      cases hp
    · intro c _
      rfl
  · exact ⟨rfl, by simp [E0], by simp [E0], by simp [E0], by simp [E0], by simp [E0], by simp [E0], by simp [E0], fun c => by simp [X0]⟩

/-- The statements' world, in block bw. -/
def WorldA (bw : Nat) (Ps : List (PEng × Eng)) : Asn := fun w f => ∃ v ps f2 f3, w.heap[bw]? = some (.cells #[v] 28 (0, 0)) ∧ RowA 33 1 v Ps.length ps w f2 ∧ EachA PairA ps Ps w f3 ∧ f = bw :: (f2 ++ f3)
theorem WorldA.framed (bw : Nat) (Ps : List (PEng × Eng)) : Framed (WorldA bw Ps) := by
  rintro S w w' f ⟨v, ps, f2, f3, h1, h2, h3, rfl⟩ hf hs
  exact ⟨v, ps, f2, f3, (hf.block bw (lt_of_block h1) (hs bw (by simp))).trans h1, RowA.framed _ _ _ _ _ h2 hf (fun k hk => hs k (by simp [hk])), EachA.framed PairA.framed _ _ h3 hf (fun k hk => hs k (by simp [hk])), rfl⟩
theorem WorldA.within (bw : Nat) (Ps : List (PEng × Eng)) : Within (WorldA bw Ps) := by
  rintro w f ⟨v, ps, f2, f3, h1, h2, h3, rfl⟩ k hk
  rcases List.mem_cons.mp hk with rfl | hk
  · exact lt_of_block h1
  · rcases List.mem_append.mp hk with hk | hk
    · exact RowA.within _ _ _ _ _ h2 k hk
    · exact EachA.within PairA.within _ _ h3 k hk

/-- The world behind a step. -/
def WTo (bw i n : Nat) (f : List Nat) (w w' : World) : Prop := ∃ Ps', ATo (WorldA bw Ps') f w w' ∧ (∀ q ∈ Ps', Good (i + 1) q) ∧ Ps'.length ≤ n + 1
theorem WTo.same {bw i : Nat} {Ps : List (PEng × Eng)} {f : List Nat} {w w' : World} (h : WorldA bw Ps w f) (hn : f.Nodup) (hg : ∀ q ∈ Ps, Good i q) (hf : Fr [] w w') : WTo bw i Ps.length f w w' :=
  ⟨Ps, ⟨f, WorldA.framed _ _ h hf (by simp), hn, fun _ hx => .inl hx, hf.mono (fun k hk => by cases hk)⟩, fun q hq => (hg q hq).mono (Nat.le_succ i), Nat.le_succ _⟩

end Go.Proofs.YthlhbjnkohinmaaGreat

/- The statements' world: New. -/
namespace Go.Proofs.YthlhbjnkohinmaaGreat
open Go.RowKit

theorem made_close {bw g2 gx gy va' : Nat} {Ps : List (PEng × Eng)} {i cap : Nat} {v : Value} {ps : List Value} {f2 f3 : List Nat} {w w2 w3 : World} {ob : Obj} {rv rd : Value} {s : ByteArray} {R : List RuleP}
    (h1 : w.heap[bw]? = some (.cells #[v] 28 (0, 0))) (h2 : RowA 33 1 v Ps.length ps w f2) (h3 : EachA PairA ps Ps w f3) (hn : (bw :: (f2 ++ f3)).Nodup) (hg : ∀ q ∈ Ps, Good i q)
    (hg12 : w.grownBy w2 none) (hx : w2.heap[gx]? = some (.cells ((Tryz.zeroCells91.setIfInBounds 0 rv).setIfInBounds 1 (.int .i64 999)) 91 (0, 0))) (hy : w2.heap[gy]? = some (.cells (refCells rd 999) 40 (0, 0)))
    (hro : RulesOwn w2 w.heap.size s rv R) (hrd : RefOwn w2 w.heap.size s rd R) (hread : ReadAns s 0 0 (some R)) (hgx : w.heap.size ≤ gx) (hgy : w.heap.size ≤ gy) (hxy : gx ≠ gy) (hgp : g2 = w2.heap.size)
    (ho : w3.ownsRow 0 33 1 (.slice (some ⟨va', 0, none⟩) (Ps.length + 1) cap) (Ps.length + 1) (ps ++ [.pointer (some ⟨g2, 0, none⟩)]))
    (hg3 : ((w2.alloc (.cells #[.pointer (some ⟨gx, 0, none⟩), .pointer (some ⟨gy, 0, none⟩)] 44)).alloc ob).grownBy w3 v.ownBlock) (hva : v.ownBlock = some va' ∨ va' = w2.heap.size + 2) :
    WTo bw i Ps.length (bw :: (f2 ++ f3)) w (w3.setCell ⟨bw, 0, none⟩ (.slice (some ⟨va', 0, none⟩) (Ps.length + 1) cap)) := by
  subst hgp
  obtain ⟨h2a, rfl⟩ := h2
  have hbl := lt_of_block h1
  have w2l : ∀ k ∈ v.ownBlock.toList, k < w.heap.size := RowA.within _ _ _ _ _ ⟨h2a, rfl⟩
  have w3l : ∀ k ∈ f3, k < w.heap.size := EachA.within PairA.within _ _ h3
  have hsz := hg12.size
  have hxl := lt_of_block hx
  have hyl := lt_of_block hy
  rw [List.nodup_cons, List.nodup_append] at hn
  obtain ⟨nb, n2, n3, nd⟩ := hn
  have hb2 : bw ∉ v.ownBlock.toList := fun e => nb (by simp [e])
  have hb3 : bw ∉ f3 := fun e => nb (by simp [e])
  -- the frames
  have fr0 : Fr v.ownBlock.toList w w3 := by
    have a1 : Fr [] w ((w2.alloc (.cells #[.pointer (some ⟨gx, 0, none⟩), .pointer (some ⟨gy, 0, none⟩)] 44)).alloc ob) := ((fr_none hg12).alloc _).alloc _
    exact (a1.mono (fun k hk => by cases hk)).trans (Fr.grown hg3)
  have fr2 : Fr v.ownBlock.toList w2 w3 := by
    have a1 : Fr [] w2 ((w2.alloc (.cells #[.pointer (some ⟨gx, 0, none⟩), .pointer (some ⟨gy, 0, none⟩)] 44)).alloc ob) := ((Fr.refl [] w2).alloc _).alloc _
    exact (a1.mono (fun k hk => by cases hk)).trans (Fr.grown hg3)
  have frb : Fr [bw] w3 (w3.setCell ⟨bw, 0, none⟩ (.slice (some ⟨va', 0, none⟩) (Ps.length + 1) cap)) := (Fr.refl [bw] w3).set (.inl (by simp)) _
  have s3 := fr0.size
  have hb3' : w3.heap[bw]? = some (.cells #[v] 28 (0, 0)) := (fr0.block bw hbl hb2).trans h1
  have hvn : va' ≠ bw := by
    rcases hva with h | h
    · intro e; subst e; exact hb2 (by rw [h]; simp)
    · omega
  have hnew : ∀ k, w.heap.size ≤ k → k < w2.heap.size → w3.heap[k]? = w2.heap[k]? := fun k hk hk2 => fr2.block k hk2 (fun e => by have := w2l k e; omega)
  have hpair : w3.heap[w2.heap.size]? = some (.cells #[.pointer (some ⟨gx, 0, none⟩), .pointer (some ⟨gy, 0, none⟩)] 44 (0, 0)) := by
    have e1 := hg3.block w2.heap.size (by simp; omega) (fun e => by have := w2l w2.heap.size (by rw [← e]; simp); omega)
    exact e1.trans ((Below.heap_alloc _ _ _ (by simp)).trans (heap_alloc_new w2 _))
  have hsz3 : w2.heap.size + 1 < w3.heap.size := by
    have := hg3.size
    simp at this
    omega
  obtain ⟨fr, hfr⟩ : ∃ fr, fr = restOf w2 w.heap.size gx gy := ⟨_, rfl⟩
  have frl : ∀ k ∈ fr, w.heap.size ≤ k ∧ k < w2.heap.size ∧ k ≠ gx ∧ k ≠ gy := fun k hk => by
    rw [hfr] at hk
    have := restOf_mem.mp hk
    exact ⟨this.2.1, this.1, this.2.2⟩
  have hQ : QR ((rv, 999), s, R) rd w3 fr := by
    have h0 := QR.fresh (rm := 999) hro hrd hx hy
    rw [← hfr] at h0
    exact QR.framed _ _ h0 fr2 (fun k hk e => by have := frl k hk; have := w2l k e; omega)
  have hP : PairA (.pointer (some ⟨w2.heap.size, 0, none⟩)) (X0 ((rv, 999), s, R), E0 999) w3 (w2.heap.size :: gx :: gy :: fr) :=
    ⟨w2.heap.size, gx, gy, [gx], gy :: (fr ++ []), rfl, ⟨hpair, fresh_prog (s, R) ((hnew gx hgx hxl).trans hx), fresh_doc hQ ((hnew gy hgy hyl).trans hy), hread⟩, by simp⟩
  have hE : EachA PairA (ps ++ [.pointer (some ⟨w2.heap.size, 0, none⟩)]) (Ps ++ [(X0 ((rv, 999), s, R), E0 999)]) w3 (f3 ++ (w2.heap.size :: gx :: gy :: fr)) :=
    EachA.snoc hP (EachA.framed PairA.framed _ _ h3 fr0 (fun k hk e => nd k e k hk rfl))
  have hW : WorldA bw (Ps ++ [(X0 ((rv, 999), s, R), E0 999)]) (w3.setCell ⟨bw, 0, none⟩ (.slice (some ⟨va', 0, none⟩) (Ps.length + 1) cap)) (bw :: ([va'] ++ (f3 ++ (w2.heap.size :: gx :: gy :: fr)))) := by
    refine ⟨_, _, [va'], _, one_setCell hb3', ⟨?_, rfl⟩, EachA.framed PairA.framed _ _ hE frb ?_, rfl⟩
    · simp only [List.length_append, List.length_cons, List.length_nil]
      exact ownsRow_setCell_other ho (by simp [Value.ownBlock, hvn]) _
    · intro k hk e
      simp at e
      subst e
      simp at hk
      rcases hk with hk | hk | hk | hk | hk
      · exact hb3 hk
      · omega
      · omega
      · omega
      · have := frl k hk; omega
  have hvb : va' ∈ v.ownBlock.toList ∨ va' = w2.heap.size + 2 := by
    rcases hva with h | h
    · exact .inl (by rw [h]; simp)
    · exact .inr h
  refine ⟨_, ⟨_, hW, ?_, ?_, ?_⟩, ?_, by simp⟩
  · rw [List.nodup_cons]
    constructor
    · intro hm
      simp at hm
      rcases hm with h | h | h | h | h | h
      · exact hvn h.symm
      · exact hb3 h
      · omega
      · omega
      · omega
      · have := frl bw h; omega
    · simp only [List.singleton_append, List.nodup_cons]
      constructor
      · intro hm
        simp at hm
        rcases hvb with hv | hv
        · have := w2l va' hv
          rcases hm with h | h | h | h | h
          · exact nd va' hv va' h rfl
          · omega
          · omega
          · omega
          · have := frl va' h; omega
        · rcases hm with h | h | h | h | h
          · have := w3l va' h; omega
          · omega
          · omega
          · omega
          · have := frl va' h; omega
      · rw [List.nodup_append]
        refine ⟨n3, ?_, ?_⟩
        · rw [List.nodup_cons, List.nodup_cons, List.nodup_cons]
          refine ⟨?_, ?_, ?_, ?_⟩
          · intro hm
            simp at hm
            rcases hm with h | h | h
            · omega
            · omega
            · have := frl _ h; omega
          · intro hm
            simp at hm
            rcases hm with h | h
            · exact hxy h
            · exact (frl _ h).2.2.1 rfl
          · intro hm
            exact (frl _ hm).2.2.2 rfl
          · rw [hfr]; exact restOf_nodup _ _ _ _
        · rintro a ha b hb rfl
          have := w3l a ha
          simp at hb
          rcases hb with h | h | h | h
          · omega
          · omega
          · omega
          · have := frl a h; omega
  · intro k hk
    simp at hk ⊢
    rcases hk with h | h | h | h | h | h | h
    · exact .inl (.inl h)
    · subst h
      rcases hvb with hv | hv
      · have : v.ownBlock = some k := by simpa using hv
        exact .inl (.inr (.inl this))
      · exact .inr (by omega)
    · exact .inl (.inr (.inr h))
    · exact .inr (by omega)
    · exact .inr (by omega)
    · exact .inr (by omega)
    · exact .inr (frl k h).1
  · exact (fr0.mono (fun k hk => .inl (by simp at hk ⊢; simp [hk]))).trans (frb.mono (fun k hk => .inl (by simp at hk ⊢; simp [hk])))
  · intro q hq
    rcases List.mem_append.mp hq with hq | hq
    · exact (hg q hq).mono (Nat.le_succ i)
    · simp at hq; subst hq; exact fresh_good _ _ rfl


set_option maxRecDepth 20000 in
set_option maxHeartbeats 2000000 in
theorem made_all (bw i : Nat) (Ps : List (PEng × Eng)) (f : List Nat) (s : ByteArray) (w : World) (hI : WorldA bw Ps w f) (hn : f.Nodup) (hg : ∀ q ∈ Ps, Good i q) (hs : s.size ≤ maxLen) (hl : (Ps.length + 1) * 8 ≤ 140737488355328) :
    Calls Tryz.prog 12 #[.pointer (some ⟨bw, 0, none⟩), .string s, .int .i64 999] w fun e w' => e = .returned (.bool true) ∧ WTo bw i Ps.length f w w' := by
  obtain ⟨i0, hi0, hz0, hz1, hz2⟩ := info_parts Tryz.info33
  have HSAME : Hid (∀ w', w.grownBy w' none → WTo bw i Ps.length f w w') := hid (fun w' hw => WTo.same hI hn hg (fr_none hw))
  obtain ⟨v, ps, f2, f3, h1, h2, h3, rfl⟩ := hI
  have hlb := lt_of_block h1
  have HCL := hid (fun g2 gx gy va' cap w2 w3 ob rv rd R => made_close (s := s) (R := R) (g2 := g2) (gx := gx) (gy := gy) (va' := va') (cap := cap) (w2 := w2) (w3 := w3) (ob := ob) (rv := rv) (rd := rd) h1 h2 h3 hn hg)
  obtain ⟨h2a, rfl⟩ := h2
  have hvb : v.ownBlock ≠ some bw := own_ne_ty h2a h1 (by decide)
  obtain ⟨av, mv, cv, rfl⟩ := own_slice h2a
  have em := own_len h2a
  subst em
  have H2 := hid h2a
  have H1 := hid h1
  clear h1 h2a h3 hn hg
  go_enter Tryz.func12, Tryz.ntmps12
  go_wp2_with fail
  go_at_call 16
  refine (new_any s 999 w hs).mono ?_
  rintro e w1 ⟨x, p, o, ha, hg1, hcase⟩
  have HA := hid ha
  clear ha
  rcases hcase with ⟨x1, x4, rfl⟩ | ⟨rfl, hroom, rfl⟩ | ⟨rfl, r1, r2, g, R, rv, rfl, rfl, hgw, hgb, hro⟩
  · go_wp2_with fail
    go_at_call 17
    refine (fresh_err s 999 _ x p o hs HA.out x1).mono ?_
    rintro e w2 ⟨rfl, hg2⟩
    have q1 : (x != x) = false := by simp
    have q2 : (p != p) = false := by simp
    have q3 : (x != 0) = true := by simp; omega
    have q4 : (x == 0) = false := by simp; omega
    have HG := hid (grown_trans hg1 hg2)
    clear hg1 hg2
    go_wp2_with (go_at_call 18; refine (num_any _ _).mono ?_; rintro e w' ⟨rfl, rfl⟩)
    go_ret
    exact ⟨rfl, HSAME.out _ HG.out⟩
  · exfalso
    omega
  · have HRO := hid hro
    have HREAD : Hid (ReadAns s 0 0 (some R)) := hid (by
      have h0 := HA.out
      rcases h0.zero with ⟨_, hp, _⟩ | ⟨hp, _⟩
      · rw [hp] at h0; exact h0
      · omega)
    clear hro
    go_wp2_with fail
    go_at_call 17
    refine (fresh_ok s 999 _ p R hs HA.out r1 r2).mono ?_
    rintro e w2 ⟨g2, rd, rfl, hgw2, hgb2, hro2, hg2⟩
    have HRO2 := hid hro2
    clear hro2
    have hsz1 := hg1.size
    have hsz2 := hg2.size
    have hgl := lt_of_block hgb
    have HG12 := hid (grown_trans hg1 hg2)
    have HROK := hid (RulesOwn_kept HRO.out hg2)
    have HX := hid ((hg2.block g hgl (by simp)).trans hgb)
    have HY := hid hgb2
    have b1 := (HG12.out.block bw hlb (by simp)).trans H1.out
    have HO2 := hid (own_kept H2.out HG12.out (fun g hg => by cases hg))
    have c0 := cell_of_one b1
    have hl2 := lt_of_block b1
    have hbz : bw ≠ w2.heap.size := by omega
    have hbz1 : bw ≠ w2.heap.size + 1 := by omega
    have hbz2 : bw < w2.heap.size + 1 := by omega
    have HB1 := hid b1
    clear hgb hgb2 hg1 hg2 b1
    go_wp2_with (first | (go_at_call 18; refine (num_any _ _).mono ?_; rintro e w' ⟨rfl, rfl⟩) | (at_builtin; refine wpList_append_lies _ rfl (.tmp 49) (.tmp 54) 26 rfl 0 33 i0 (.pointer none) 1 8 Tryz.underlying26 hi0 hz0 hz1 hz2 rfl (by decide) _ _ _ rfl ((HO2.out.alloc _).alloc _) _ 1 1 [.pointer (some ⟨w2.heap.size, 0, none⟩)] rfl rfl ?c1 ?c2 (by decide) ?c3 ?c4 (Nat.zero_le _) (w2.heap.size + 2) ?c5 ?_))
    case c1 => intro j u hj; exact news_at hj
    case c2 => intro u hu; simp at hu; subst hu; rfl
    case c3 => unfold maxLen; omega
    case c4 => exact hl
    case c5 => simp
    · intro va' cap w3 hown3 hg3 hva hvl
      have hb3 : w3.heap[bw]? = some (.cells #[.slice av Ps.length cv] 28 (0, 0)) := (hg3.block bw (by simp; omega) (fun e => hvb e.symm)).trans ((Below.heap_alloc _ _ _ (by simp; omega)).trans ((Below.heap_alloc _ _ _ hl2).trans HB1.out))
      have c3 := cell_of_one hb3
      have f3' := free_of_one hb3
      have HFIN := hid (HCL.out w2.heap.size g g2 va' cap w2 w3 _ rv rd R HG12.out HX.out HY.out HROK.out (RefOwn_mono hsz1 HRO2.out) HREAD.out hgw (by omega) (by omega) rfl hown3 hg3 hva)
      clear hown3 hg3 hb3 c0
      go_wp2
      go_ret
      exact ⟨rfl, HFIN.out⟩

end Go.Proofs.YthlhbjnkohinmaaGreat
