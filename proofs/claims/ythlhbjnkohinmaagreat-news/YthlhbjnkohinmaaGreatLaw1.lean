/- The statement's own world, where nothing but New is called. -/
import Derived.Test.YthlhbjnkohinmaaGreatNew
namespace Go.Proofs.YthlhbjnkohinmaaGreat
open Go.RowKit

theorem num_any (x : Int) (w : World) : Calls Tryz.prog 18 #[.int .i64 x] w fun e w' => e = .returned (.int .i64 x) ∧ w = w' := by
  go_enter Tryz.func18, Tryz.ntmps18
  go_wp2
  go_ret
  exact ⟨rfl, rfl⟩

def pickF (c n : Int) : Int := (if c < 0 then -(c + 1) else c) % n
theorem pickF_bd (c n : Int) (h : 0 < n) : 0 ≤ pickF c n ∧ pickF c n < n := ⟨Int.emod_nonneg _ (by omega), Int.emod_lt_of_pos _ h⟩

set_option maxHeartbeats 400000 in
theorem pick_any (c : Int) (n : Nat) (w : World) (hc : -9223372036854775808 ≤ c) (hc2 : c ≤ 9223372036854775807) (hn : 0 < n) (hn2 : n ≤ 9223372036854775807) :
    Calls Tryz.prog 13 #[.int .i64 c, .int .i64 n] w fun e w' => e = .returned (.int .i64 (pickF c n)) ∧ w' = w := by
  by_cases h : c < 0
  · have e : pickF c n = (-(c + 1)) % (n : Int) := by simp [pickF, h]
    rw [e]; clear e
    go_enter Tryz.func13, Tryz.ntmps13
    go_wp2
    go_ret
    exact ⟨ret_int (by rw [← Int.neg_tmod, Int.tmod_eq_emod_of_nonneg (by omega)]), rfl⟩
  · have e : pickF c n = c % (n : Int) := by simp [pickF, h]
    rw [e]; clear e
    go_enter Tryz.func13, Tryz.ntmps13
    go_wp2
    go_ret
    exact ⟨rfl, rfl⟩

/-- A pair: its document's engine keeps nothing. -/
def PairOk (w : World) (u : Value) : Prop := ∃ g y cx v room, u = .pointer (some ⟨g, 0, none⟩) ∧ w.heap[g]? = some (.cells #[cx, .pointer (some ⟨y, 0, none⟩)] 44 (0, 0)) ∧ w.heap[y]? = some (.cells (refCells v room) 40 (0, 0))
theorem PairOk.kept {w w' : World} {u : Value} {row : Option Nat} (h : PairOk w u) (hg : w.grownBy w' row) (hrow : ∀ g, row = some g → ∃ cs t, w.heap[g]? = some (.cells cs t (0, 0)) ∧ 44 ≠ t ∧ 40 ≠ t) : PairOk w' u := by
  obtain ⟨g, y, cx, v, room, rfl, h1, h2⟩ := h
  have n1 : some g ≠ row := by
    intro e; obtain ⟨cs, t, e1, e2, e3⟩ := hrow g e.symm
    rw [h1] at e1; simp at e1; exact e2 e1.2
  have n2 : some y ≠ row := by
    intro e; obtain ⟨cs, t, e1, e2, e3⟩ := hrow y e.symm
    rw [h2] at e1; simp at e1; exact e3 e1.2
  exact ⟨g, y, cx, v, room, rfl, (hg.block g (lt_of_block h1) n1).trans h1, (hg.block y (lt_of_block h2) n2).trans h2⟩

/-- The statement's world, in block bw: n engines. -/
def Inv (B bw n : Nat) (w : World) : Prop := ∃ v ps, w.heap[bw]? = some (.cells #[v] 28 (0, 0)) ∧ w.ownsRow B 33 1 v n ps ∧ ∀ u ∈ ps, PairOk w u
theorem Inv.kept {B bw n : Nat} {w w' : World} (h : Inv B bw n w) (hg : w.grownBy w' none) : Inv B bw n w' := by
  obtain ⟨v, ps, h1, h2, h3⟩ := h
  exact ⟨v, ps, (hg.block bw (lt_of_block h1) (by simp)).trans h1, own_kept h2 hg (fun g hg => by cases hg), fun u hu => (h3 u hu).kept hg (fun g hg => by cases hg)⟩
theorem below_of_grown {B : Nat} {w w' : World} {row : Option Nat} (hg : w.grownBy w' row) (hB : B ≤ w.heap.size) (hr : ∀ g, row = some g → B ≤ g) : Below B w w' := (Below.refl B w).grown hg hB hr

set_option maxRecDepth 20000 in
set_option maxHeartbeats 1000000 in
theorem late_any (B bw n : Nat) (k a b c : Int) (s : ByteArray) (w : World) (hI : Inv B bw n w) (ha : -9223372036854775808 ≤ a) (ha2 : a ≤ 9223372036854775807) (hn : n ≤ 9223372036854775807) :
    Calls Tryz.prog 11 #[.pointer (some ⟨bw, 0, none⟩), .agg #[.int .i64 k, .int .i64 a, .int .i64 b, .int .i64 c, .string s]] w fun e w' => e = .returned (.bool false) ∧ w.grownBy w' none := by
  obtain ⟨v, ps, h1, h2, h3⟩ := hI
  obtain ⟨av, m, cv, rfl⟩ := own_slice h2
  have em := own_len h2
  subst em
  have hlb := lt_of_block h1
  have hz : bw ≠ w.heap.size := by omega
  have c0 : w.cell? ⟨bw, 0, none⟩ = some (.slice av m cv) := cell_of_one h1
  by_cases hk : k = 7
  · subst hk
    by_cases hm : m = 0
    · subst hm
      go_enter Tryz.func11, Tryz.ntmps11
      go_wp2
      go_ret
      exact ⟨rfl, grown_alloc (grown_refl _ _) _⟩
    · have hm0 : 0 < m := by omega
      have hm' : ((m : Int) == 0) = false := by simp; omega
      obtain ⟨p1, p2⟩ := pickF_bd a m (by omega)
      obtain ⟨r, hr⟩ : ∃ r : Nat, (r : Int) = pickF a m := ⟨(pickF a m).toNat, by omega⟩
      have hrm : r < m := by omega
      have HPK := hid (fun W => pick_any a m W ha ha2 hm0 hn)
      rw [← hr] at HPK
      clear p1 p2 hr
      obtain ⟨g, rfl, _, hgb, hgl, hcell⟩ := own_cell h2 hm0
      have hps : r < ps.length := by have := h2.1; omega
      obtain ⟨g1, y1, cx, vv, room, hu, b1, b2⟩ := h3 ps[r] (List.getElem_mem hps)
      have d0 : w.cell? ⟨g, r, none⟩ = some (.pointer (some ⟨g1, 0, none⟩)) := by
        rw [← hu]; exact hcell r _ (List.getElem?_eq_getElem hps)
      have d1 : w.cell? ⟨g1, 1, none⟩ = some (.pointer (some ⟨y1, 0, none⟩)) := by simp [World.cell?, b1]
      have d2 : w.cell? ⟨y1, 3, none⟩ = some (.slice none 0 0) := by simp [World.cell?, b2, refCells]
      have z1 : g ≠ w.heap.size := by omega
      have z2 : g1 ≠ w.heap.size := by have := lt_of_block b1; omega
      have z3 : y1 ≠ w.heap.size := by have := lt_of_block b2; omega
      have y1l := lt_of_block b1
      have y2l := lt_of_block b2
      clear hcell b1 b2 h3 hu hps hm
      go_enter Tryz.func11, Tryz.ntmps11
      go_wp2
      go_quiet ((go_at_call 13; exact Calls.quiet_of_same (HPK.out _)))
      go_wp2
      go_ret
      exact ⟨rfl, grown_drewN (grown_alloc (grown_refl _ _) _) _⟩
  · have hk' : (k != 7) = true := by simpa using hk
    go_enter Tryz.func11, Tryz.ntmps11
    go_wp2
    go_ret
    exact ⟨rfl, grown_alloc (grown_refl _ _) _⟩

theorem Tryz.info33 : (Tryz.prog.info? 33).map (fun i => (i.zero, i.size, i.bytes)) = some (some (.pointer none), 1, 8) := by kernel_rfl

/-- Blocks but the world's own and its row of pairs stay as they are. -/
def Keep (bw : Nat) (w w' : World) : Prop := ∀ g cs t, w.heap[g]? = some (.cells cs t (0, 0)) → 33 ≠ t → g ≠ bw → w'.heap[g]? = some (.cells cs t (0, 0))
theorem Keep.trans {bw : Nat} {a b c : World} (h : Keep bw a b) (k : Keep bw b c) : Keep bw a c := fun g cs t h1 h2 h3 => k g cs t (h g cs t h1 h2 h3) h2 h3
theorem Keep.grown {bw : Nat} {w w' : World} (hg : w.grownBy w' none) : Keep bw w w' := fun g cs t h1 _ _ => (hg.block g (lt_of_block h1) (by simp)).trans h1

/-- What a step leaves: true, and the world as it must be, with one engine more or none. -/
def MPost (B bw n : Nat) (w : World) (e : Ending) (w' : World) : Prop := e = .returned (.bool true) ∧ (∃ n', n' ≤ n + 1 ∧ Inv B bw n' w') ∧ Below B w w' ∧ Keep bw w w'

set_option maxRecDepth 20000 in
set_option maxHeartbeats 2000000 in
theorem made_any (B bw n : Nat) (s : ByteArray) (room : Int) (w : World) (hI : Inv B bw n w) (hB : B ≤ bw) (hs : s.size ≤ maxLen) (hn : (n + 1) * 8 ≤ 140737488355328) :
    Calls Tryz.prog 12 #[.pointer (some ⟨bw, 0, none⟩), .string s, .int .i64 room] w (MPost B bw n w) := by
  obtain ⟨i0, hi0, hz0, hz1, hz2⟩ := info_parts Tryz.info33
  have hlb : bw < w.heap.size := by obtain ⟨v, ps, h1, _⟩ := hI; exact lt_of_block h1
  have HI := hid hI
  clear hI
  go_enter Tryz.func12, Tryz.ntmps12
  go_wp2_with fail
  go_at_call 16
  refine (new_any s room w hs).mono ?_
  rintro e w1 ⟨x, p, o, ha, hg1, hcase⟩
  have HA := hid ha
  clear ha
  rcases hcase with ⟨x1, x4, rfl⟩ | ⟨rfl, hroom, rfl⟩ | ⟨rfl, r1, r2, g, R, v, rfl, rfl, hgw, hgb, hro⟩
  · go_wp2_with fail
    go_at_call 17
    refine (fresh_err s room _ x p o hs HA.out x1).mono ?_
    rintro e w2 ⟨rfl, hg2⟩
    have q1 : (x != x) = false := by simp
    have q2 : (p != p) = false := by simp
    have q3 : (x != 0) = true := by simp; omega
    have q4 : (x == 0) = false := by simp; omega
    go_wp2_with (go_at_call 18; refine (num_any _ _).mono ?_; rintro e w' ⟨rfl, rfl⟩)
    go_ret
    exact ⟨rfl, ⟨n, by omega, (HI.out.kept hg1).kept hg2⟩, below_of_grown (grown_trans hg1 hg2) (by omega) (fun g hg => by cases hg), .grown (grown_trans hg1 hg2)⟩
  · go_wp2_with fail
    go_at_call 17
    refine (fresh_room s room _ p o hs HA.out hroom).mono ?_
    rintro e w2 ⟨rfl, hg2⟩
    clear hroom
    go_wp2_with (go_at_call 18; refine (num_any _ _).mono ?_; rintro e w' ⟨rfl, rfl⟩)
    go_ret
    exact ⟨rfl, ⟨n, by omega, (HI.out.kept hg1).kept hg2⟩, below_of_grown (grown_trans hg1 hg2) (by omega) (fun g hg => by cases hg), .grown (grown_trans hg1 hg2)⟩
  · clear hro
    go_wp2_with fail
    go_at_call 17
    refine (fresh_ok s room _ p R hs HA.out r1 r2).mono ?_
    rintro e w2 ⟨g2, v2, rfl, hgw2, hgb2, hro2, hg2⟩
    clear hro2
    have hsz1 := hg1.size
    have hsz2 := hg2.size
    obtain ⟨pv, ps, b1, b2, b3⟩ := (HI.out.kept hg1).kept hg2
    have c0 := cell_of_one b1
    have f0 := free_of_one b1
    have hl2 := lt_of_block b1
    have hbz : bw ≠ w2.heap.size := by omega
    have hbz1 : bw ≠ w2.heap.size + 1 := by omega
    have hbz2 : bw < w2.heap.size + 1 := by omega
    go_wp2_with (first | (go_at_call 18; refine (num_any _ _).mono ?_; rintro e w' ⟨rfl, rfl⟩) | (at_builtin; refine wpList_append_own _ rfl (.tmp 49) (.tmp 54) 26 rfl B 33 i0 (.pointer none) 1 8 Tryz.underlying26 hi0 hz0 hz1 hz2 rfl (by decide) _ _ _ rfl ((b2.alloc _).alloc _) _ 1 1 [.pointer (some ⟨w2.heap.size, 0, none⟩)] rfl rfl ?c1 ?c2 ?c3 ?c4 ?c5 ?_))
    case c1 => intro j u hj; exact news_at hj
    case c2 => intro u hu; simp at hu; subst hu; rfl
    case c3 => unfold maxLen; omega
    case c4 => exact hn
    case c5 => simp; omega
    · intro v' w3 hown3 hg3 _
      obtain ⟨va, vm, vc, rfl⟩ := own_slice hown3
      have hb3 : w3.heap[bw]? = some (.cells #[pv] 28 (0, 0)) := (hg3.block bw (by simp; omega) (fun e => own_ne_ty b2 b1 (by decide) e.symm)).trans ((Below.heap_alloc _ _ _ (by simp; omega)).trans ((Below.heap_alloc _ _ _ hl2).trans b1))
      have c3 := cell_of_one hb3
      have f3 := free_of_one hb3
      have hsz3 := hg3.size
      have HFIN : Hid ((∃ n', n' ≤ n + 1 ∧ Inv B bw n' (w3.setCell ⟨bw, 0, none⟩ (.slice va vm vc))) ∧ Below B w (w3.setCell ⟨bw, 0, none⟩ (.slice va vm vc)) ∧ Keep bw w (w3.setCell ⟨bw, 0, none⟩ (.slice va vm vc))) := hid (by
        have hg12 := grown_trans hg1 hg2
        have hgs : w3.grownBy (w3.setCell ⟨bw, 0, none⟩ (.slice va vm vc)) (some bw) := grown_set (grown_refl _ _) (.inl rfl) _
        have hrow3 := own_rowne2 ((b2.alloc (.cells #[.pointer (some ⟨g, 0, none⟩), .pointer (some ⟨g2, 0, none⟩)] 44)).alloc (.cells #[.pointer (some ⟨w2.heap.size, 0, none⟩)] 33)) (t := 44) (t' := 40) (by decide) (by decide)
        have hrow4 : ∀ g', some bw = some g' → ∃ cs t, w3.heap[g']? = some (.cells cs t (0, 0)) ∧ 44 ≠ t ∧ 40 ≠ t := by
          intro g' e; cases e; exact ⟨_, _, hb3, by decide, by decide⟩
        have hpair : ∀ u, PairOk ((w2.alloc (.cells #[.pointer (some ⟨g, 0, none⟩), .pointer (some ⟨g2, 0, none⟩)] 44)).alloc (.cells #[.pointer (some ⟨w2.heap.size, 0, none⟩)] 33)) u → PairOk (w3.setCell ⟨bw, 0, none⟩ (.slice va vm vc)) u := fun u hu => (hu.kept hg3 hrow3).kept hgs hrow4
        refine ⟨⟨n + 1, Nat.le_refl _, _, _, one_setCell hb3, ownsRow_setCell_other hown3 (own_ne_ty hown3 hb3 (by decide)) _, ?_⟩, ?_, ?_⟩
        · intro u hu
          apply hpair
          rcases List.mem_append.mp hu with hu | hu
          · exact ((b3 u hu).kept (World.grownBy_alloc w2 _ none) (fun g hg => by cases hg)).kept (World.grownBy_alloc _ _ none) (fun g hg => by cases hg)
          · rw [List.mem_singleton.mp hu]
            exact ⟨w2.heap.size, g2, _, v2, room, rfl, (Below.heap_alloc _ _ _ (by simp)).trans (heap_alloc_new w2 _), (Below.heap_alloc _ _ _ (by have := lt_of_block hgb2; simp; omega)).trans ((Below.heap_alloc _ _ _ (lt_of_block hgb2)).trans hgb2)⟩
        · have q1 : Below B w w2 := below_of_grown hg12 (by omega) (fun g hg => by cases hg)
          have q2 := (q1.alloc (by omega) (.cells #[.pointer (some ⟨g, 0, none⟩), .pointer (some ⟨g2, 0, none⟩)] 44)).alloc (by simp; omega) (.cells #[.pointer (some ⟨w2.heap.size, 0, none⟩)] 33)
          exact (q2.grown hg3 (by simp; omega) (fun g hg => (b2.lt g hg).1)).setCell hB _
        · intro g' cs t h1 h2 h3
          have k1 := Keep.grown hg12 g' cs t h1 h2 h3
          have k2 := ((World.grownBy_alloc w2 (.cells #[.pointer (some ⟨g, 0, none⟩), .pointer (some ⟨g2, 0, none⟩)] 44) none).block g' (lt_of_block k1) (by simp)).trans k1
          have k3 := ((World.grownBy_alloc _ (.cells #[.pointer (some ⟨w2.heap.size, 0, none⟩)] 33) none).block g' (lt_of_block k2) (by simp)).trans k2
          have k4 := (hg3.block g' (lt_of_block k3) (fun e => own_ne_ty ((b2.alloc _).alloc _) k3 h2 e.symm)).trans k3
          exact (Below.heap_setCell w3 ⟨bw, 0, none⟩ _ g' h3).trans k4)
      clear hown3 hg3 b1 b2 b3 hb3 hgb hgb2 hg1 hg2 c0 f0
      go_wp2
      go_ret
      exact ⟨rfl, HFIN.out.1, HFIN.out.2.1, HFIN.out.2.2⟩

end Go.Proofs.YthlhbjnkohinmaaGreat
