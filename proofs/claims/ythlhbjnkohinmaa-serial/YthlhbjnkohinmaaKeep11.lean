/- Serial: its loop and its end. -/
import Derived.Test.YthlhbjnkohinmaaKeep10
namespace Go.Proofs.Ythlhbjnkohinmaa
open Go.RowKit

theorem bended_commit (b x i : Nat) (B : Bk) (X : PEng) (fb fx : List Nat) (n c : Int) (s : ByteArray) (w : World) (h : KAt b x B X w fb fx) (hg : KGood i B X) (hi : i ≤ 4000000000000) (h15 : B.commits < 15) :
    Calls Try.prog 12 #[.pointer (some ⟨b, 0, none⟩), .pointer (some ⟨x, 0, none⟩), actV 6 n c s] w fun e w' => e = .returned (.bool true) ∧ KNext b x i (fb ++ fx) w w' := by
  obtain ⟨L, hs⟩ := hg.sim
  rcases hs.find n with ⟨hfp, hbf⟩ | ⟨k, ci, hq, hci, hnn, hfp, hbf⟩
  · exact bended_commit_none b x i B X fb fx n c s w h hg hi hfp hbf
  · exact bended_commit_some b x i B X fb fx n c s w h hg hi k ci L hs hq hci hfp hbf h15

/-- The book at first. -/
def B0 : Bk := ⟨[], 0, fun _ => 0, fun _ => 0⟩
theorem bsim0 (r : Src) (hr : r.1.2 = 999) : BSim (X0 r) B0 [] := ⟨by simp, by simp, by simp, by simp, fun _ _ _ => rfl, fun i h => by simp [B0] at h, rfl, rfl, Int.le_refl _, fun _ _ => rfl, fun _ _ => rfl, fun c _ p hp => by simp [X0] at hp, fun c _ => by simp [X0, B0], hr, fun _ _ => .inl rfl, by simp [B0]⟩
theorem kgood0 (r : Src) (hr : r.1.2 = 999) : KGood 0 B0 (X0 r) := ⟨⟨[], bsim0 r hr⟩, by simp [B0], fun _ => by simp [X0], by simp [B0], few0 r⟩
def zeroBk : List Value := .slice none 0 0 :: .int .i64 0 :: (List.replicate 60 (.int .i64 0) ++ List.replicate 60 (.int .u8 0))
theorem zero_bk : Try.zeroCells31.toList = zeroBk := by kernel_rfl
theorem newBk {w : World} {b : Nat} (hb : w.heap[b]? = some (.cells Try.zeroCells31 31 (0, 0))) : BkA b B0 w [b] := by
  have hz : ∀ i : Nat, w.cell? ⟨b, i, none⟩ = zeroBk[i]? := fun i => by rw [cell_of_row _ _ _ _ _ _ hb, ← zero_bk, Array.getElem?_toList]
  refine ⟨.slice none 0 0, [], [], [], ⟨⟨_, hb⟩, hz 0, hz 1, fun c hc => ?_, fun c hc => ?_⟩, RowA.nil _ _ _, rfl, rfl⟩
  · rw [hz, show 2 + c = c + 1 + 1 by omega]
    simp only [zeroBk, List.getElem?_cons_succ]
    rw [List.getElem?_append_left (by rw [List.length_replicate]; exact hc), List.getElem?_replicate, if_pos hc]
    rfl
  · rw [hz, show 62 + c = (60 + c) + 1 + 1 by omega]
    simp only [zeroBk, List.getElem?_cons_succ]
    rw [List.getElem?_append_right (by rw [List.length_replicate]; omega), List.length_replicate, show 60 + c - 60 = c by omega, List.getElem?_replicate, if_pos hc]
    rfl

theorem KAt.quiet {b x : Nat} {B : Bk} {X : PEng} {w w' : World} {fb fx : List Nat} (h : KAt b x B X w fb fx) (hf : Fr [] w w') : KAt b x B X w' fb fx := ⟨BkA.framed _ _ h.book hf (by simp), PEngA.framed _ _ h.eng hf (by simp), h.nodup⟩
/-- The loop's state. -/
structure KLoop (base b x : Nat) (w : World) (i : Nat) (wr : World) (B : Bk) (X : PEng) (fb fx : List Nat) : Prop where
  at' : KAt b x B X wr fb fx
  good : KGood i B X
  above : ∀ g ∈ fb ++ fx, base ≤ g
  below : Below base w wr
  room : base < wr.heap.size
theorem KLoop.next {base b x : Nat} {w : World} {i : Nat} {wr : World} {B : Bk} {X : PEng} {fb fx : List Nat} (h : KLoop base b x w i wr B X fb fx) : KLoop base b x w (i + 1) wr B X fb fx :=
  ⟨h.at', h.good.mono (Nat.le_succ i), h.above, h.below, h.room⟩
theorem KLoop.quiet {base b x : Nat} {w : World} {i : Nat} {wr wr' : World} {B : Bk} {X : PEng} {fb fx : List Nat} (h : KLoop base b x w i wr B X fb fx) (hf : Fr [] wr wr') : KLoop base b x w i wr' B X fb fx :=
  ⟨h.at'.quiet hf, h.good, h.above, h.below.trans (hf.below (Nat.le_of_lt h.room) (by simp)), Nat.lt_of_lt_of_le h.room hf.size⟩
theorem KLoop.step {base b x : Nat} {w : World} {i : Nat} {wr wr' : World} {B : Bk} {X : PEng} {fb fx : List Nat} (h : KLoop base b x w i wr B X fb fx) (ht : KNext b x i (fb ++ fx) wr wr') : ∃ B' X' fb' fx', KLoop base b x w (i + 1) wr' B' X' fb' fx' := by
  obtain ⟨B', X', ⟨fb', fx', a, s, r⟩, hg⟩ := ht
  have hroom := h.room
  refine ⟨B', X', fb', fx', a, hg, fun g hg => ?_, h.below.trans (r.below (Nat.le_of_lt hroom) h.above), Nat.lt_of_lt_of_le hroom r.size⟩
  rcases s g hg with h1 | h1
  · exact h.above g h1
  · omega
theorem KLoop.start {r : Src} (h9 : r.1.2 = 999) {b x : Nat} {w w1 w2 : World} (h : NewTo x (X0 r) w w1) (e : w2.heap[b]? = some (.cells Try.zeroCells31 31 (0, 0))) (hb : b = w1.heap.size) (hf : Fr [] w1 w2) : ∃ fb fx, KLoop w.heap.size b x w 0 w2 B0 (X0 r) fb fx := by
  obtain ⟨f, a, n, s, r'⟩ := h
  have hsz := r'.size
  have hbl := lt_of_block e
  have hfl : ∀ g ∈ f, g < w1.heap.size := PEngA.within _ _ a
  refine ⟨[b], f, ⟨newBk e, PEngA.framed _ _ a hf (by simp), ?_⟩, kgood0 r h9, fun g hg => ?_, ?_, by omega⟩
  · simp only [List.singleton_append, List.nodup_cons]
    exact ⟨fun e => by have := hfl _ e; omega, n⟩
  · simp at hg
    rcases hg with rfl | hg
    · omega
    · exact s g hg
  · exact (r'.trans hf).below (Nat.le_refl _) (by simp)

theorem BSim.nums {X : PEng} {B : Bk} {L : List (Nat × Nat)} (hs : BSim X B L) {k : Nat} (hk : k < 8) : (X.ses k).num ≤ X.opened := by
  rw [hs.opened]
  by_cases h : ∀ q ∈ L, q.1 ≠ k
  · rw [hs.free k hk h]; omega
  · have : ∃ q ∈ L, q.1 = k := by
      apply Classical.byContradiction
      intro h'
      exact h (fun q hq e => h' ⟨q, hq, e⟩)
    obtain ⟨q, hq, rfl⟩ := this
    obtain ⟨hl, hn, hc⟩ := hs.cli q hq
    rw [hc.num, hn]
    omega
theorem open_view {X : PEng} {B : Bk} {L : List (Nat × Nat)} (hs : BSim X B L) {k : Nat} (hf : numberedP X 0 = some k) :
    pviewF (popenF X).2 (X.opened + 1) = (shownT B.vals 60, 0) ∧ ∀ k', findP (popenF X).2 (X.opened + 1) = some k' → Digs (seenP (popenF X).2 k') := by
  obtain ⟨L', hs'⟩ := hs.open hf
  obtain ⟨hk, h0⟩ := numberedP_some hf
  have hX : (popenF X).2 = { X with opened := X.opened + 1, ses := upd X.ses k (.new (X.opened + 1) X.latest) } := by unfold popenF; rw [hf]
  have hop := hs.opened
  have hself : (popenF X).2.ses k = .new (X.opened + 1) X.latest := by rw [hX]; exact upd_same _ _ _
  have hother : ∀ k', k' ≠ k → (popenF X).2.ses k' = X.ses k' := fun k' e => by rw [hX]; exact upd_ne _ _ _ e
  have hfind : findP (popenF X).2 (X.opened + 1) = some k := by
    unfold findP
    rw [if_neg (by omega)]
    cases hc : numberedP (popenF X).2 (X.opened + 1) with
    | none =>
      exfalso
      unfold numberedP at hc
      rw [List.find?_eq_none] at hc
      have := hc k (by simpa using hk)
      rw [hself] at this
      simp [PSes.new] at this
    | some k' =>
      obtain ⟨h1, h2⟩ := numberedP_some hc
      by_cases e : k' = k
      · rw [e]
      · exfalso
        rw [hother k' e] at h2
        have := hs.nums h1
        omega
  have hwr : ((popenF X).2.ses k).wr = fun _ => none := by rw [hself]; rfl
  have hsn : ((popenF X).2.ses k).snap = (B.open (X.opened + 1)).commits := by rw [hself]; exact hs.latest
  refine ⟨?_, fun k' hk' => ?_⟩
  · unfold pviewF
    rw [hfind]
    show (viewP (popenF X).2 k, (0 : Int)) = _
    rw [hs'.view hwr hsn]
    rfl
  · rw [hfind] at hk'
    injection hk' with hk'
    subst hk'
    exact hs'.digs hwr hsn

def bytesOf (B : Bk) : List Value := (List.range 60).map fun c => .int .u8 (B.vals c)
theorem bytesOf_len (B : Bk) : (bytesOf B).length = 60 := by simp [bytesOf]
theorem bytesOf_at {B : Bk} {c : Nat} (hc : c < 60) : (bytesOf B)[c]? = some (.int .u8 (B.vals c)) := by
  unfold bytesOf
  rw [List.getElem?_map, List.getElem?_range hc]
  rfl
theorem bytesOf_range {b : Nat} {B : Bk} {w : World} {f : List Nat} (h : BkA b B w f) : w.rangeAt b 62 (bytesOf B) := by
  obtain ⟨_, _, _, _, h1, _⟩ := h
  intro j v hv
  have hj : j < 60 := by
    have := (List.getElem?_eq_some_iff.mp hv).1
    rw [bytesOf_len] at this
    exact this
  rw [bytesOf_at hj] at hv
  rw [h1.vals j hj]
  exact hv
theorem info_sixty : (Try.prog.info? 29).map (·.size) = some 60 := by kernel_rfl

/-- An act in the script. -/
def ActAt (w : World) (sb o : Nat) (k n c : Int) (s : ByteArray) : Prop :=
  w.cell? ⟨sb, o, none⟩ = some (.int .i64 k) ∧ w.cell? ⟨sb, o + 1, none⟩ = some (.int .i64 n) ∧ w.cell? ⟨sb, o + 2, none⟩ = some (.int .i64 c) ∧ w.cell? ⟨sb, o + 3, none⟩ = some (.string s) ∧ s.size ≤ maxLen

/-- What is known of a script that came in. -/
def IsScript (w : World) (a : Option Addr) (len : Nat) : Prop := len = 0 ∨ ∃ sb off, a = some ⟨sb, off, none⟩ ∧ sb < w.heap.size ∧ ∀ t, t < len → ∃ k n c s, ActAt w sb (off + t * 4) k n c s

set_option maxRecDepth 20000 in
set_option maxHeartbeats 4000000 in
theorem serial_all (w : World) (a : Option Addr) (len cap : Nat) (h : IsScript w a len) (hlen : len * 40 ≤ 140737488351232) :
    Calls Try.prog 3 #[.slice a len cap] w fun e w' => e = .returned (.bool true) ∧ Below w.heap.size w w' := by
  have HS : Hid (0 < len → ∃ sb off, a = some ⟨sb, off, none⟩ ∧ sb < w.heap.size ∧ ∀ t, t < len → ∃ k n c s, ActAt w sb (off + t * 4) k n c s) := hid (fun h0 => h.resolve_left (by omega))
  have HE : Hid (∀ W, Calls Try.prog 9 #[.string ByteArray.empty, .int .i64 999] W fun e w' => ∃ x, e = .returned (.tuple #[.pointer (some ⟨x, 0, none⟩), .bool true]) ∧ ∃ r, NewTo x (X0 r) W w' ∧ r.1.2 = 999) := hid (fun W => engine_ok ByteArray.empty 999 W (Nat.zero_le _) (fun _ _ _ h => readE h) (by decide) (by decide))
  clear h
  go_enter Try.func3, Try.ntmps3
  go_wp2_with fail
  go_at_call 9
  refine (HE.out _).mono ?_
  rintro e w1 ⟨x, rfl, r, hn, h9⟩
  have HN := hid hn
  have H9 := hid h9
  clear hn h9 HE
  go_wp2_with fail
  have HST := hid (KLoop.start H9.out HN.out (heap_alloc_new w1 (.cells Try.zeroCells31 31)) rfl (fr_alloc w1 _))
  generalize hw2 : w1.alloc (.cells Try.zeroCells31 31) = w2 at HST ⊢
  clear HN hw2
  generalize w1.heap.size = b at HST ⊢
  go_loopw [6] (fun t wr => ∃ (k : Nat) (B : Bk) (X : PEng) (fb fx : List Nat), k ≤ len ∧ t = .int .i64 k ∧ KLoop w.heap.size b x w k wr B X fb fx) (fun t _ => len - (intOf t).toNat)
  case atStart =>
    obtain ⟨fb, fx, h⟩ := HST.out
    exact ⟨0, B0, X0 r, fb, fx, Nat.zero_le _, rfl, h⟩
  case round =>
    obtain ⟨k, B, X, fb, fx, hk, rfl, hL⟩ := hrel
    have HL := hid hL
    clear hL HST
    have e1 : wr.cell? ⟨b, 1, none⟩ = some (.int .i64 B.commits) := by
      obtain ⟨_, _, _, _, h1, _⟩ := HL.out.at'.book
      exact h1.commits
    have HCB : Hid (∀ c, c < 60 → ByteOk (B.vals c)) := hid (by obtain ⟨L, hs⟩ := HL.out.good.sim; exact hs.byte)
    obtain ⟨cm, hcm⟩ : ∃ cm, cm = B.commits := ⟨_, rfl⟩
    rw [← hcm] at e1
    have HCM := hid hcm
    clear hcm
    have hk4 : k ≤ 4000000000000 := by omega
    by_cases hlt : k < len
    · by_cases hc15 : cm < 15
      · obtain ⟨sb, off, rfl, hsb, hscr⟩ := HS.out (by omega)
        obtain ⟨kk, n, c, s, c0, c1, c2, c3, hs⟩ := hscr k hlt
        clear hscr HS
        have hBe := HL.out.below
        have d0 := (hBe.cell (p := ⟨sb, off + k * 4, none⟩) hsb).trans c0
        have d1 := (hBe.cell (p := ⟨sb, off + k * 4 + 1, none⟩) hsb).trans c1
        have d2 := (hBe.cell (p := ⟨sb, off + k * 4 + 2, none⟩) hsb).trans c2
        have d3 := (hBe.cell (p := ⟨sb, off + k * 4 + 3, none⟩) hsb).trans c3
        have hs63 : s.size < 9223372036854775808 := Nat.lt_of_le_of_lt hs (by decide)
        clear c0 c1 c2 c3 hBe hs
        by_cases k1 : kk = 1
        · subst k1
          have HC := hid (bopened_any b x k B X fb fx wr HL.out.at' HL.out.good hk4)
          go_wp2_with fail
          go_at_call 10
          refine HC.out.mono ?_
          rintro e w3 ⟨rfl, ht⟩
          have HNX := hid (HL.out.step ht)
          clear ht HC e1 d0 d1 d2 d3
          go_wp2_with fail
          go_roundw
          case rel =>
            obtain ⟨B', X', fb', fx', h'⟩ := HNX.out
            exact ⟨k + 1, B', X', fb', fx', by omega, by go_num, h'⟩
          case measure => simp [intOf]; omega
        by_cases k2 : kk = 2
        · subst k2
          have HC := hid (bwrote_put b x k B X fb fx n c s wr HL.out.at' HL.out.good hk4 hs63)
          go_wp2_with fail
          go_at_call 11
          refine HC.out.mono ?_
          rintro e w3 ⟨rfl, ht⟩
          have HNX := hid (HL.out.step ht)
          clear ht HC e1 d0 d1 d2 d3
          go_wp2_with fail
          go_roundw
          case rel =>
            obtain ⟨B', X', fb', fx', h'⟩ := HNX.out
            exact ⟨k + 1, B', X', fb', fx', by omega, by go_num, h'⟩
          case measure => simp [intOf]; omega
        by_cases k3 : kk = 3
        · subst k3
          have HC := hid (bwrote_clear b x k B X fb fx n c s wr HL.out.at' HL.out.good hk4 hs63)
          go_wp2_with fail
          go_at_call 11
          refine HC.out.mono ?_
          rintro e w3 ⟨rfl, ht⟩
          have HNX := hid (HL.out.step ht)
          clear ht HC e1 d0 d1 d2 d3
          go_wp2_with fail
          go_roundw
          case rel =>
            obtain ⟨B', X', fb', fx', h'⟩ := HNX.out
            exact ⟨k + 1, B', X', fb', fx', by omega, by go_num, h'⟩
          case measure => simp [intOf]; omega
        by_cases k6 : kk = 6
        · subst k6
          have H15 : Hid (B.commits < 15) := hid (by rw [← HCM.out]; exact hc15)
          have HC := hid (bended_commit b x k B X fb fx n c s wr HL.out.at' HL.out.good hk4 H15.out)
          go_wp2_with fail
          go_at_call 12
          refine HC.out.mono ?_
          rintro e w3 ⟨rfl, ht⟩
          have HNX := hid (HL.out.step ht)
          clear ht HC e1 d0 d1 d2 d3
          go_wp2_with fail
          go_roundw
          case rel =>
            obtain ⟨B', X', fb', fx', h'⟩ := HNX.out
            exact ⟨k + 1, B', X', fb', fx', by omega, by go_num, h'⟩
          case measure => simp [intOf]; omega
        by_cases k5 : kk = 5
        · subst k5
          have HC := hid (bended_abort b x k B X fb fx n c s wr HL.out.at' HL.out.good hk4)
          go_wp2_with fail
          go_at_call 12
          refine HC.out.mono ?_
          rintro e w3 ⟨rfl, ht⟩
          have HNX := hid (HL.out.step ht)
          clear ht HC e1 d0 d1 d2 d3
          go_wp2_with fail
          go_roundw
          case rel =>
            obtain ⟨B', X', fb', fx', h'⟩ := HNX.out
            exact ⟨k + 1, B', X', fb', fx', by omega, by go_num, h'⟩
          case measure => simp [intOf]; omega
        have q1 : (kk == 1) = false := by simpa using k1
        have q2 : (kk == 2) = false := by simpa using k2
        have q3 : (kk == 3) = false := by simpa using k3
        have q5 : (kk == 5) = false := by simpa using k5
        have q6 : (kk == 6) = false := by simpa using k6
        clear k1 k2 k3 k5 k6
        go_wp2_with fail
        go_roundw
        case rel => exact ⟨k + 1, B, X, fb, fx, by omega, by go_num, HL.out.next⟩
        case measure => simp [intOf]; omega
      · obtain ⟨L, hs⟩ := HL.out.good.sim
        have hop := hs.opened
        have hfew := HL.out.good.few
        have hroom := HL.out.room
        have HO := hid (popen_to x X fx wr HL.out.at'.eng HL.out.at'.parts.2.1 (by omega))
        cases hf : numberedP X 0 with
        | none =>
          have e2 : popenF X = ((0, 7), X) := by unfold popenF; rw [hf]
          rw [e2] at HO
          clear hs hop hfew hf e2
          go_wp2_with fail
          go_at_call 13
          refine HO.out.mono ?_
          rintro e w3 ⟨rfl, ht⟩
          obtain ⟨_, _, _, _, r⟩ := ht
          have HB3 := hid (HL.out.below.trans (r.below (Nat.le_of_lt HL.out.room) (fun g hg => HL.out.above g (List.mem_append_right _ hg))))
          clear r e1
          go_wp2_with fail
          go_ret
          exact ⟨rfl, HB3.out⟩
        | some p =>
          have e2 : (popenF X).1 = (X.opened + 1, 0) := by unfold popenF; rw [hf]
          have hv := open_view hs hf
          have HHI : Hid (∀ c, c < 60 → ((popenF X).2.hist c).length ≤ 9223372036854775807) := hid (fun c _ => by rw [popen_hist]; have := HL.out.good.hist c; omega)
          rw [e2] at HO
          have HVW := hid hv
          clear hs hf e2 hv
          obtain ⟨on, hon⟩ : ∃ on, on = X.opened + 1 := ⟨_, rfl⟩
          rw [← hon] at HO HVW
          clear hon hop
          go_wp2_with fail
          go_at_call 13
          refine HO.out.mono ?_
          rintro e w3 ⟨rfl, ht⟩
          have hbk := HL.out.at'.bookAt ht
          obtain ⟨fx', a', n', s', r⟩ := ht
          have HB3 := hid (HL.out.below.trans (r.below (Nat.le_of_lt HL.out.room) (fun g hg => HL.out.above g (List.mem_append_right _ hg))))
          have hr3 : w.heap.size < w3.heap.size := Nat.lt_of_lt_of_le hroom r.size
          have HV := hid (pview_to x (popenF X).2 fx' on w3 a' HHI.out HVW.out.2)
          rw [HVW.out.1] at HV
          have HSH : Hid (∀ W, Calls Try.prog 15 #[.agg (bytesOf B).toArray] W fun e w' => e = .returned (.string (shownT B.vals 60)) ∧ W.grownBy w' none) := hid (fun W => shown_any _ B.vals W (fun c hc => by rw [List.getElem?_toArray]; exact bytesOf_at hc) HCB.out)
          have HR3 := hid (bytesOf_range hbk)
          have hbl := bytesOf_len B
          clear hbk a' n' s' r e1 HO HVW HHI HL HCB
          generalize shownT B.vals 60 = sv at HV HSH
          generalize bytesOf B = vl at HSH HR3 hbl
          go_wp2_with fail
          go_at_call 14
          refine HV.out.mono ?_
          rintro e w4 ⟨rfl, hf4⟩
          have HR4 : Hid (w4.rangeAt b 62 vl) := hid (fun j v hv => keep0 hf4 (HR3.out j v hv))
          have HB4 := hid (HB3.out.trans (hf4.below (Nat.le_of_lt hr3) (by simp)))
          have hr4 : w.heap.size < w4.heap.size := Nat.lt_of_lt_of_le hr3 hf4.size
          clear hf4 HR3 HV HB3
          have hinf : (Try.prog.info? 29).map (·.size) = some vl.length := info_sixty.trans (by rw [hbl])
          go_wp2_with (refine wpList_load_mid rfl 29 (.tmp 87) rfl b 62 rfl vl _ HR4.out Try.underlying29 rfl hinf ?_)
          go_at_call 15
          refine (HSH.out _).mono ?_
          rintro e w5 ⟨rfl, hg5⟩
          have HB5 := hid (HB4.out.trans ((fr_none hg5).below (Nat.le_of_lt hr4) (by simp)))
          clear hg5 HSH HR4
          go_wp2_with fail
          go_ret
          exact ⟨rfl, HB5.out⟩
    · obtain ⟨L, hs⟩ := HL.out.good.sim
      have hop := hs.opened
      have hfew := HL.out.good.few
      have hroom := HL.out.room
      have HO := hid (popen_to x X fx wr HL.out.at'.eng HL.out.at'.parts.2.1 (by omega))
      cases hf : numberedP X 0 with
      | none =>
        have e2 : popenF X = ((0, 7), X) := by unfold popenF; rw [hf]
        rw [e2] at HO
        clear hs hop hfew hf e2
        go_wp2_with fail
        go_at_call 13
        refine HO.out.mono ?_
        rintro e w3 ⟨rfl, ht⟩
        obtain ⟨_, _, _, _, r⟩ := ht
        have HB3 := hid (HL.out.below.trans (r.below (Nat.le_of_lt HL.out.room) (fun g hg => HL.out.above g (List.mem_append_right _ hg))))
        clear r e1
        go_wp2_with fail
        go_ret
        exact ⟨rfl, HB3.out⟩
      | some p =>
        have e2 : (popenF X).1 = (X.opened + 1, 0) := by unfold popenF; rw [hf]
        have hv := open_view hs hf
        have HHI : Hid (∀ c, c < 60 → ((popenF X).2.hist c).length ≤ 9223372036854775807) := hid (fun c _ => by rw [popen_hist]; have := HL.out.good.hist c; omega)
        rw [e2] at HO
        have HVW := hid hv
        clear hs hf e2 hv
        obtain ⟨on, hon⟩ : ∃ on, on = X.opened + 1 := ⟨_, rfl⟩
        rw [← hon] at HO HVW
        clear hon hop
        go_wp2_with fail
        go_at_call 13
        refine HO.out.mono ?_
        rintro e w3 ⟨rfl, ht⟩
        have hbk := HL.out.at'.bookAt ht
        obtain ⟨fx', a', n', s', r⟩ := ht
        have HB3 := hid (HL.out.below.trans (r.below (Nat.le_of_lt HL.out.room) (fun g hg => HL.out.above g (List.mem_append_right _ hg))))
        have hr3 : w.heap.size < w3.heap.size := Nat.lt_of_lt_of_le hroom r.size
        have HV := hid (pview_to x (popenF X).2 fx' on w3 a' HHI.out HVW.out.2)
        rw [HVW.out.1] at HV
        have HSH : Hid (∀ W, Calls Try.prog 15 #[.agg (bytesOf B).toArray] W fun e w' => e = .returned (.string (shownT B.vals 60)) ∧ W.grownBy w' none) := hid (fun W => shown_any _ B.vals W (fun c hc => by rw [List.getElem?_toArray]; exact bytesOf_at hc) HCB.out)
        have HR3 := hid (bytesOf_range hbk)
        have hbl := bytesOf_len B
        clear hbk a' n' s' r e1 HO HVW HHI HL HCB
        generalize shownT B.vals 60 = sv at HV HSH
        generalize bytesOf B = vl at HSH HR3 hbl
        go_wp2_with fail
        go_at_call 14
        refine HV.out.mono ?_
        rintro e w4 ⟨rfl, hf4⟩
        have HR4 : Hid (w4.rangeAt b 62 vl) := hid (fun j v hv => keep0 hf4 (HR3.out j v hv))
        have HB4 := hid (HB3.out.trans (hf4.below (Nat.le_of_lt hr3) (by simp)))
        have hr4 : w.heap.size < w4.heap.size := Nat.lt_of_lt_of_le hr3 hf4.size
        clear hf4 HR3 HV HB3
        have hinf : (Try.prog.info? 29).map (·.size) = some vl.length := info_sixty.trans (by rw [hbl])
        go_wp2_with (refine wpList_load_mid rfl 29 (.tmp 87) rfl b 62 rfl vl _ HR4.out Try.underlying29 rfl hinf ?_)
        go_at_call 15
        refine (HSH.out _).mono ?_
        rintro e w5 ⟨rfl, hg5⟩
        have HB5 := hid (HB4.out.trans ((fr_none hg5).below (Nat.le_of_lt hr4) (by simp)))
        clear hg5 HSH HR4
        go_wp2_with fail
        go_ret
        exact ⟨rfl, HB5.out⟩

end Go.Proofs.Ythlhbjnkohinmaa
