/- The reader's lists of conditions and of actions: the two loops. (Written by program: wip/tools/mk_rd6.py.) -/
import Derived.Test.YthlhbjnkohinmaaRd5
namespace Go.Proofs.Ythlhbjnkohinmaa
open Go.RowKit

/-- The place at which the reader in block b stands. -/
def posOf (w : World) (b : Nat) : Nat := match w.cell? ⟨b, 1, none⟩ with | some (.int _ z) => z.toNat | _ => 0
theorem news_at {w : World} {o : Obj} {xs : List Value} {t : TypeId} {j : Nat} {u : Value} (h : xs[j]? = some u) : ((w.alloc o).alloc (.cells xs.toArray t)).cell? ((⟨w.heap.size + 1, 0, none⟩ : Addr).add j) = some u := by
  have hadd : (⟨w.heap.size + 1, 0, none⟩ : Addr).add j = ⟨w.heap.size + 1, j, none⟩ := by unfold Addr.add; split <;> simp_all
  rw [hadd, World.cell?_alloc_at _ _ _ _ (by simp)]
  simpa using h
theorem grown_own {w W w3 : World} {b : Nat} {row : Option Nat} (h : w.grownBy W (some b)) (k : W.grownBy w3 row) (hrow : ∀ g, row = some g → w.heap.size ≤ g) : w.grownBy w3 (some b) :=
  ⟨k.os.trans h.os, k.tape.trans h.tape, k.output.trans h.output, Nat.le_trans h.size k.size, fun i hi hb => (k.block i (Nat.lt_of_lt_of_le hi h.size) (fun e => by have := hrow i e.symm; omega)).trans (h.block i hi hb)⟩
theorem own_ne {w : World} {base b : Nat} {e : TypeId} {size : Nat} {v : Value} {n : Nat} {xs : List Value} (h : w.ownsRow base e size v n xs) (hb : b < base) : v.ownBlock ≠ some b := by
  intro hx; have := (h.lt b hx).1; omega
theorem patLen_le {s : ByteArray} {i : Nat} (h : i ≤ s.size) : i + patLen s i ≤ s.size := by
  unfold patLen
  split
  · have := lt_of_cls (by assumption)
    split
    · have := lt_of_ter (by assumption)
      split
      · have := lt_of_ter (by assumption); omega
      · omega
    · omega
  · omega
theorem tstLen_le {s : ByteArray} {i : Nat} (h : i ≤ s.size) : i + tstLen s i ≤ s.size := by
  unfold tstLen
  split
  · have := lt_of_sim (by assumption)
    split
    · have := lt_of_sgn (by assumption)
      split
      · have := lt_of_sim (by assumption); omega
      · omega
    · omega
  · omega
theorem cdLen_le {s : ByteArray} {i : Nat} (h : i < s.size) : i + cdLen s i ≤ s.size := by
  unfold cdLen
  split
  · have := patLen_le (s := s) (i := i + 1) (by omega); omega
  · split
    · exact patLen_le (by omega)
    · exact tstLen_le (by omega)
theorem filLen_le {s : ByteArray} {i : Nat} (h : i ≤ s.size) : i + filLen s i ≤ s.size := by
  unfold filLen
  split
  · have h1 := lt_of_cls (by assumption)
    split
    · have h2 := exJ_le (by assumption)
      have h3 := exJ_gt s (i + 1)
      split
      · have := exJ_le (by assumption)
        have := exJ_gt s (exJ s (i + 1)); omega
      · omega
    · omega
  · omega
theorem empLen_le {s : ByteArray} {i : Nat} (h : i ≤ s.size) : i + empLen s i ≤ s.size := by
  unfold empLen
  split
  · have h1 := lt_of_cls (by assumption)
    split
    · have h2 := exJ_le (by assumption)
      have h3 := exJ_gt s (i + 1); omega
    · omega
  · omega
theorem acLen_le {s : ByteArray} {i : Nat} (h : i < s.size) : i + acLen s i ≤ s.size := by
  unfold acLen
  split
  · have := filLen_le (s := s) (i := i + 1) (by omega); omega
  · split
    · have := empLen_le (s := s) (i := i + 1) (by omega); omega
    · split <;> omega
theorem posOf_rd {w : World} {b : Nat} {s : ByteArray} {i : Nat} (h : Rd w b s i) : posOf w b = i := by simp [posOf, h.c1]

theorem cond_ok (s : ByteArray) (b i : Nat) (w : World) (hB : s.size ≤ 400 ∧ i ≤ 400) (hr : Rd w b s i) (h : cdOk s i = true) :
    Calls Try.prog 98 #[.pointer (some ⟨b, 0, none⟩)] w (RP w b s (.tuple #[.agg #[.int .i64 (cdV s i).k, .int .i64 (cdV s i).c, .int .u8 (cdV s i).g, .int .i64 (cdV s i).a1, .int .i64 (cdV s i).a2, .int .i64 (cdV s i).b1, .int .i64 (cdV s i).b2], .bool true]) (i + cdLen s i)) := by
  have hc := cond_any s b i w hB hr
  rw [cdX_ok h, h] at hc
  exact hc
theorem cond_bad (s : ByteArray) (b i : Nat) (w : World) (hB : s.size ≤ 400 ∧ i ≤ 400) (hr : Rd w b s i) (h : cdOk s i = false) :
    Calls Try.prog 98 #[.pointer (some ⟨b, 0, none⟩)] w (RP w b s (.tuple #[.agg #[.int .i64 (cdX s i).k, .int .i64 (cdX s i).c, .int .u8 (cdX s i).g, .int .i64 (cdX s i).a1, .int .i64 (cdX s i).a2, .int .i64 (cdX s i).b1, .int .i64 (cdX s i).b2], .bool false]) (i + cdLen s i)) := by
  have hc := cond_any s b i w hB hr
  rw [h] at hc
  exact hc

/-- What holds of all readings of a list. -/
structure CdsAll (s : ByteArray) (M : Nat → List Nat → Nat → Bool → Prop) : Prop where
  out : ∀ i, ¬ i < s.size → M i [] i false
  bad : ∀ i, i < s.size → cdOk s i = false → M i [] (i + cdLen s i) false
  last : ∀ i, i < s.size → cdOk s i = true → bt s (i + cdLen s i) = 62 → M i [i] (i + cdLen s i + 1) true
  stray : ∀ i, i < s.size → cdOk s i = true → ¬ bt s (i + cdLen s i) = 62 → ¬ bt s (i + cdLen s i) = 44 → M i [i] (i + cdLen s i) false
  next : ∀ i L j ok, i < s.size → cdOk s i = true → bt s (i + cdLen s i) = 44 → M (i + cdLen s i + 1) L j ok → M i (i :: L) j ok

/-- From the place i on a list of conditions is read: where they begin, where the reader stands then, and whether it went through. -/
def Cds (s : ByteArray) (i : Nat) (L : List Nat) (j : Nat) (ok : Bool) : Prop := ∀ M, CdsAll s M → M i L j ok
theorem Cds.out {s : ByteArray} {i : Nat} (h : ¬ i < s.size) : Cds s i [] i false := fun _ c => c.out i h
theorem Cds.bad {s : ByteArray} {i : Nat} (h : i < s.size) (h1 : cdOk s i = false) : Cds s i [] (i + cdLen s i) false := fun _ c => c.bad i h h1
theorem Cds.last {s : ByteArray} {i : Nat} (h : i < s.size) (h1 : cdOk s i = true) (h2 : bt s (i + cdLen s i) = 62) : Cds s i [i] (i + cdLen s i + 1) true := fun _ c => c.last i h h1 h2
theorem Cds.stray {s : ByteArray} {i : Nat} (h : i < s.size) (h1 : cdOk s i = true) (h2 : ¬ bt s (i + cdLen s i) = 62) (h3 : ¬ bt s (i + cdLen s i) = 44) : Cds s i [i] (i + cdLen s i) false := fun _ c => c.stray i h h1 h2 h3
theorem Cds.next {s : ByteArray} {i : Nat} {L : List Nat} {j : Nat} {ok : Bool} (h : i < s.size) (h1 : cdOk s i = true) (h2 : bt s (i + cdLen s i) = 44) (h3 : Cds s (i + cdLen s i + 1) L j ok) : Cds s i (i :: L) j ok := fun M c => c.next i L j ok h h1 h2 (h3 M c)
/-- By the way in which it was read. -/
theorem Cds.ind {s : ByteArray} {M : Nat → List Nat → Nat → Bool → Prop} (out : ∀ i, ¬ i < s.size → M i [] i false) (bad : ∀ i, i < s.size → cdOk s i = false → M i [] (i + cdLen s i) false)
    (last : ∀ i, i < s.size → cdOk s i = true → bt s (i + cdLen s i) = 62 → M i [i] (i + cdLen s i + 1) true)
    (stray : ∀ i, i < s.size → cdOk s i = true → ¬ bt s (i + cdLen s i) = 62 → ¬ bt s (i + cdLen s i) = 44 → M i [i] (i + cdLen s i) false)
    (next : ∀ i L j ok, i < s.size → cdOk s i = true → bt s (i + cdLen s i) = 44 → Cds s (i + cdLen s i + 1) L j ok → M (i + cdLen s i + 1) L j ok → M i (i :: L) j ok)
    {i : Nat} {L : List Nat} {j : Nat} {ok : Bool} (h : Cds s i L j ok) : M i L j ok :=
  (h (fun i L j ok => Cds s i L j ok ∧ M i L j ok) ⟨fun i h => ⟨.out h, out i h⟩, fun i h h1 => ⟨.bad h h1, bad i h h1⟩, fun i h h1 h2 => ⟨.last h h1 h2, last i h h1 h2⟩, fun i h h1 h2 h3 => ⟨.stray h h1 h2 h3, stray i h h1 h2 h3⟩, fun i L j ok h h1 h2 h3 => ⟨.next h h1 h2 h3.1, next i L j ok h h1 h2 h3.1 h3.2⟩⟩).2

def cdsCells (s : ByteArray) (L : List Nat) : List Value := L.flatMap fun p => [.int .i64 (cdV s p).k, .int .i64 (cdV s p).c, .int .u8 (cdV s p).g, .int .i64 (cdV s p).a1, .int .i64 (cdV s p).a2, .int .i64 (cdV s p).b1, .int .i64 (cdV s p).b2]
theorem cdsCells_snoc (s : ByteArray) (L : List Nat) (i' : Nat) : cdsCells s (L ++ [i']) = cdsCells s L ++ [.int .i64 (cdV s i').k, .int .i64 (cdV s i').c, .int .u8 (cdV s i').g, .int .i64 (cdV s i').a1, .int .i64 (cdV s i').a2, .int .i64 (cdV s i').b1, .int .i64 (cdV s i').b2] := by simp [cdsCells]

theorem Try.info163 : (Try.prog.info? 163).map (fun i => (i.zero, i.size, i.bytes)) = some (some (.agg #[.int .i64 0, .int .i64 0, .int .u8 0, .int .i64 0, .int .i64 0, .int .i64 0, .int .i64 0]), 7, 56) := by kernel_rfl

/-- What the reading of a list leaves. -/
def CdsPost (w : World) (b : Nat) (s : ByteArray) (i : Nat) (e : Ending) (w' : World) : Prop :=
  ∃ L j ok v, e = .returned (.tuple #[v, .bool ok]) ∧ Cds s i L j ok ∧ (ok = true → w'.ownsRow w.heap.size 163 7 v L.length (cdsCells s L)) ∧ (ok = false → v = .slice none 0 0) ∧ j ≤ 400 ∧ Rd w' b s j ∧ w.grownBy w' (some b)

set_option maxHeartbeats 2000000 in
theorem conditions_any (s : ByteArray) (b i : Nat) (w : World) (hB : s.size ≤ 400 ∧ i ≤ 400) (hr : Rd w b s i) :
    Calls Try.prog 91 #[.pointer (some ⟨b, 0, none⟩)] w (CdsPost w b s i) := by
  have hs := hB.1
  have hl := hr.lt
  obtain ⟨i0, hi0, hz0, hz1, hz2⟩ := info_parts Try.info163
  go_enter Try.func91, Try.ntmps91
  go_wp2_with fail
  go_loopw [4] (fun v wr => ∃ (L0 : List Nat) (i' : Nat), Rd wr b s i' ∧ i' ≤ 400 ∧ i' ≤ s.size + i ∧ L0.length ≤ i' ∧ wr.ownsRow w.heap.size 163 7 v L0.length (cdsCells s L0) ∧ w.grownBy wr (some b) ∧ (∀ L j ok, Cds s i' L j ok → Cds s i (L0 ++ L) j ok))
    (fun _ wr => 400 - posOf wr b)
  case atStart => exact ⟨[], i, hr, hB.2, by omega, Nat.zero_le _, World.ownsRow_nil _ _ _ _, grown_refl _ _, fun L j ok h => h⟩
  case round =>
    obtain ⟨L0, i', hr0, hi4, hi5, hL0, hown, hg0, HC⟩ := hrel
    have c0 := hr0.c0
    have c1 := hr0.c1
    have hB' : s.size ≤ 400 ∧ i' ≤ 400 := ⟨hs, hi4⟩
    have HC' := hid HC
    clear HC
    by_cases hlt : i' < s.size
    · by_cases hok : cdOk s i' = true
      · go_wp2_with fail
        go_quiet ((fail))
        go_wp2_with fail
        go_at_call 98
        refine (cond_ok s b i' _ hB' (hr0.drewN _) hok).mono ?_
        rintro e w2 ⟨rfl, hr2, hg2⟩
        replace hg2 := grown_undrew hg2
        have hown2 := hown.kept hg2 (.inr (own_ne hown hl))
        have hsz := hg0.size
        have hsz2 := hg2.size
        go_wp2_with (first | (at_builtin; refine wpList_append_own _ rfl (.tmp 24) (.tmp 26) 127 rfl (w.heap.size) 163 i0 (.agg #[.int .i64 0, .int .i64 0, .int .u8 0, .int .i64 0, .int .i64 0, .int .i64 0, .int .i64 0]) 7 56 Try.underlying127 hi0 hz0 hz1 hz2 rfl (by decide) _ _ _ rfl ((hown2.alloc _).alloc _) _ 1 1 [.int .i64 (cdV s i').k, .int .i64 (cdV s i').c, .int .u8 (cdV s i').g, .int .i64 (cdV s i').a1, .int .i64 (cdV s i').a2, .int .i64 (cdV s i').b1, .int .i64 (cdV s i').b2] rfl rfl ?c1 ?c2 ?c3 ?c4 ?c5 ?_))
        case c1 =>
          intro j u hj
          exact news_at hj
        case c2 => intro u hu; simp at hu; rcases hu with h | h | h | h | h | h | h <;> subst h <;> rfl
        case c3 => unfold maxLen; omega
        case c4 => omega
        case c5 => simp; omega
        · intro v' w3 hown3 hg3 _
          have hbd := cdLen_le hlt
          have hown3' : w3.ownsRow w.heap.size 163 7 v' (L0 ++ [i']).length (cdsCells s (L0 ++ [i'])) := by rw [cdsCells_snoc]; simpa using hown3
          have hr3 : Rd w3 b s (i' + cdLen s i') := (hg3.block b (by have := hr2.lt; simp; omega) (fun e => own_ne hown hl e.symm)).trans ((hr2.alloc _).alloc _)
          have hg3' : w.grownBy w3 (some b) := grown_own (grown_alloc (grown_alloc (grown_trans hg0 hg2) _) _) hg3 (fun g hg => (hown.lt g hg).1)
          clear hown3 hg3 hown2 hown hg2 hr2 hg0 c0 c1
          obtain ⟨j, hj⟩ : ∃ j, j = i' + cdLen s i' := ⟨_, rfl⟩
          have hB3 : s.size ≤ 400 ∧ j ≤ 400 := by omega
          rw [← hj] at hr3
          have hlen : (L0 ++ [i']).length ≤ j + 1 := by simp; omega
          by_cases h62 : bt s j = 62
          · have HN : Hid (Cds s i (L0 ++ [i']) (j + 1) true) := hid (by have := HC'.out _ _ _ (.last hlt hok (by rw [← hj]; exact h62)); rw [← hj] at this; exact this)
            have hj1 := lt_of_bt (s := s) (i := j) (by omega)
            clear hj
            have H62 := hid h62
            clear h62
            go_wp2_with fail
            go_at_call 90
            refine (mark_yes s b j _ hB3 hr3 62 H62.out).mono ?_
            rintro e w4 ⟨rfl, hr4, hg4⟩
            have hown4 := hown3'.kept hg4 (.inr (own_ne hown3' hl))
            go_wp2
            go_ret2
            exact ⟨L0 ++ [i'], j + 1, true, v', rfl, HN.out, (fun _ => hown4), (fun h => by cases h), by omega, hr4, grown_trans hg3' hg4⟩
          · have H62 := hid h62
            by_cases h44 : bt s j = 44
            · have HN : Hid (∀ L j' ok, Cds s (j + 1) L j' ok → Cds s i ((L0 ++ [i']) ++ L) j' ok) := hid (by
                intro L j' ok hn
                have := HC'.out _ _ _ (.next hlt hok (by rw [← hj]; exact h44) (by rw [← hj]; exact hn))
                simpa using this)
              have hj1 := lt_of_bt (s := s) (i := j) (by omega)
              have hji : i' < j + 1 := by omega
              clear hj
              have H44 := hid h44
              clear h62 h44
              go_wp2_with fail
              go_at_call 90
              refine (mark_no s b j _ hB3 hr3 62 H62.out).mono ?_
              rintro e w4 ⟨rfl, hr4, hg4⟩
              have hown4 := hown3'.kept hg4 (.inr (own_ne hown3' hl))
              have hg4' := grown_trans hg3' hg4
              clear hown3' hg4 hg3'
              go_wp2_with fail
              go_at_call 90
              refine (mark_yes s b j _ hB3 hr4 44 H44.out).mono ?_
              rintro e w5 ⟨rfl, hr5, hg5⟩
              have hown5 := hown4.kept hg5 (.inr (own_ne hown4 hl))
              have hg5' := grown_trans hg4' hg5
              have hp0 := hid (posOf_rd hr0)
              have hp5 := hid (posOf_rd hr5)
              clear hown4 hg5 hg4' hr0
              go_wp2
              go_roundw
              case rel => exact ⟨L0 ++ [i'], j + 1, hr5, by omega, by omega, hlen, hown5, hg5', HN.out⟩
              case measure => rw [hp0.out, hp5.out]; omega
            · have HN : Hid (Cds s i (L0 ++ [i']) j false) := hid (by have := HC'.out _ _ _ (.stray hlt hok (by rw [← hj]; exact h62) (by rw [← hj]; exact h44)); rw [← hj] at this; exact this)
              clear hj
              have H44 := hid h44
              clear h62 h44
              go_wp2_with fail
              go_at_call 90
              refine (mark_no s b j _ hB3 hr3 62 H62.out).mono ?_
              rintro e w4 ⟨rfl, hr4, hg4⟩
              have hg4' := grown_trans hg3' hg4
              clear hown3' hg4 hg3'
              go_wp2_with fail
              go_at_call 90
              refine (mark_no s b j _ hB3 hr4 44 H44.out).mono ?_
              rintro e w5 ⟨rfl, hr5, hg5⟩
              have hg5' := grown_trans hg4' hg5
              clear hg5 hg4'
              go_wp2
              go_ret2
              exact ⟨L0 ++ [i'], j, false, .slice none 0 0, rfl, HN.out, (fun h => by cases h), (fun _ => rfl), by omega, hr5, hg5'⟩
      · have hok : cdOk s i' = false := by simpa using hok
        go_wp2_with fail
        go_quiet ((fail))
        go_wp2_with fail
        go_at_call 98
        refine (cond_bad s b i' _ hB' (hr0.drewN _) hok).mono ?_
        rintro e w2 ⟨rfl, hr2, hg2⟩
        replace hg2 := grown_undrew hg2
        have hbd := cdLen_le hlt
        go_wp2
        go_ret2
        exact ⟨L0 ++ [], i' + cdLen s i', false, .slice none 0 0, rfl, HC'.out _ _ _ (.bad hlt hok), (fun h => by cases h), (fun _ => rfl), by omega, hr2.alloc _, grown_alloc (grown_trans hg0 hg2) _⟩
    · go_wp2_with fail
      go_quiet ((fail))
      go_wp2
      go_ret2
      exact ⟨L0 ++ [], i', false, .slice none 0 0, rfl, HC'.out _ _ _ (.out hlt), (fun h => by cases h), (fun _ => rfl), hi4, hr0.drewN _, grown_drewN hg0 _⟩

theorem act_ok (s : ByteArray) (b i : Nat) (w : World) (hB : s.size ≤ 400 ∧ i ≤ 400) (hr : Rd w b s i) (h : acOk s i = true) :
    Calls Try.prog 99 #[.pointer (some ⟨b, 0, none⟩)] w (RP w b s (.tuple #[.agg #[.int .i64 (acV s i).k, .int .i64 (acV s i).c, .int .i64 (acV s i).a1, .int .i64 (acV s i).a2, .int .i64 (acV s i).a3, .int .i64 (acV s i).b1, .int .i64 (acV s i).b2, .int .i64 (acV s i).b3], .bool true]) (i + acLen s i)) := by
  have hc := act_any s b i w hB hr
  rw [acX_ok h, h] at hc
  exact hc
theorem act_bad (s : ByteArray) (b i : Nat) (w : World) (hB : s.size ≤ 400 ∧ i ≤ 400) (hr : Rd w b s i) (h : acOk s i = false) :
    Calls Try.prog 99 #[.pointer (some ⟨b, 0, none⟩)] w (RP w b s (.tuple #[.agg #[.int .i64 (acX s i).k, .int .i64 (acX s i).c, .int .i64 (acX s i).a1, .int .i64 (acX s i).a2, .int .i64 (acX s i).a3, .int .i64 (acX s i).b1, .int .i64 (acX s i).b2, .int .i64 (acX s i).b3], .bool false]) (i + acLen s i)) := by
  have hc := act_any s b i w hB hr
  rw [h] at hc
  exact hc

/-- What holds of all readings of a list. -/
structure AcsAll (s : ByteArray) (M : Nat → List Nat → Nat → Bool → Prop) : Prop where
  out : ∀ i, ¬ i < s.size → M i [] i false
  bad : ∀ i, i < s.size → acOk s i = false → M i [] (i + acLen s i) false
  last : ∀ i, i < s.size → acOk s i = true → bt s (i + acLen s i) = 59 → M i [i] (i + acLen s i + 1) true
  stray : ∀ i, i < s.size → acOk s i = true → ¬ bt s (i + acLen s i) = 59 → ¬ bt s (i + acLen s i) = 44 → M i [i] (i + acLen s i) false
  next : ∀ i L j ok, i < s.size → acOk s i = true → bt s (i + acLen s i) = 44 → M (i + acLen s i + 1) L j ok → M i (i :: L) j ok

/-- From the place i on a list of actions is read: where they begin, where the reader stands then, and whether it went through. -/
def Acs (s : ByteArray) (i : Nat) (L : List Nat) (j : Nat) (ok : Bool) : Prop := ∀ M, AcsAll s M → M i L j ok
theorem Acs.out {s : ByteArray} {i : Nat} (h : ¬ i < s.size) : Acs s i [] i false := fun _ c => c.out i h
theorem Acs.bad {s : ByteArray} {i : Nat} (h : i < s.size) (h1 : acOk s i = false) : Acs s i [] (i + acLen s i) false := fun _ c => c.bad i h h1
theorem Acs.last {s : ByteArray} {i : Nat} (h : i < s.size) (h1 : acOk s i = true) (h2 : bt s (i + acLen s i) = 59) : Acs s i [i] (i + acLen s i + 1) true := fun _ c => c.last i h h1 h2
theorem Acs.stray {s : ByteArray} {i : Nat} (h : i < s.size) (h1 : acOk s i = true) (h2 : ¬ bt s (i + acLen s i) = 59) (h3 : ¬ bt s (i + acLen s i) = 44) : Acs s i [i] (i + acLen s i) false := fun _ c => c.stray i h h1 h2 h3
theorem Acs.next {s : ByteArray} {i : Nat} {L : List Nat} {j : Nat} {ok : Bool} (h : i < s.size) (h1 : acOk s i = true) (h2 : bt s (i + acLen s i) = 44) (h3 : Acs s (i + acLen s i + 1) L j ok) : Acs s i (i :: L) j ok := fun M c => c.next i L j ok h h1 h2 (h3 M c)
/-- By the way in which it was read. -/
theorem Acs.ind {s : ByteArray} {M : Nat → List Nat → Nat → Bool → Prop} (out : ∀ i, ¬ i < s.size → M i [] i false) (bad : ∀ i, i < s.size → acOk s i = false → M i [] (i + acLen s i) false)
    (last : ∀ i, i < s.size → acOk s i = true → bt s (i + acLen s i) = 59 → M i [i] (i + acLen s i + 1) true)
    (stray : ∀ i, i < s.size → acOk s i = true → ¬ bt s (i + acLen s i) = 59 → ¬ bt s (i + acLen s i) = 44 → M i [i] (i + acLen s i) false)
    (next : ∀ i L j ok, i < s.size → acOk s i = true → bt s (i + acLen s i) = 44 → Acs s (i + acLen s i + 1) L j ok → M (i + acLen s i + 1) L j ok → M i (i :: L) j ok)
    {i : Nat} {L : List Nat} {j : Nat} {ok : Bool} (h : Acs s i L j ok) : M i L j ok :=
  (h (fun i L j ok => Acs s i L j ok ∧ M i L j ok) ⟨fun i h => ⟨.out h, out i h⟩, fun i h h1 => ⟨.bad h h1, bad i h h1⟩, fun i h h1 h2 => ⟨.last h h1 h2, last i h h1 h2⟩, fun i h h1 h2 h3 => ⟨.stray h h1 h2 h3, stray i h h1 h2 h3⟩, fun i L j ok h h1 h2 h3 => ⟨.next h h1 h2 h3.1, next i L j ok h h1 h2 h3.1 h3.2⟩⟩).2

def acsCells (s : ByteArray) (L : List Nat) : List Value := L.flatMap fun p => [.int .i64 (acV s p).k, .int .i64 (acV s p).c, .int .i64 (acV s p).a1, .int .i64 (acV s p).a2, .int .i64 (acV s p).a3, .int .i64 (acV s p).b1, .int .i64 (acV s p).b2, .int .i64 (acV s p).b3]
theorem acsCells_snoc (s : ByteArray) (L : List Nat) (i' : Nat) : acsCells s (L ++ [i']) = acsCells s L ++ [.int .i64 (acV s i').k, .int .i64 (acV s i').c, .int .i64 (acV s i').a1, .int .i64 (acV s i').a2, .int .i64 (acV s i').a3, .int .i64 (acV s i').b1, .int .i64 (acV s i').b2, .int .i64 (acV s i').b3] := by simp [acsCells]

theorem Try.info175 : (Try.prog.info? 175).map (fun i => (i.zero, i.size, i.bytes)) = some (some (.agg #[.int .i64 0, .int .i64 0, .int .i64 0, .int .i64 0, .int .i64 0, .int .i64 0, .int .i64 0, .int .i64 0]), 8, 64) := by kernel_rfl

/-- What the reading of a list leaves. -/
def AcsPost (w : World) (b : Nat) (s : ByteArray) (i : Nat) (e : Ending) (w' : World) : Prop :=
  ∃ L j ok v, e = .returned (.tuple #[v, .bool ok]) ∧ Acs s i L j ok ∧ (ok = true → w'.ownsRow w.heap.size 175 8 v L.length (acsCells s L)) ∧ (ok = false → v = .slice none 0 0) ∧ j ≤ 400 ∧ Rd w' b s j ∧ w.grownBy w' (some b)

set_option maxHeartbeats 2000000 in
theorem actions_any (s : ByteArray) (b i : Nat) (w : World) (hB : s.size ≤ 400 ∧ i ≤ 400) (hr : Rd w b s i) :
    Calls Try.prog 92 #[.pointer (some ⟨b, 0, none⟩)] w (AcsPost w b s i) := by
  have hs := hB.1
  have hl := hr.lt
  obtain ⟨i0, hi0, hz0, hz1, hz2⟩ := info_parts Try.info175
  go_enter Try.func92, Try.ntmps92
  go_wp2_with fail
  go_loopw [4] (fun v wr => ∃ (L0 : List Nat) (i' : Nat), Rd wr b s i' ∧ i' ≤ 400 ∧ i' ≤ s.size + i ∧ L0.length ≤ i' ∧ wr.ownsRow w.heap.size 175 8 v L0.length (acsCells s L0) ∧ w.grownBy wr (some b) ∧ (∀ L j ok, Acs s i' L j ok → Acs s i (L0 ++ L) j ok))
    (fun _ wr => 400 - posOf wr b)
  case atStart => exact ⟨[], i, hr, hB.2, by omega, Nat.zero_le _, World.ownsRow_nil _ _ _ _, grown_refl _ _, fun L j ok h => h⟩
  case round =>
    obtain ⟨L0, i', hr0, hi4, hi5, hL0, hown, hg0, HC⟩ := hrel
    have c0 := hr0.c0
    have c1 := hr0.c1
    have hB' : s.size ≤ 400 ∧ i' ≤ 400 := ⟨hs, hi4⟩
    have HC' := hid HC
    clear HC
    by_cases hlt : i' < s.size
    · by_cases hok : acOk s i' = true
      · go_wp2_with fail
        go_quiet ((fail))
        go_wp2_with fail
        go_at_call 99
        refine (act_ok s b i' _ hB' (hr0.drewN _) hok).mono ?_
        rintro e w2 ⟨rfl, hr2, hg2⟩
        replace hg2 := grown_undrew hg2
        have hown2 := hown.kept hg2 (.inr (own_ne hown hl))
        have hsz := hg0.size
        have hsz2 := hg2.size
        go_wp2_with (first | (at_builtin; refine wpList_append_own _ rfl (.tmp 24) (.tmp 26) 128 rfl (w.heap.size) 175 i0 (.agg #[.int .i64 0, .int .i64 0, .int .i64 0, .int .i64 0, .int .i64 0, .int .i64 0, .int .i64 0, .int .i64 0]) 8 64 Try.underlying128 hi0 hz0 hz1 hz2 rfl (by decide) _ _ _ rfl ((hown2.alloc _).alloc _) _ 1 1 [.int .i64 (acV s i').k, .int .i64 (acV s i').c, .int .i64 (acV s i').a1, .int .i64 (acV s i').a2, .int .i64 (acV s i').a3, .int .i64 (acV s i').b1, .int .i64 (acV s i').b2, .int .i64 (acV s i').b3] rfl rfl ?c1 ?c2 ?c3 ?c4 ?c5 ?_))
        case c1 =>
          intro j u hj
          exact news_at hj
        case c2 => intro u hu; simp at hu; rcases hu with h | h | h | h | h | h | h | h <;> subst h <;> rfl
        case c3 => unfold maxLen; omega
        case c4 => omega
        case c5 => simp; omega
        · intro v' w3 hown3 hg3 _
          have hbd := acLen_le hlt
          have hown3' : w3.ownsRow w.heap.size 175 8 v' (L0 ++ [i']).length (acsCells s (L0 ++ [i'])) := by rw [acsCells_snoc]; simpa using hown3
          have hr3 : Rd w3 b s (i' + acLen s i') := (hg3.block b (by have := hr2.lt; simp; omega) (fun e => own_ne hown hl e.symm)).trans ((hr2.alloc _).alloc _)
          have hg3' : w.grownBy w3 (some b) := grown_own (grown_alloc (grown_alloc (grown_trans hg0 hg2) _) _) hg3 (fun g hg => (hown.lt g hg).1)
          clear hown3 hg3 hown2 hown hg2 hr2 hg0 c0 c1
          obtain ⟨j, hj⟩ : ∃ j, j = i' + acLen s i' := ⟨_, rfl⟩
          have hB3 : s.size ≤ 400 ∧ j ≤ 400 := by omega
          rw [← hj] at hr3
          have hlen : (L0 ++ [i']).length ≤ j + 1 := by simp; omega
          by_cases h62 : bt s j = 59
          · have HN : Hid (Acs s i (L0 ++ [i']) (j + 1) true) := hid (by have := HC'.out _ _ _ (.last hlt hok (by rw [← hj]; exact h62)); rw [← hj] at this; exact this)
            have hj1 := lt_of_bt (s := s) (i := j) (by omega)
            clear hj
            have H62 := hid h62
            clear h62
            go_wp2_with fail
            go_at_call 90
            refine (mark_yes s b j _ hB3 hr3 59 H62.out).mono ?_
            rintro e w4 ⟨rfl, hr4, hg4⟩
            have hown4 := hown3'.kept hg4 (.inr (own_ne hown3' hl))
            go_wp2
            go_ret2
            exact ⟨L0 ++ [i'], j + 1, true, v', rfl, HN.out, (fun _ => hown4), (fun h => by cases h), by omega, hr4, grown_trans hg3' hg4⟩
          · have H62 := hid h62
            by_cases h44 : bt s j = 44
            · have HN : Hid (∀ L j' ok, Acs s (j + 1) L j' ok → Acs s i ((L0 ++ [i']) ++ L) j' ok) := hid (by
                intro L j' ok hn
                have := HC'.out _ _ _ (.next hlt hok (by rw [← hj]; exact h44) (by rw [← hj]; exact hn))
                simpa using this)
              have hj1 := lt_of_bt (s := s) (i := j) (by omega)
              have hji : i' < j + 1 := by omega
              clear hj
              have H44 := hid h44
              clear h62 h44
              go_wp2_with fail
              go_at_call 90
              refine (mark_no s b j _ hB3 hr3 59 H62.out).mono ?_
              rintro e w4 ⟨rfl, hr4, hg4⟩
              have hown4 := hown3'.kept hg4 (.inr (own_ne hown3' hl))
              have hg4' := grown_trans hg3' hg4
              clear hown3' hg4 hg3'
              go_wp2_with fail
              go_at_call 90
              refine (mark_yes s b j _ hB3 hr4 44 H44.out).mono ?_
              rintro e w5 ⟨rfl, hr5, hg5⟩
              have hown5 := hown4.kept hg5 (.inr (own_ne hown4 hl))
              have hg5' := grown_trans hg4' hg5
              have hp0 := hid (posOf_rd hr0)
              have hp5 := hid (posOf_rd hr5)
              clear hown4 hg5 hg4' hr0
              go_wp2
              go_roundw
              case rel => exact ⟨L0 ++ [i'], j + 1, hr5, by omega, by omega, hlen, hown5, hg5', HN.out⟩
              case measure => rw [hp0.out, hp5.out]; omega
            · have HN : Hid (Acs s i (L0 ++ [i']) j false) := hid (by have := HC'.out _ _ _ (.stray hlt hok (by rw [← hj]; exact h62) (by rw [← hj]; exact h44)); rw [← hj] at this; exact this)
              clear hj
              have H44 := hid h44
              clear h62 h44
              go_wp2_with fail
              go_at_call 90
              refine (mark_no s b j _ hB3 hr3 59 H62.out).mono ?_
              rintro e w4 ⟨rfl, hr4, hg4⟩
              have hg4' := grown_trans hg3' hg4
              clear hown3' hg4 hg3'
              go_wp2_with fail
              go_at_call 90
              refine (mark_no s b j _ hB3 hr4 44 H44.out).mono ?_
              rintro e w5 ⟨rfl, hr5, hg5⟩
              have hg5' := grown_trans hg4' hg5
              clear hg5 hg4'
              go_wp2
              go_ret2
              exact ⟨L0 ++ [i'], j, false, .slice none 0 0, rfl, HN.out, (fun h => by cases h), (fun _ => rfl), by omega, hr5, hg5'⟩
      · have hok : acOk s i' = false := by simpa using hok
        go_wp2_with fail
        go_quiet ((fail))
        go_wp2_with fail
        go_at_call 99
        refine (act_bad s b i' _ hB' (hr0.drewN _) hok).mono ?_
        rintro e w2 ⟨rfl, hr2, hg2⟩
        replace hg2 := grown_undrew hg2
        have hbd := acLen_le hlt
        go_wp2
        go_ret2
        exact ⟨L0 ++ [], i' + acLen s i', false, .slice none 0 0, rfl, HC'.out _ _ _ (.bad hlt hok), (fun h => by cases h), (fun _ => rfl), by omega, hr2.alloc _, grown_alloc (grown_trans hg0 hg2) _⟩
    · go_wp2_with fail
      go_quiet ((fail))
      go_wp2
      go_ret2
      exact ⟨L0 ++ [], i', false, .slice none 0 0, rfl, HC'.out _ _ _ (.out hlt), (fun h => by cases h), (fun _ => rfl), hi4, hr0.drewN _, grown_drewN hg0 _⟩

end Go.Proofs.Ythlhbjnkohinmaa
