import Derived.Test.YthlhbjnkohinmaaPart04
import Derived.Test.YthlhbjnkohinmaaPart01
import Derived.Test.YthlhbjnkohinmaaPart02
/- The program's versions in memory: a sweep over all cells; Kept and Sweep. -/
namespace Go.Proofs.Ythlhbjnkohinmaa
open Go.RowKit

def PEng.setHist (X : PEng) (c : Nat) (l : Hist) : PEng := { X with hist := upd X.hist c l }
theorem PAt.setKept {w : World} {x : Nat} {X : PEng} {kv : Nat → Value} {cs : Array Value} (h : PAt w x X kv) (hb : w.heap[x]? = some (.cells cs 93 (0, 0))) {w' : World} {c : Nat} (hc : c < 60) (nv : Value)
    (hb' : w'.heap[x]? = some (.cells (cs.setIfInBounds (1955 + 1 + c * 2 + 1) nv) 93 (0, 0))) (l : Hist) :
    PAt w' x (X.setHist c l) (upd kv c nv) := by
  have e0 : ∀ i v, w.cell? ⟨x, i, none⟩ = some v → cs[i]? = some v := fun i v hv => by rw [cell_of_row _ _ _ _ _ _ hb] at hv; exact hv
  have far : ∀ i v, i ≠ 1955 + 1 + c * 2 + 1 → w.cell? ⟨x, i, none⟩ = some v → w'.cell? ⟨x, i, none⟩ = some v := fun i v h2 hv => by
    rw [cell_of_row _ _ _ _ _ _ hb', Array.getElem?_setIfInBounds_ne (fun e => h2 e.symm)]
    exact e0 i v hv
  have hsz : 1955 + 1 + c * 2 + 1 < cs.size := (Array.getElem?_eq_some_iff.mp (e0 _ _ (h.store.kept c hc))).1
  refine ⟨⟨_, hb'⟩, far _ _ (by omega) h.rules, far _ _ (by omega) h.room, far _ _ (by omega) h.opened, fun k hk => ?_, ⟨far _ _ (by omega) h.store.latest, fun d hd => far _ _ (by omega) (h.store.last d hd), fun d hd => ?_⟩⟩
  · have hs := h.ses k hk
    exact ⟨far _ _ (by omega) hs.num, far _ _ (by omega) hs.snap, far _ _ (by omega) hs.cnt, fun d hd => far _ _ (by omega) (hs.made d hd), fun d hd => far _ _ (by omega) (hs.filled d hd), fun d hd => far _ _ (by omega) (hs.val d hd), fun d hd => far _ _ (by omega) (hs.tm d hd), far _ _ (by omega) hs.mks, hs.ok⟩
  · by_cases e : d = c
    · subst e
      rw [upd_same, cell_of_row _ _ _ _ _ _ hb', Array.getElem?_setIfInBounds_self_of_lt hsz]
    · rw [upd_ne _ _ _ e]
      exact far _ _ (by omega) (h.store.kept d hd)

theorem ATo.comp {P : Asn} {f f1 : List Nat} {w w1 w2 : World} (s1 : ∀ x ∈ f1, x ∈ f ∨ w.heap.size ≤ x) (r1 : Fr f w w1) (k : ATo P f1 w1 w2) : ATo P f w w2 := by
  obtain ⟨f2, a2, n2, s2, r2⟩ := k
  refine ⟨f2, a2, n2, fun x hx => ?_, fr_then r1 r2 s1⟩
  rcases s2 x hx with h | h
  · exact s1 x h
  · exact .inr (Nat.le_trans r1.size h)

/-- The engine behind a sweep of one cell. -/
theorem hsweep_any (x : Nat) (X : PEng) (f : List Nat) (c : Nat) (t : Int) (w : World) (hc : c < 60) (h : PEngA x X w f) (hn : f.Nodup) (hl : ((X.hist c).length + 1) * 24 ≤ 140737488355328) :
    Calls Try.prog 64 #[.pointer (some ⟨x, 1955 + 1 + c * 2, none⟩), .int .i64 t] w fun e w' => e = .returned (.int .i64 (((X.hist c).length : Int) - ((sweptH (X.hist c) t).length : Int))) ∧ ATo (PEngA x (X.setHist c (sweptH (X.hist c) t))) f w w' := by
  have hwi := PEngA.within _ _ h
  obtain ⟨kv, hP, f2, hE, rfl⟩ := h
  obtain ⟨cs, hb⟩ := hP.block
  have hkc := hP.store.kept c hc
  have hlen1 : c < ((List.range 60).map kv).length := by simpa using hc
  have hlen2 : c < ((List.range 60).map X.hist).length := by simpa using hc
  obtain ⟨fa, g, fb, hh, e2, hput⟩ := EachA.focus HistA.framed hE c hlen1 hlen2
  subst e2
  simp only [List.getElem_map, List.getElem_range] at hh
  obtain ⟨hrow, rfl⟩ := hh
  obtain ⟨a, m, cp, hkv⟩ := own_slice hrow
  rw [hkv] at hrow hkc hn hwi
  have em := own_len hrow
  subst em
  have hxl := lt_of_block hb
  refine (hsweep_core x (1955 + 1 + c * 2) (X.hist c) t a cp cs 93 w hl hb hkc hrow).mono ?_
  rintro e w' ⟨rfl, v, w3, hown3, hg3, rfl⟩
  refine ⟨rfl, ?_⟩
  have hb3 : w3.heap[x]? = some (.cells cs 93 (0, 0)) := (hg3.block x hxl (by simp)).trans hb
  have hb4 : (w3.setCell ⟨x, 1955 + 1 + c * 2 + 1, none⟩ v).heap[x]? = some (.cells (cs.setIfInBounds (1955 + 1 + c * 2 + 1) v) 93 (0, 0)) := blk_setCell hb3 _ _
  have hP' := hP.setKept hb hc v hb4 (sweptH (X.hist c) t)
  have hfr4 : Fr [x] w (w3.setCell ⟨x, 1955 + 1 + c * 2 + 1, none⟩ v) := ((fr_none hg3).mono (fun k hk => by cases hk)).set (.inl (by simp)) _
  have hnew : ∀ k ∈ v.ownBlock.toList, w.heap.size ≤ k := fun k hk => by
    cases hv : v.ownBlock with
    | none => rw [hv] at hk; cases hk
    | some g2 =>
      rw [hv] at hk
      simp at hk
      rw [hk]
      exact (hown3.lt g2 hv).1
  have hn2 : ((x :: fa) ++ ((Value.slice a (X.hist c).length cp).ownBlock.toList ++ fb)).Nodup := by simpa using hn
  have hdis : ∀ k, k ∈ fa ∨ k ∈ fb → k ∉ [x] := by
    intro k hk hk2
    rw [List.mem_singleton] at hk2
    subst hk2
    rw [List.cons_append, List.nodup_cons] at hn2
    rcases hk with h | h
    · exact hn2.1 (by simp [h])
    · exact hn2.1 (by simp [h])
  have hH : HistA v (sweptH (X.hist c) t) (w3.setCell ⟨x, 1955 + 1 + c * 2 + 1, none⟩ v) v.ownBlock.toList := by
    refine ⟨?_, rfl⟩
    exact ownsRow_setCell_other (own_mono hown3 (Nat.zero_le _)) (own_ne_ty hown3 hb3 (by decide)) _
  have hE' := hput _ _ _ _ _ hH hfr4 (fun k hk => hdis k (.inl hk)) (fun k hk => hdis k (.inr hk))
  refine ⟨x :: (fa ++ (v.ownBlock.toList ++ fb)), ⟨_, hP', _, ?_, rfl⟩, ?_, ?_, ?_⟩
  · show EachA HistA ((List.range 60).map (upd kv c _)) ((List.range 60).map (upd X.hist c _)) _ _
    rw [range_map_upd, range_map_upd]
    exact hE'
  · have := nodup_swap (fa := x :: fa) (g := (Value.slice a (X.hist c).length cp).ownBlock.toList) (g' := v.ownBlock.toList) (fb := fb) (N := w.heap.size) hn2 (fun k hk => hwi k (by simpa using hk)) (by cases v.ownBlock <;> simp) (fun k hk => .inr (hnew k hk))
    simpa using this
  · intro k hk
    rw [hkv]
    have := hnew k
    simp only [List.mem_cons, List.mem_append] at hk ⊢
    grind
  · rw [hkv]
    exact hfr4.mono (fun k hk => .inl (by simp only [List.mem_cons, List.mem_append, List.not_mem_nil, or_false] at hk ⊢; grind))

/-- The engine while it is swept: the first k cells are done. -/
def sweepN (X : PEng) (t : Int) (k : Nat) : PEng := { X with hist := fun c => if c < k then sweptH (X.hist c) t else X.hist c }
theorem sweepN_succ (X : PEng) (t : Int) (k : Nat) : sweepN X t (k + 1) = (sweepN X t k).setHist k (sweptH ((sweepN X t k).hist k) t) := by
  unfold sweepN PEng.setHist
  congr 1
  funext c
  by_cases e : c = k
  · subst e; simp [upd]
  · have : (c < k + 1) = (c < k) := by apply propext; omega
    simp only [this, upd, e, if_false]
theorem sweepN_at (X : PEng) (t : Int) (k : Nat) : (sweepN X t k).hist k = X.hist k := by simp [sweepN]
theorem sweepN_all {x : Nat} {X : PEng} {t : Int} {w : World} {f : List Nat} (h : PEngA x (sweepN X t 60) w f) : PEngA x (X.swept t) w f :=
  h.congr rfl rfl rfl rfl (fun _ _ => rfl) (fun c hc => by simp [sweepN, PEng.swept, hc])
theorem sweepN_zero {x : Nat} {X : PEng} {t : Int} {w : World} {f : List Nat} (h : PEngA x X w f) : PEngA x (sweepN X t 0) w f :=
  h.congr rfl rfl rfl rfl (fun _ _ => rfl) (fun c hc => by simp [sweepN])
/-- How many versions a sweep has dropped behind k cells. -/
def dropN (X : PEng) (t : Int) (k : Nat) : Int := (keptN X k : Int) - (keptN (X.swept t) k : Int)
theorem dropN_succ (X : PEng) (t : Int) (k : Nat) : dropN X t (k + 1) = dropN X t k + (((X.hist k).length : Int) - ((sweptH (X.hist k) t).length : Int)) := by
  have h1 : keptN X (k + 1) = keptN X k + (X.hist k).length := rfl
  have h2 : keptN (X.swept t) (k + 1) = keptN (X.swept t) k + (sweptH (X.hist k) t).length := rfl
  unfold dropN
  omega
theorem dropN_bd (X : PEng) (t : Int) (k : Nat) : 0 ≤ dropN X t k ∧ dropN X t k ≤ keptN X k := by
  have := kept_swept_le X t k
  unfold dropN
  omega

set_option maxRecDepth 20000 in
set_option maxHeartbeats 2000000 in
theorem ssweep_any (x : Nat) (X : PEng) (t : Int) (f : List Nat) (w : World) (h : PEngA x X w f) (hn : f.Nodup) (hl : ∀ c, c < 60 → ((X.hist c).length + 1) * 24 ≤ 140737488355328) (hm : keptN X 60 ≤ 9223372036854775807) :
    Calls Try.prog 44 #[.pointer (some ⟨x, 1955, none⟩), .int .i64 t] w fun e w' => e = .returned (.int .i64 (dropN X t 60)) ∧ ATo (PEngA x (X.swept t)) f w w' := by
  have HST : Hid (ATo (PEngA x (sweepN X t 0)) f w w) := hid ⟨f, sweepN_zero h, hn, fun _ hx => .inl hx, Fr.refl _ _⟩
  have HHL := hid hl
  have HMO : Hid (∀ k, k ≤ 60 → 0 ≤ dropN X t k ∧ dropN X t k ≤ 9223372036854775807) := hid (fun k hk => by
    have := dropN_bd X t k
    have := keptN_mono X hk
    omega)
  have hxl : x < w.heap.size := PEngA.within _ _ h x (by obtain ⟨_, _, _, _, rfl⟩ := h; simp)
  clear h hn hl hm
  go_enter Try.func44, Try.ntmps44
  go_wp2_with fail
  go_loopw [5, 6] (fun d i wr => ∃ k : Nat, k ≤ 60 ∧ i = .int .i64 k ∧ d = .int .i64 (dropN X t k) ∧ ATo (PEngA x (sweepN X t k)) f w wr) (fun _ i _ => 60 - (intOf i).toNat)
  case atStart => exact ⟨0, by omega, rfl, rfl, HST.out⟩
  case round =>
    obtain ⟨k, hk, rfl, rfl, hat⟩ := hrel
    have HATO := hid hat
    clear hat
    by_cases hlt : k < 60
    · have HCALL : Hid (Calls Try.prog 64 #[.pointer (some ⟨x, 1955 + 1 + k * 2, none⟩), .int .i64 t] wr fun e w' => e = .returned (.int .i64 (((X.hist k).length : Int) - ((sweptH (X.hist k) t).length : Int))) ∧ ATo (PEngA x (sweepN X t (k + 1))) f w w') := hid (by
        obtain ⟨f1, a1, n1, s1, r1⟩ := HATO.out
        refine (hsweep_any x (sweepN X t k) f1 k t wr hlt a1 n1 (by rw [sweepN_at]; exact HHL.out k hlt)).mono ?_
        rintro e w' ⟨rfl, ht⟩
        rw [← sweepN_succ] at ht
        exact ⟨by rw [sweepN_at], ATo.comp s1 r1 ht⟩)
      have HSU := hid (dropN_succ X t k)
      have hm0 := HMO.out k hk
      have hm1 := HMO.out (k + 1) (by omega)
      rw [HSU.out] at hm1
      have hxr : x < wr.heap.size := by
        obtain ⟨_, _, _, _, r1⟩ := HATO.out
        exact Nat.lt_of_lt_of_le hxl r1.size
      obtain ⟨d0, hd0⟩ : ∃ d0, d0 = dropN X t k := ⟨_, rfl⟩
      obtain ⟨d1, hd1⟩ : ∃ d1, d1 = ((X.hist k).length : Int) - ((sweptH (X.hist k) t).length : Int) := ⟨_, rfl⟩
      rw [← hd0, ← hd1] at hm1 HSU
      rw [← hd1] at HCALL
      rw [← hd0] at hm0 ⊢
      clear hd0 hd1
      go_wp2_with fail
      go_at_call 64
      refine HCALL.out.mono ?_
      rintro e w' ⟨rfl, ht⟩
      have HT := hid ht
      clear ht
      go_wp2_with fail
      go_roundw
      case rel => exact ⟨k + 1, by omega, by go_num, by rw [HSU.out], HT.out⟩
      case measure => simp [intOf]; omega
    · have e : k = 60 := by omega
      subst e
      have HF : Hid (ATo (PEngA x (X.swept t)) f w wr) := hid (by
        obtain ⟨f1, a1, n1, s1, r1⟩ := HATO.out
        exact ⟨f1, sweepN_all a1, n1, s1, r1⟩)
      go_wp2_with fail
      go_ret
      exact ⟨rfl, HF.out⟩

set_option maxRecDepth 20000 in
set_option maxHeartbeats 1000000 in
theorem oldest_any (x : Nat) (X : PEng) (kv : Nat → Value) (w : World) (h : PAt w x X kv) :
    Calls Try.prog 43 #[.pointer (some ⟨x, 0, none⟩)] w fun e w' => e = .returned (.int .i64 (oldN X 8)) ∧ w' = w := by
  have HN : Hid (∀ k, k < 8 → w.cell? ⟨x, 3 + k * 244, none⟩ = some (.int .i64 (X.ses k).num) ∧ w.cell? ⟨x, 3 + k * 244 + 1, none⟩ = some (.int .i64 (X.ses k).snap)) := hid (fun k hk => ⟨(h.ses k hk).num, (h.ses k hk).snap⟩)
  have c0 : w.cell? ⟨x, 1955, none⟩ = some (.int .i64 (oldN X 0)) := h.store.latest
  obtain ⟨o0, ho0⟩ : ∃ o0, o0 = oldN X 0 := ⟨_, rfl⟩
  rw [← ho0] at c0
  have HO0 := hid ho0
  clear h ho0
  go_enter Try.func43, Try.ntmps43
  go_wp2_with fail
  go_loop [3, 4] (fun t i => ∃ k : Nat, k ≤ 8 ∧ i = .int .i64 k ∧ t = .int .i64 (oldN X k)) (fun _ i => 8 - (intOf i).toNat)
  case atStart => exact ⟨0, by omega, rfl, by rw [HO0.out]⟩
  case round =>
    obtain ⟨k, hk, rfl, rfl⟩ := hrel
    by_cases hlt : k < 8
    · obtain ⟨d0, d1⟩ := HN.out k hlt
      have HSU : Hid (oldN X (k + 1) = if 0 < (X.ses k).num ∧ (X.ses k).snap < oldN X k then (X.ses k).snap else oldN X k) := hid rfl
      obtain ⟨nn, hnn⟩ : ∃ nn, nn = (X.ses k).num := ⟨_, rfl⟩
      obtain ⟨sn, hsn⟩ : ∃ sn, sn = (X.ses k).snap := ⟨_, rfl⟩
      obtain ⟨od, hod⟩ : ∃ od, od = oldN X k := ⟨_, rfl⟩
      rw [← hnn, ← hsn, ← hod] at HSU
      rw [← hnn] at d0
      rw [← hsn] at d1
      rw [← hod]
      clear hnn hsn hod
      by_cases h1 : 0 < nn
      · by_cases h2 : sn < od
        · have HS2 : Hid (oldN X (k + 1) = sn) := hid (by rw [HSU.out, if_pos ⟨h1, h2⟩])
          go_wp2
          go_round
          case rel => exact ⟨k + 1, by omega, by go_num, by rw [HS2.out]⟩
          case measure => simp [intOf]; omega
        · have HS2 : Hid (oldN X (k + 1) = od) := hid (by rw [HSU.out, if_neg (fun h => h2 h.2)])
          go_wp2
          go_round
          case rel => exact ⟨k + 1, by omega, by go_num, by rw [HS2.out]⟩
          case measure => simp [intOf]; omega
      · have HS2 : Hid (oldN X (k + 1) = od) := hid (by rw [HSU.out, if_neg (fun h => h1 h.1)])
        go_wp2
        go_round
        case rel => exact ⟨k + 1, by omega, by go_num, by rw [HS2.out]⟩
        case measure => simp [intOf]; omega
    · have e : k = 8 := by omega
      subst e
      go_wp2
      go_ret
      exact ⟨rfl, rfl⟩

set_option maxRecDepth 20000 in
set_option maxHeartbeats 1000000 in
theorem psweep_any (x : Nat) (X : PEng) (f : List Nat) (w : World) (h : PEngA x X w f) (hn : f.Nodup) (hl : ∀ c, c < 60 → ((X.hist c).length + 1) * 24 ≤ 140737488355328) (hm : keptN X 60 ≤ 9223372036854775807) :
    Calls Try.prog 24 #[.pointer (some ⟨x, 0, none⟩)] w fun e w' => e = .returned (.int .i64 (psweepF X).1) ∧ ATo (PEngA x (psweepF X).2) f w w' := by
  have HO : Hid (Calls Try.prog 43 #[.pointer (some ⟨x, 0, none⟩)] w fun e w' => e = .returned (.int .i64 (oldN X 8)) ∧ w' = w) := hid (by
    obtain ⟨kv, hk⟩ := h
    exact oldest_any x X kv w hk.1)
  have HS := hid (ssweep_any x X (oldN X 8) f w h hn hl hm)
  unfold psweepF
  have e1 : (keptN X 60 : Int) - (keptN (X.swept (oldN X 8)) 60 : Int) = dropN X (oldN X 8) 60 := rfl
  rw [e1]
  clear h hn hl hm e1
  generalize oldN X 8 = od at HO HS ⊢
  generalize dropN X od 60 = dr at HS ⊢
  go_enter Try.func24, Try.ntmps24
  go_wp2_with fail
  go_at_call 43
  refine HO.out.mono ?_
  rintro e w1 ⟨rfl, rfl⟩
  go_wp2_with fail
  go_at_call 44
  refine HS.out.mono ?_
  rintro e w2 ⟨rfl, ht⟩
  have HT := hid ht
  clear ht
  go_wp2_with fail
  go_ret
  exact ⟨rfl, HT.out⟩

set_option maxRecDepth 20000 in
set_option maxHeartbeats 1000000 in
theorem pkept_any (x : Nat) (X : PEng) (f : List Nat) (w : World) (h : PEngA x X w f) (hm : keptN X 60 ≤ 9223372036854775807) :
    Calls Try.prog 25 #[.pointer (some ⟨x, 0, none⟩)] w fun e w' => e = .returned (.int .i64 (keptN X 60 : Nat)) ∧ w' = w := by
  have HK : Hid (Calls Try.prog 45 #[.pointer (some ⟨x, 1955, none⟩)] w fun e w' => e = .returned (.int .i64 (keptN X 60 : Nat)) ∧ w' = w) := hid (by
    obtain ⟨kv, hk⟩ := h
    exact kept_any x 1955 X kv w hk.1.store hk.rows hm)
  clear h hm
  generalize keptN X 60 = kn at HK ⊢
  go_enter Try.func25, Try.ntmps25
  go_wp2_with fail
  go_at_call 45
  refine HK.out.mono ?_
  rintro e w1 ⟨rfl, rfl⟩
  go_wp2_with fail
  go_ret
  exact ⟨rfl, rfl⟩

set_option maxRecDepth 20000 in
set_option maxHeartbeats 1000000 in
/-- Is there room, with a sweep if need be? -/
theorem hasroom_any (x : Nat) (X : PEng) (f : List Nat) (m : Nat) (w : World) (h : PEngA x X w f) (hn : f.Nodup) (hl : ∀ c, c < 60 → ((X.hist c).length + 1) * 24 ≤ 140737488355328) (hm : keptN X 60 + m ≤ 9223372036854775807) :
    Calls Try.prog 55 #[.pointer (some ⟨x, 0, none⟩), .int .i64 m] w fun e w' => e = .returned (.bool (roomF X m).1) ∧ ATo (PEngA x (roomF X m).2) f w w' := by
  have HK : Hid (Calls Try.prog 45 #[.pointer (some ⟨x, 1955, none⟩)] w fun e w' => e = .returned (.int .i64 (keptN X 60 : Nat)) ∧ w' = w) := hid (by
    obtain ⟨kv, hk⟩ := h
    exact kept_any x 1955 X kv w hk.1.store hk.rows (by omega))
  have HS := hid (psweep_any x X f w h hn hl (by omega))
  have HPA := hid h
  have c1 : w.cell? ⟨x, 1, none⟩ = some (.int .i64 X.room) := by
    obtain ⟨kv, hk⟩ := h
    exact hk.1.room
  have HC2 : Hid (∀ w', ATo (PEngA x (psweepF X).2) f w w' → w'.cell? ⟨x, 1, none⟩ = some (.int .i64 X.room)) := hid (fun w' ht => by
    obtain ⟨f', ⟨kv, hk⟩, _⟩ := ht
    exact hk.1.room)
  have hle := kept_swept_le X (oldN X 8) 60
  have HRF : Hid (roomF X m = if ((keptN X 60 + m : Nat) : Int) ≤ X.room then (true, X) else (decide (((keptN (X.swept (oldN X 8)) 60 + m : Nat) : Int) ≤ X.room), X.swept (oldN X 8))) := hid rfl
  have HPS : Hid ((psweepF X).1 = (keptN X 60 : Int) - (keptN (X.swept (oldN X 8)) 60 : Int)) := hid rfl
  have HP2 : Hid ((psweepF X).2 = X.swept (oldN X 8)) := hid rfl
  rw [HPS.out] at HS
  generalize keptN (X.swept (oldN X 8)) 60 = k2 at HS hle HRF
  generalize X.swept (oldN X 8) = Y at HRF HP2
  rw [HP2.out] at HS HC2
  generalize hkn : keptN X 60 = kn at HK HS hm hle HRF
  generalize hrm : X.room = rm at c1 HC2 HRF
  generalize roomF X m = RF at HRF ⊢
  clear h hkn hrm hl
  by_cases hr : ((kn + m : Nat) : Int) ≤ rm
  · have HR1 : Hid (RF = (true, X)) := hid (by rw [HRF.out, if_pos hr])
    have hr' : (kn : Int) + (m : Int) ≤ rm := by omega
    clear HRF
    go_enter Try.func55, Try.ntmps55
    go_wp2_with fail
    go_at_call 45
    refine HK.out.mono ?_
    rintro e w' ⟨rfl, rfl⟩
    go_wp2
    go_ret
    rw [HR1.out]
    exact ⟨rfl, ATo.refl HPA.out hn (Fr.refl _ _)⟩
  · have hr' : ¬ (kn : Int) + (m : Int) ≤ rm := by omega
    by_cases hr2 : ((k2 + m : Nat) : Int) ≤ rm
    · have HR1 : Hid (RF = (true, Y)) := hid (by rw [HRF.out, if_neg hr, decide_eq_true hr2])
      clear HRF
      go_enter Try.func55, Try.ntmps55
      go_wp2_with fail
      go_at_call 45
      refine HK.out.mono ?_
      rintro e w' ⟨rfl, rfl⟩
      go_wp2_with fail
      go_at_call 24
      refine HS.out.mono ?_
      rintro e w2 ⟨rfl, ht⟩
      have c2 := HC2.out _ ht
      have HT := hid ht
      clear ht
      have q2 : (kn : Int) - ((kn : Int) - (k2 : Int)) + (m : Int) ≤ rm := by omega
      go_wp2
      go_ret
      rw [HR1.out]
      exact ⟨rfl, HT.out⟩
    · have HR1 : Hid (RF = (false, Y)) := hid (by rw [HRF.out, if_neg hr, decide_eq_false hr2])
      clear HRF
      go_enter Try.func55, Try.ntmps55
      go_wp2_with fail
      go_at_call 45
      refine HK.out.mono ?_
      rintro e w' ⟨rfl, rfl⟩
      go_wp2_with fail
      go_at_call 24
      refine HS.out.mono ?_
      rintro e w2 ⟨rfl, ht⟩
      have c2 := HC2.out _ ht
      have HT := hid ht
      clear ht
      have q2 : ¬ (kn : Int) - ((kn : Int) - (k2 : Int)) + (m : Int) ≤ rm := by omega
      have Q2 := hid q2
      clear q2
      go_wp2
      go_ret
      rw [HR1.out]
      exact ⟨by show Ending.returned (Value.bool (decide _)) = _; rw [decide_eq_false (Int.not_le.mpr Q2.out)], HT.out⟩

end Go.Proofs.Ythlhbjnkohinmaa

/- The program's engine in memory: Commit, where there may be no room. -/
namespace Go.Proofs.Ythlhbjnkohinmaa
open Go.RowKit

theorem room_same (X : PEng) (m : Nat) : (roomF X m).2.latest = X.latest ∧ (roomF X m).2.ses = X.ses ∧ (roomF X m).2.src = X.src ∧ ∀ c, ((roomF X m).2.hist c).length ≤ (X.hist c).length := by
  unfold roomF
  split
  · exact ⟨rfl, rfl, rfl, fun _ => Nat.le_refl _⟩
  · exact ⟨rfl, rfl, rfl, fun c => swept_le _ _⟩

set_option maxRecDepth 20000 in
set_option maxHeartbeats 2000000 in
theorem pcommitG_any (x : Nat) (X : PEng) (f : List Nat) (n : Int) (w : World) (h : PEngA x X w f) (hn : f.Nodup) (hlat : 0 ≤ X.latest ∧ X.latest < 9223372036854775807) (hl : ∀ c, c < 60 → ((X.hist c).length + 1) * 24 ≤ 140737488355328) (hm : keptN X 60 + 60 ≤ 9223372036854775807) :
    Calls Try.prog 36 #[.pointer (some ⟨x, 0, none⟩), .int .i64 n] w fun e w' => e = .returned (.tuple #[.int .i64 (pcommitG X n).1.1, .int .i64 (pcommitG X n).1.2]) ∧ ATo (PEngA x (pcommitG X n).2) f w w' := by
  have HPA := hid h
  obtain ⟨kv, hk0⟩ := h
  have HF := hid (findp_any x X n w hk0.1.ses)
  unfold pcommitG
  cases hf : findP X n with
  | none =>
    rw [hf] at HF
    clear hf hk0
    go_enter Try.func36, Try.ntmps36
    go_wp2_with fail
    go_at_call 31
    refine HF.out.mono ?_
    rintro e w' ⟨rfl, rfl⟩
    simp only [placeV]
    go_wp2
    go_ret2
    exact ⟨rfl, ATo.refl HPA.out hn (Fr.refl _ _)⟩
  | some k =>
    rw [hf] at HF
    have hk : k < 8 := by
      unfold findP at hf
      split at hf
      · cases hf
      · exact (numberedP_some hf).1
    clear hf
    simp only []
    have hP := hk0.1
    have hS0 := hP.ses k hk
    obtain ⟨S, hS⟩ : ∃ S, S = X.ses k := ⟨_, rfl⟩
    rw [← hS] at hS0 ⊢
    obtain ⟨RES, hRES⟩ : ∃ RES : (Int × Int) × PEng, RES = (if hasW S then (if clash X S then ((0, 10), X.setSes k .zero) else (if (roomF X (writN S 60)).1 then ((X.latest + 1, 0), ((roomF X (writN S 60)).2.setSes k .zero).commit S) else ((0, 11), (roomF X (writN S 60)).2))) else ((0, 0), X.setSes k .zero)) := ⟨_, rfl⟩
    rw [← hRES]
    have HRES := hid hRES
    have HHW := hid (hasw_any x (3 + k * 244) S w hS0)
    have HWN := hid (fun W (hW : Fr [] w W) => swritten_any x (3 + k * 244) S W ((hP.fr hW (by simp)).ses k hk |> fun h => by rw [← hS] at h; exact h))
    have hwn60 := writN_le S 60
    have HHR := hid (fun W (hW : Fr [] w W) => hasroom_any x X f (writN S 60) W (PEngA.framed _ _ HPA.out hW (by simp)) hn hl (by omega))
    have HX1 := hid (room_same X (writN S 60))
    have HCON : Hid (∀ W, Fr [] w W → Calls Try.prog 53 #[.pointer (some ⟨x, 1955, none⟩), .agg (wrsCells S.wr S.tm).toArray, .int .i64 S.snap] W fun e w'' => e = .returned (.bool (clash X S)) ∧ W.grownBy w'' none) := hid (fun W hW => conflicts_any x 1955 X kv S W (hP.fr hW (by simp)).store)
    have HHL1 : Hid (∀ c, c < 60 → (((roomF X (writN S 60)).2.hist c).length + 1) * 24 ≤ 140737488355328) := hid (fun c hc => by have := HX1.out.2.2.2 c; have := hl c hc; omega)
    obtain ⟨X1, hX1⟩ : ∃ X1, X1 = (roomF X (writN S 60)).2 := ⟨_, rfl⟩
    obtain ⟨rb, hrb⟩ : ∃ rb, rb = (roomF X (writN S 60)).1 := ⟨_, rfl⟩
    rw [← hX1, ← hrb] at HRES HHR
    rw [← hX1] at HX1 HHL1
    have HL1 : Hid (X1.latest = X.latest) := hid HX1.out.1
    have HCOM : Hid (∀ W f', PEngA x X1 W f' → f'.Nodup → Calls Try.prog 56 #[.pointer (some ⟨x, 1955, none⟩), .agg (wrsCells S.wr S.tm).toArray] W fun e w'' => e = .returned (.int .i64 (X.latest + 1)) ∧ ATo (PEngA x (X1.commit S)) f' W w'') := hid (fun W f' hW hf' => by
      have := scommit_any x X1 S f' W hW hf' (by rw [HL1.out]; exact hlat) HHL1.out
      rw [HL1.out] at this
      exact this)
    have HZ : Hid (∀ W, Fr [] w W → (storeCells ⟨x, 3 + k * 244, none⟩ Try.zeroCells84.toList 0).run Try.prog W = .ok () (W.setCells x (3 + k * 244) Try.zeroCells84.toList) ∧ ATo (PEngA x (X.setSes k .zero)) f w (W.setCells x (3 + k * 244) Try.zeroCells84.toList)) := hid (fun W hW => by
      obtain ⟨a, b⟩ := pzero hk (PEngA.framed _ _ HPA.out hW (by simp)) hn
      exact ⟨a, b.before hW⟩)
    have HSE : Hid (∀ X' W f', X'.ses = X.ses → PEngA x X' W f' → W.rangeAt x (3 + k * 244 + 3) (wrsCells S.wr S.tm)) := hid (fun X' W f' he hT => by
      obtain ⟨kv', a⟩ := hT
      have h1 := (a.1.ses k hk).writes
      rw [he, ← hS] at h1
      exact h1)
    have HES : Hid (X1.ses = X.ses) := hid HX1.out.2.1
    have HEC : Hid ((X1.commit S).ses = X.ses) := hid HX1.out.2.1
    have hsn0 := hS0.snap
    have hrw0 := hS0.writes
    have hxl := hP.lt
    clear hRES hk0 hP hS hS0 hlat hl hm hX1 hrb
    go_enter Try.func36, Try.ntmps36
    go_wp2_with fail
    go_at_call 31
    refine HF.out.mono ?_
    rintro e w' ⟨rfl, rfl⟩
    simp only [placeV]
    go_wp2_with fail
    go_at_call 52
    refine HHW.out.mono ?_
    rintro e w3 ⟨rfl, rfl⟩
    cases hhw : hasW S with
    | false =>
      have HRE : Hid (RES = ((0, 0), X.setSes k .zero)) := hid (by rw [HRES.out, hhw]; rfl)
      have hst := (HZ.out _ (Fr.refl _ _)).1
      clear hhw
      go_wp2_with fail
      go_ret2
      rw [HRE.out]
      exact ⟨rfl, (HZ.out _ (Fr.refl _ _)).2⟩
    | true =>
      have hu := Try.underlying79
      have hlen2 := wrsCells_len S.wr S.tm
      have hinf : (Try.prog.info? 79).map (·.size) = some (wrsCells S.wr S.tm).length := info_wrs.trans (by rw [hlen2])
      have hR2 : RES = if clash X S then ((0, 10), X.setSes k .zero) else (if rb then ((X.latest + 1, 0), (X1.setSes k .zero).commit S) else ((0, 11), X1)) := by rw [HRES.out, hhw]; rfl
      have HR2 := hid hR2
      obtain ⟨sn, hsn'⟩ : ∃ sn, sn = S.snap := ⟨_, rfl⟩
      rw [← hsn'] at hsn0 HCON
      obtain ⟨wl, hwl⟩ : ∃ wl, wl = wrsCells S.wr S.tm := ⟨_, rfl⟩
      rw [← hwl] at hrw0 HCON HCOM HSE hinf hlen2
      obtain ⟨lt1, hlt1⟩ : ∃ lt1, lt1 = X.latest + 1 := ⟨_, rfl⟩
      rw [← hlt1] at HCOM HR2
      obtain ⟨cl, hcl⟩ : ∃ cl, cl = clash X S := ⟨_, rfl⟩
      rw [← hcl] at HCON HR2
      obtain ⟨wn, hwn⟩ : ∃ wn, wn = writN S 60 := ⟨_, rfl⟩
      rw [← hwn] at HWN HHR
      clear hhw hsn' hwl hlt1 hR2 hcl hwn
      go_wp2_with fail
      go_region_held3 (fun W => W.rangeAt x (3 + k * 244 + 3) wl ∧ W.cell? ⟨x, 3 + k * 244 + 1, none⟩ = some (.int .i64 sn)) (first | (exact ⟨t1, t2⟩) | (simp only [World.rangeAt_drew, World.cell?_drew]; exact ⟨hrw0, hsn0⟩) | go_keep) (first
        | (go_at_call 53
           refine (HCON.out _ (fr_drew (Fr.refl _ _))).mono ?_
           rintro e w4 ⟨rfl, hg4⟩
           have HG4 := hid (fr_none hg4)
           have t1 : w4.rangeAt x (3 + k * 244 + 3) wl := fun j v hv => grown_cell hg4 (hrw0 j v hv)
           have t2 := grown_cell hg4 hsn0
           clear hg4))
      cases cl with
      | true =>
        have hst := (HZ.out _ ((fr_drew (Fr.refl _ _)).trans HG4.out)).1
        go_wp2_with fail
        go_ret2
        rw [show RES = ((0, 10), X.setSes k .zero) from HR2.out]
        exact ⟨rfl, (HZ.out _ ((fr_drew (Fr.refl _ _)).trans HG4.out)).2⟩
      | false =>
        have HW4 := hid ((fr_drew (Fr.refl [] w3)).trans HG4.out)
        go_wp2_with fail
        go_at_call 54
        refine (HWN.out _ HW4.out).mono ?_
        rintro e w4' ⟨rfl, rfl⟩
        go_wp2_with fail
        go_at_call 55
        refine (HHR.out _ HW4.out).mono ?_
        rintro e w5 ⟨rfl, ht5⟩
        have HT5 := hid ht5
        obtain ⟨f5, a5, n5, s5, r5⟩ := ht5
        have t5 : w5.rangeAt x (3 + k * 244 + 3) wl := HSE.out X1 w5 f5 HES.out a5
        have HA5 := hid a5
        have HS5 := hid s5
        have HR5 := hid r5
        clear t1 t2 a5 s5 r5
        cases rb with
        | false =>
          go_wp2_with fail
          go_ret2
          rw [show RES = ((0, 11), X1) from HR2.out]
          exact ⟨rfl, HT5.out.before HW4.out⟩
        | true =>
          have HC5 : Hid (∀ W, Fr [] w5 W → Calls Try.prog 56 #[.pointer (some ⟨x, 1955, none⟩), .agg wl.toArray] W fun e w'' => e = .returned (.int .i64 lt1) ∧ ATo (PEngA x (X1.commit S)) f5 W w'') := hid (fun W hW => HCOM.out W f5 (PEngA.framed _ _ HA5.out hW (by simp)) n5)
          go_wp2_with fail
          go_region_held3 (fun W => W.rangeAt x (3 + k * 244 + 3) wl) (first | (exact t3) | (simp only [World.rangeAt_drew]; exact t5) | go_keep) (first
            | (go_at_call 56
               refine (HC5.out _ (fr_drew (Fr.refl _ _))).mono ?_
               rintro e w6 ⟨rfl, ht6⟩
               have HT6 := hid ht6
               obtain ⟨f6, a6, n6, _, _⟩ := ht6
               have t3 := HSE.out (X1.commit S) w6 f6 HEC.out a6
               have HST := hid (pzero hk a6 n6).1
               clear a6))
          have hst := HST.out
          go_wp2_with fail
          go_ret2
          rw [show RES = ((lt1, 0), (X1.setSes k .zero).commit S) from HR2.out]
          exact ⟨rfl, ((HT6.out.then (fun f' a n => (pzero hk a n).2)).before (fr_drew (Fr.refl _ _)) |> fun h => ATo.comp HS5.out HR5.out h).before HW4.out⟩

end Go.Proofs.Ythlhbjnkohinmaa

/- The program's variables: what a term of a test is; a test. -/
namespace Go.Proofs.Ythlhbjnkohinmaa
open Go.RowKit

/-- What a digit or a variable is, as the program keeps it. -/
def pofE (e : Env) (t : Int) : Int := ofE 0 e t
abbrev digO (e : Env) : Obj := .cells #[.bool (dB e 0), .bool (dB e 1), .bool (dB e 2), .bool (dB e 3), .int .i64 (dI e 0), .int .i64 (dI e 1), .int .i64 (dI e 2), .int .i64 (dI e 3)] 136

set_option maxRecDepth 20000 in
set_option maxHeartbeats 2000000 in
theorem pof_core (b0 b1 b2 b3 : Bool) (d0 d1 d2 d3 k v r : Int) (w : World) (h : (k = 1 ∧ r = v) ∨ (k = 2 ∧ v = 0 ∧ r = d0) ∨ (k = 2 ∧ v = 1 ∧ r = d1) ∨ (k = 2 ∧ v = 2 ∧ r = d2) ∨ (k = 2 ∧ v = 3 ∧ r = d3)) :
    Calls Try.prog 96 #[.agg #[.bool b0, .bool b1, .bool b2, .bool b3, .int .i64 d0, .int .i64 d1, .int .i64 d2, .int .i64 d3], .agg #[.int .i64 k, .int .i64 v]] w fun e w' => e = .returned (.int .i64 r) ∧ w' = (w.alloc (.cells #[.bool b0, .bool b1, .bool b2, .bool b3, .int .i64 d0, .int .i64 d1, .int .i64 d2, .int .i64 d3] 136)).alloc (.cells #[.int .i64 k, .int .i64 v] 161) := by
  rcases h with ⟨rfl, rfl⟩ | ⟨rfl, rfl, rfl⟩ | ⟨rfl, rfl, rfl⟩ | ⟨rfl, rfl, rfl⟩ | ⟨rfl, rfl, rfl⟩
  all_goals
    go_enter Try.func96, Try.ntmps96
    go_wp2_with fail
    go_ret
    exact ⟨rfl, rfl⟩
theorem sim_cases {t : Int} (h : simB t = true) : digB t = true ∨ (digB t = false ∧ (t = 119 ∨ t = 120 ∨ t = 121 ∨ t = 122)) := by
  cases hd : digB t with
  | true => exact .inl rfl
  | false =>
    have hl : letB t = true := by simpa [simB, hd] using h
    simp only [letB, decide_eq_true_eq] at hl
    right
    exact ⟨rfl, by omega⟩
theorem pof_case (e : Env) (t : Int) (h : simB t = true) : (opK t = 1 ∧ ofE 0 e t = opV t) ∨ (opK t = 2 ∧ opV t = 0 ∧ ofE 0 e t = dI e 0) ∨ (opK t = 2 ∧ opV t = 1 ∧ ofE 0 e t = dI e 1) ∨ (opK t = 2 ∧ opV t = 2 ∧ ofE 0 e t = dI e 2) ∨ (opK t = 2 ∧ opV t = 3 ∧ ofE 0 e t = dI e 3) := by
  rcases sim_cases h with hd | ⟨_, rfl | rfl | rfl | rfl⟩
  · left
    exact ⟨by simp [opK, hd], by simp [opV, ofE, hd]⟩
  · exact .inr (.inl ⟨rfl, rfl, rfl⟩)
  · exact .inr (.inr (.inl ⟨rfl, rfl, rfl⟩))
  · exact .inr (.inr (.inr (.inl ⟨rfl, rfl, rfl⟩)))
  · exact .inr (.inr (.inr (.inr ⟨rfl, rfl, rfl⟩)))

set_option maxRecDepth 20000 in
set_option maxHeartbeats 4000000 in
theorem pholds_core (b0 b1 b2 b3 : Bool) (d0 d1 d2 d3 k c g p1 p2 q1 q2 x y : Int) (w : World) (hg : g = 60 ∨ g = 61 ∨ g = 35)
    (H1 : Hid (∀ W, Calls Try.prog 96 #[.agg #[.bool b0, .bool b1, .bool b2, .bool b3, .int .i64 d0, .int .i64 d1, .int .i64 d2, .int .i64 d3], .agg #[.int .i64 p1, .int .i64 p2]] W fun e w' => e = .returned (.int .i64 x) ∧ w' = (W.alloc (.cells #[.bool b0, .bool b1, .bool b2, .bool b3, .int .i64 d0, .int .i64 d1, .int .i64 d2, .int .i64 d3] 136)).alloc (.cells #[.int .i64 p1, .int .i64 p2] 161)))
    (H2 : Hid (∀ W, Calls Try.prog 96 #[.agg #[.bool b0, .bool b1, .bool b2, .bool b3, .int .i64 d0, .int .i64 d1, .int .i64 d2, .int .i64 d3], .agg #[.int .i64 q1, .int .i64 q2]] W fun e w' => e = .returned (.int .i64 y) ∧ w' = (W.alloc (.cells #[.bool b0, .bool b1, .bool b2, .bool b3, .int .i64 d0, .int .i64 d1, .int .i64 d2, .int .i64 d3] 136)).alloc (.cells #[.int .i64 q1, .int .i64 q2] 161))) :
    Calls Try.prog 87 #[.agg #[.bool b0, .bool b1, .bool b2, .bool b3, .int .i64 d0, .int .i64 d1, .int .i64 d2, .int .i64 d3], .agg #[.int .i64 k, .int .i64 c, .int .u8 g, .int .i64 p1, .int .i64 p2, .int .i64 q1, .int .i64 q2]] w fun e w' => e = .returned (.bool (tstB g x y)) ∧ w.grownBy w' none := by
  obtain ⟨r, hr⟩ : ∃ r, r = tstB g x y := ⟨_, rfl⟩
  rw [← hr]
  have HR := hid hr
  clear hr
  rcases hg with rfl | rfl | rfl
  · have HR2 : Hid (r = decide (x < y)) := hid (by rw [HR.out]; simp [tstB])
    go_enter Try.func87, Try.ntmps87
    go_wp2_with fail
    go_at_call 96
    refine (H1.out _).mono ?_
    rintro e w1 ⟨rfl, rfl⟩
    go_wp2_with fail
    go_at_call 96
    refine (H2.out _).mono ?_
    rintro e w2 ⟨rfl, rfl⟩
    go_wp2_with fail
    go_ret
    exact ⟨by rw [HR2.out]; rfl, grown_alloc (grown_alloc (grown_alloc (grown_alloc (grown_alloc (grown_alloc (grown_refl _ _) _) _) _) _) _) _⟩
  · have HR2 : Hid (r = (x == y)) := hid (by rw [HR.out]; simp [tstB]; by_cases h : x = y <;> simp [h])
    go_enter Try.func87, Try.ntmps87
    go_wp2_with fail
    go_at_call 96
    refine (H1.out _).mono ?_
    rintro e w1 ⟨rfl, rfl⟩
    go_wp2_with fail
    go_at_call 96
    refine (H2.out _).mono ?_
    rintro e w2 ⟨rfl, rfl⟩
    go_wp2_with fail
    go_ret
    exact ⟨by rw [HR2.out]; rfl, grown_alloc (grown_alloc (grown_alloc (grown_alloc (grown_alloc (grown_alloc (grown_refl _ _) _) _) _) _) _) _⟩
  · have HR2 : Hid (r = (x != y)) := hid (by rw [HR.out]; simp [tstB]; by_cases h : x = y <;> simp [h])
    go_enter Try.func87, Try.ntmps87
    go_wp2_with fail
    go_at_call 96
    refine (H1.out _).mono ?_
    rintro e w1 ⟨rfl, rfl⟩
    go_wp2_with fail
    go_at_call 96
    refine (H2.out _).mono ?_
    rintro e w2 ⟨rfl, rfl⟩
    go_wp2_with fail
    go_ret
    exact ⟨by rw [HR2.out]; rfl, grown_alloc (grown_alloc (grown_alloc (grown_alloc (grown_alloc (grown_alloc (grown_refl _ _) _) _) _) _) _) _⟩

/-- A test, as a value. -/
def testV (k c g t1 t2 : Int) : Value := .agg #[.int .i64 k, .int .i64 c, .int .u8 g, .int .i64 (opK t1), .int .i64 (opV t1), .int .i64 (opK t2), .int .i64 (opV t2)]
theorem pholds_any (e : Env) (k c g t1 t2 : Int) (w : World) (hg : sgnB g = true) (h1 : simB t1 = true) (h2 : simB t2 = true) :
    Calls Try.prog 87 #[digV e, testV k c g t1 t2] w fun r w' => r = .returned (.bool (tstB g (ofE 0 e t1) (ofE 0 e t2))) ∧ w.grownBy w' none :=
  pholds_core _ _ _ _ _ _ _ _ k c g _ _ _ _ _ _ w (by simpa [sgnB, or_assoc] using hg) (hid (fun W => pof_core _ _ _ _ _ _ _ _ _ _ _ W (pof_case e t1 h1))) (hid (fun W => pof_core _ _ _ _ _ _ _ _ _ _ _ W (pof_case e t2 h2)))

end Go.Proofs.Ythlhbjnkohinmaa
