import Derived.Test.YtdabcflpcklfiaaGreatProg
import Derived.Conc.RwLib
import Derived.Conc.MuData
import Derived.KernelRfl
import Derived.Test.YtdabcflpcklfiaaGreatA05
import Derived.Conc.MuLone
import Derived.Maps.AppendAt
import Derived.Lib.SliceRun
import Derived.Deep.Cut
/- The numbers under which this program holds the library's locks' functions and types, and that it holds them. -/
namespace Go.Proofs.YtdabcflpcklfiaaGreat
abbrev Tryz.muLink : Go.Conc.Locks.MuLink := { lock := 52, unlock := 53, ilock := 81, iunlock := 82, lockSlow := 110, unlockSlow := 113, disable := 106, enable := 108, acquire := 109, relMerge := 111, cas32 := 107, add32 := 112, tMutex := 111, tIMutex := 109, tPMutex := 153, tPIMutex := 181, tPI32 := 183, tUP := 185, tNoCopy := 106, tU32 := 107 }
theorem Tryz.muLib : Go.Conc.Locks.MuLib Tryz.prog Tryz.muLink :=
  ⟨Tryz.func52, Tryz.func53, Tryz.func81, Tryz.func82, Tryz.func106, Tryz.func108, Tryz.func109, Tryz.func111, Tryz.func107, Tryz.func112, Tryz.underlying109, Tryz.runUnderlying109, Tryz.sizeOf109, Tryz.isAgg109, Tryz.zeroValue109, Tryz.underlying111, Tryz.runUnderlying111, Tryz.sizeOf111, Tryz.isAgg111, Tryz.zeroValue111, Tryz.underlying153, Tryz.runUnderlying153, Tryz.sizeOf153, Tryz.isAgg153, Tryz.zeroValue153, Tryz.underlying181, Tryz.runUnderlying181, Tryz.sizeOf181, Tryz.isAgg181, Tryz.zeroValue181, Tryz.underlying183, Tryz.runUnderlying183, Tryz.sizeOf183, Tryz.isAgg183, Tryz.zeroValue183, Tryz.underlying185, Tryz.runUnderlying185, Tryz.sizeOf185, Tryz.isAgg185, Tryz.zeroValue185, Tryz.underlying106, Tryz.runUnderlying106, Tryz.sizeOf106, Tryz.isAgg106, Tryz.zeroValue106, Tryz.underlying21, Tryz.runUnderlying21, Tryz.sizeOf21, Tryz.isAgg21, Tryz.zeroValue21, (by kernel_rfl)⟩
end Go.Proofs.YtdabcflpcklfiaaGreat

/- A kernel: its lock, and its machine. -/
namespace Go.Proofs.YtdabcflpcklfiaaGreat
open Go.RowKit Cad Go.MuLone

def kcell (mb q : Nat) : Value := if q = 0 then .int .i32 0 else if q = 1 then .int .u32 0 else .pointer (some ⟨mb, 0, none⟩)

/-- A kernel in memory. -/
structure KAt (w : World) (kb : Nat) (S : Sy) (m : Mc) (Y : Lay) : Prop where
  krow : w.rowIs kb 113 3 (kcell Y.mb)
  mat : MAt w S m Y
  sep : Sep S m Y
  ok : Ok S m

theorem MAt.not_foot {w : World} {S : Sy} {m : Mc} {Y : Lay} (h : MAt w S m Y) {b t n : Nat} {f : Nat → Value} (hr : w.rowIs b t n f) (h1 : t ≠ 142) (h2 : t ≠ 145) (h3 : t ≠ 86) (h4 : t ≠ 160) (h5 : t ≠ 158) : ¬ foot S m Y b := by
  intro hf
  rcases hf with rfl | rfl | rfl | ⟨t', ht, rfl⟩ | ⟨t', i, hl, hb⟩ | hk
  · exact row_ne hr h.mrow h1 rfl
  · exact row_ne hr h.trow h2 rfl
  · exact h.jmap.ne hr rfl
  · obtain ⟨g, hg⟩ := (h.prow t' ht).row
    exact row_ne hr hg h3 rfl
  · obtain ⟨ht, q1, q2⟩ := hl
    obtain ⟨j, hj⟩ : ∃ j, (m.q t')[i - m.done t']? = some j := ⟨_, List.getElem?_eq_getElem (by omega)⟩
    obtain ⟨r1, r2⟩ := h.jrow t' ht _ j hj
    rw [show m.done t' + (i - m.done t') = i from by omega] at r1 r2
    obtain ⟨g, hg⟩ := r2.row
    rcases hb with rfl | rfl
    · exact row_ne hr r1 h4 rfl
    · exact row_ne hr hg h3 rfl
  · exact own_neM h.kept hr h5 hk

theorem KAt.ne {w : World} {kb : Nat} {S : Sy} {m : Mc} {Y : Lay} (h : KAt w kb S m Y) : ¬ foot S m Y kb := h.mat.not_foot h.krow (by decide) (by decide) (by decide) (by decide) (by decide)

def footK (kb : Nat) (S : Sy) (m : Mc) (Y : Lay) (b : Nat) : Prop := b = kb ∨ foot S m Y b

/-- From one state of a kernel in memory to another. -/
structure KMoved (kb : Nat) (S : Sy) (m m' : Mc) (Y Y' : Lay) (w w' : World) : Prop where
  kat : KAt w' kb S m' Y'
  fr : Fr (footK kb S m Y) w w'
  foot : ∀ b, footK kb S m' Y' b → footK kb S m Y b ∨ w.heap.size ≤ b

theorem KAt.same {w w' : World} {kb : Nat} {S : Sy} {m : Mc} {Y : Lay} (h : KAt w kb S m Y) (hb : ∀ b, footK kb S m Y b → w'.heap[b]? = w.heap[b]?) : KAt w' kb S m Y :=
  ⟨h.krow.of_block (hb _ (.inl rfl)), h.mat.same (fun b hf => hb b (.inr hf)), h.sep, h.ok⟩

theorem KAt.foot_lt {w : World} {kb : Nat} {S : Sy} {m : Mc} {Y : Lay} (h : KAt w kb S m Y) {b : Nat} (hf : footK kb S m Y b) : b < w.heap.size := by
  rcases hf with rfl | hf
  · exact h.krow.lt
  · exact h.mat.foot_lt hf

/-- Behind the lock the machine lies as it did. -/
theorem KAt.locked {w : World} {kb : Nat} {S : Sy} {m : Mc} {Y : Lay} (h : KAt w kb S m Y) (v : Value) : MAt (w.setCell ⟨kb, 0, none⟩ v) S m Y := h.mat.same (fun b hb => Deep.blk_setCell_other _ _ _ _ (fun e => h.ne (by have e' : b = kb := e; rw [← e']; exact hb)))

/-- And when it is let go, the kernel stands. -/
theorem unlocked {w w' : World} {kb : Nat} {S : Sy} {m m' : Mc} {Y Y' : Lay} (h : KAt w kb S m Y) (hm : Moved S m m' Y Y' (w.setCell ⟨kb, 0, none⟩ (.int .i32 1)) w') (ho : Ok S m') : w'.cell? ⟨kb, 0, none⟩ = some (.int .i32 1) ∧ w'.frozen? ⟨kb, 0, none⟩ = false ∧ KMoved kb S m m' Y Y' w (w'.setCell ⟨kb, 0, none⟩ (.int .i32 0)) := by
  have hk1 : (w.setCell ⟨kb, 0, none⟩ (.int .i32 1)).rowIs kb 113 3 (fun q => if q = 0 then .int .i32 1 else kcell Y.mb q) := h.krow.set 0 _
  have hk2 := hm.fr.row hk1 h.ne
  have hne : ¬ foot S m' Y' kb := hm.mat.not_foot hk2 (by decide) (by decide) (by decide) (by decide) (by decide)
  refine ⟨by rw [hk2.cell (by omega)]; rfl, hk2.frozen 0, ⟨⟨?_, ?_, hm.sep, ho⟩, ?_, fun b hb => ?_⟩⟩
  · refine (hk2.set 0 (.int .i32 0)).congr (fun q _ => ?_)
    rw [hm.mb]
    unfold kcell
    by_cases e : q = 0
    · rw [if_pos e, if_pos e]
    · rw [if_neg e, if_neg e, if_neg e]
  · exact hm.mat.same (fun b hb => Deep.blk_setCell_other _ _ _ _ (fun e => hne (by have e' : b = kb := e; rw [← e']; exact hb)))
  · exact ((((Fr.refl (footK kb S m Y) w).setCell (a := ⟨kb, 0, none⟩) (.inl (.inl rfl)) _)).then (hm.fr.mono (fun i hi => .inr hi))).setCell (a := ⟨kb, 0, none⟩) (.inl (.inl rfl)) _
  · rcases hb with rfl | hb
    · exact .inl (.inl rfl)
    · rcases hm.foot b hb with h1 | h1
      · exact .inl (.inr h1)
      · exact .inr (by simpa using h1)

set_option maxHeartbeats 1000000 in
/-- Tick. -/
theorem ktick_any (kb : Nat) (S : Sy) (m : Mc) (Y : Lay) (w : World) (h : KAt w kb S m Y) (hnow : m.now < 1000000000000000000) :
    Calls Tryz.prog 28 #[.pointer (some ⟨kb, 0, none⟩)] w fun e w' => e = .returned (.tuple #[.int .i64 (tick S m).2.1, .bool (tick S m).2.2]) ∧ ∃ Y', KMoved kb S m (tick S m).1 Y Y' w w' := by
  have c0 : w.cell? ⟨kb, 0, none⟩ = some (.int .i32 0) := by rw [h.krow.cell (by omega)]; rfl
  have c2 : w.cell? ⟨kb, 2, none⟩ = some (.pointer (some ⟨Y.mb, 0, none⟩)) := by rw [h.krow.cell (by omega)]; rfl
  have z0 := h.krow.frozen 0
  have HK : Hid (KAt w kb S m Y) := h
  clear h
  go_enter_defers Tryz.func28, Tryz.ntmps28
  go_wp2_with (go_at_call 52; refine (lock_free Tryz.muLib ⟨kb, 0, none⟩ _ c0 z0).mono ?_; rintro e w' ⟨rfl, rfl⟩)
  refine (mtick_any S m Y _ HK.out.ok (HK.out.locked _) HK.out.sep hnow).mono ?_
  rintro e w2 ⟨rfl, Y', hmv⟩
  obtain ⟨q0, qz, hkm⟩ := unlocked HK.out hmv (ok_tick HK.out.ok hnow)
  have HKM : Hid (KMoved kb S m (tick S m).1 Y Y' w (w2.setCell ⟨kb, 0, none⟩ (.int .i32 0))) := hkm
  clear hkm hmv
  go_wp2
  refine leaves_cons (f := 53) (args := #[.pointer (some ⟨kb, 0, none⟩)]) (by simp) (by simp [go_sem]) ?_
  refine (unlock_deferred Tryz.muLib ⟨kb, 0, none⟩ .returning _ q0 qz).mono ?_
  rintro e u' w'' ⟨rfl, rfl, rfl⟩
  exact ⟨_, results_tmp2 rfl _ _ _, ⟨rfl, Y', HKM.out⟩⟩

end Go.Proofs.YtdabcflpcklfiaaGreat

/- Steps are copied. -/
namespace Go.Proofs.YtdabcflpcklfiaaGreat
open Go.RowKit Cad

/-- Steps in memory, from some place on. -/
def StepsIn (w : World) (g off : Nat) (K N : Nat → Int) (L : Nat) : Prop := ∀ i, i < L → w.cell? ⟨g, off + i * 2, none⟩ = some (.int .i64 (K i)) ∧ w.cell? ⟨g, off + i * 2 + 1, none⟩ = some (.int .i64 (N i))

def stepF (K N : Nat → Int) (q : Nat) : Value := if q % 2 = 0 then .int .i64 (K (q / 2)) else .int .i64 (N (q / 2))
def stepC (K N : Nat → Int) (L : Nat) : List Value := (List.range (L * 2)).map (stepF K N)

theorem stepC_len (K N : Nat → Int) (L : Nat) : (stepC K N L).length = L * 2 := by simp [stepC]
theorem stepC_get (K N : Nat → Int) {L j : Nat} (h : j < L * 2) : (stepC K N L)[j]? = some (stepF K N j) := by simp [stepC, h]
theorem stepC_one (K N : Nat → Int) (L : Nat) : ∀ u ∈ stepC K N L, u.oneCell' = true := by
  intro u hu
  simp only [stepC, List.mem_map] at hu
  obtain ⟨q, _, rfl⟩ := hu
  unfold stepF
  split <;> rfl

theorem steps_cells {w : World} {g off : Nat} {K N : Nat → Int} {L : Nat} (h : StepsIn w g off K N L) : ∀ j u, (stepC K N L)[j]? = some u → w.cell? ((⟨g, off, none⟩ : Addr).add j) = some u := by
  intro j u hu
  have hj : j < L * 2 := by have := (List.getElem?_eq_some_iff.1 hu).1; rwa [stepC_len] at this
  rw [stepC_get K N hj] at hu
  rw [Addr.add_lit, ← hu]
  unfold stepF
  have := h (j / 2) (by omega)
  by_cases c : j % 2 = 0
  · rw [if_pos c, ← this.1]
    congr 2
    omega
  · rw [if_neg c, ← this.2]
    congr 2
    omega

/-- A list of steps of its own. -/
theorem own_steps {w : World} {base L : Nat} {K N : Nat → Int} {v : Value} (h : w.ownsRow base 86 2 v L (stepC K N L)) (hL : 1 ≤ L) : ∃ g cap, v = .slice (some ⟨g, 0, none⟩) L cap ∧ base ≤ g ∧ v.ownBlock = some g ∧ StepRow w g cap K N L := by
  obtain ⟨hl, ⟨_, h0⟩ | ⟨g, cap, cur, rfl, hb, hc, h1, h2, h3, h4⟩⟩ := h
  · omega
  · refine ⟨g, cap, rfl, hb, rfl, h1, fun q => cur.toList.getD q (.int .i64 0), ⟨cur, hc, h3, fun i hi => ?_⟩, fun i hi => ?_⟩
    · simp [List.getD, h3 ▸ hi]
    · have hg : ∀ q, q < L * 2 → cur.toList.getD q (.int .i64 0) = stepF K N q := fun q hq => by
        have e1 : (cur.toList.take (L * 2))[q]? = some (stepF K N q) := by rw [h4]; exact stepC_get K N hq
        rw [List.getElem?_take, if_pos hq] at e1
        simp only [List.getD, e1]
        rfl
      refine ⟨?_, ?_⟩
      · show cur.toList.getD (i * 2) (.int .i64 0) = _
        rw [hg (i * 2) (by omega)]
        unfold stepF
        rw [if_pos (by omega), show i * 2 / 2 = i from by omega]
      · show cur.toList.getD (i * 2 + 1) (.int .i64 0) = _
        rw [hg (i * 2 + 1) (by omega)]
        unfold stepF
        rw [if_neg (by omega), show (i * 2 + 1) / 2 = i from by omega]

theorem nil61 (w : World) (a : Addr) (n c : Nat) : (binOp .eql 75 (.slice (some a) n c) (.slice none 0 0)).run Tryz.prog w = .ok (.bool false) w := Lib.run_eql_slice_nil w 75 86 (some a) n c 0 0 Tryz.underlying75

set_option maxRecDepth 100000 in
set_option maxHeartbeats 1000000 in
/-- slices.Clone of steps. -/
theorem clone_any (g off L cap : Nat) (K N : Nat → Int) (w : World) (h1 : 1 ≤ L) (h2 : L ≤ 16) (hg : g < w.heap.size) (h : StepsIn w g off K N L) :
    Calls Tryz.prog 71 #[.slice (some ⟨g, off, none⟩) L cap] w fun e w' => ∃ b c, e = .returned (.slice (some ⟨b, 0, none⟩) L c) ∧ w.heap.size ≤ b ∧ StepRow w' b c K N L ∧ Below w.heap.size w w' := by
  obtain ⟨i0, hi0, hz0, hz1, hz2⟩ := info_parts Tryz.inf85
  have hnil := nil61
  have HS : Hid (StepsIn w g off K N L) := h
  clear h
  go_enter Tryz.func71, Tryz.ntmps71
  have HN : Hid (∀ j u, (stepC K N L)[j]? = some u → (w.alloc (.cells #[] 86)).cell? ((⟨g, off, none⟩ : Addr).add j) = some u) := fun j u hu => by
    have := steps_cells HS.out j u hu
    rw [Addr.add_lit] at this ⊢
    rw [← this]
    simp only [World.cell?]
    rw [Deep.blk_alloc_lt _ _ _ hg]
  have HL : Hid ((stepC K N L).length = L * 2) := stepC_len K N L
  have H1 : Hid (∀ u ∈ stepC K N L, u.oneCell' = true) := stepC_one K N L
  have HO : Hid ((w.alloc (.cells #[] 86)).ownsRow w.heap.size 86 2 (.slice (some ⟨w.heap.size, 0, none⟩) 0 0) 0 []) := World.ownsRow_made w #[] 0 (Nat.le_refl _) (Nat.zero_le _) rfl
  go_wp2_with (at_builtin; refine wpList_append_own_at _ rfl _ _ 75 rfl w.heap.size 86 i0 _ 2 16 Tryz.underlying75 hi0 hz0 hz1 hz2 rfl (by decide) _ _ _ rfl HO.out ⟨g, off, none⟩ L cap (stepC K N L) rfl HL.out HN.out H1.out (by unfold maxLen; omega) (by omega) (by simp) ?_; intro v' w1 hown1 hg1 hnil1 hloc1)
  rw [Nat.zero_add, List.nil_append] at hown1
  obtain ⟨b, c, rfl, hb, _, hsr⟩ := own_steps hown1 h1
  have HB : Hid (Below w.heap.size w w1) := ((Below.refl _ _).alloc (Nat.le_refl _) _).grown hg1 (by simp) (fun k hk => by cases hk; exact Nat.le_refl _)
  clear hown1 hg1 hnil1 hloc1
  go_wp2
  go_ret
  exact ⟨b, c, rfl, hb, hsr, HB.out⟩
end Go.Proofs.YtdabcflpcklfiaaGreat

/- Whether demands may be, and why a job is refused. -/
namespace Go.Proofs.YtdabcflpcklfiaaGreat
open Go.RowKit Cad

def IntsIn (w : World) (b off n : Nat) (D : Nat → Int) : Prop := ∀ i, i < n → w.cell? ⟨b, off + i, none⟩ = some (.int .i64 (D i))

theorem cmpTo_le (K : Nat → Int) : ∀ i, cmpTo K i ≤ i
  | 0 => Nat.le_refl _
  | i + 1 => by
    unfold cmpTo
    have := cmpTo_le K i
    split <;> omega

theorem StepRow.steps {w : World} {g cap : Nat} {K N : Nat → Int} {L : Nat} (h : StepRow w g cap K N L) : StepsIn w g 0 K N L := fun i hi => by
  rw [Nat.zero_add]
  exact ⟨h.at0 hi, h.at1 hi⟩

theorem below_drewM {B : Nat} {w w' : World} (h : Below B w w') (n : Nat) : Below B w (w'.drewN n) := ⟨h.os, h.tape, h.output, h.size, h.block⟩

set_option maxRecDepth 100000 in
set_option maxHeartbeats 1000000 in
theorem demands_any (tp pb pc db dof d dc L : Nat) (ta : Nat) (K N D : Nat → Int) (ao : Option Addr) (b : Bool) (w : World) (hL : L ≤ 16) (hd : d ≤ 9223372036854775806) (_htp : tp < w.heap.size) (hpb : pb < w.heap.size)
    (hp : w.cell? ⟨tp, ta + 3, none⟩ = some (.slice (some ⟨pb, 0, none⟩) L pc)) (hs : StepsIn w pb 0 K N L) (hD : 1 ≤ d → ao = some ⟨db, dof, none⟩ ∧ db < w.heap.size ∧ IntsIn w db dof d D) (hb : b = (fitsB K N L D d)) :
    Calls Tryz.prog 128 #[.pointer (some ⟨tp, ta, none⟩), .slice ao d dc] w fun e w' => e = .returned (.bool b) ∧ Below w.heap.size w w' := by
  have HS : Hid (StepsIn w pb 0 K N L) := hs
  have HD : Hid (1 ≤ d → ao = some ⟨db, dof, none⟩ ∧ db < w.heap.size ∧ IntsIn w db dof d D) := hD
  have HBB : Hid (b = (fitsB K N L D d)) := hb
  clear hs hD hb
  go_enter Tryz.func128, Tryz.ntmps128
  go_wp2
  clear hp
  go_loopw [5, 13] (fun c i wr => ∃ k : Nat, k ≤ L ∧ i = .int .i64 k ∧ c = .int .i64 (cmpTo K k) ∧ (∀ q, q < k → K q = 1 → cmpTo K q < d ∧ 1 ≤ D (cmpTo K q) ∧ D (cmpTo K q) ≤ N q) ∧ Below w.heap.size w wr) (fun _ i _ => L - (intOf i).toNat)
  case atStart => exact ⟨0, Nat.zero_le _, rfl, rfl, fun q hq => by omega, Below.refl _ _⟩
  case round =>
    obtain ⟨k, hk, rfl, rfl, hF, hbel⟩ := hrel
    have HF : Hid (∀ q, q < k → K q = 1 → cmpTo K q < d ∧ 1 ≤ D (cmpTo K q) ∧ D (cmpTo K q) ≤ N q) := hF
    have HB : Hid (Below w.heap.size w wr) := hbel
    have hsz := hbel.size
    have hcl := cmpTo_le K k
    clear hF
    by_cases hlt : k < L
    · have y0 : wr.cell? ⟨pb, k * 2, none⟩ = some (.int .i64 (K k)) := by
        have := (HS.out k hlt).1
        rw [Nat.zero_add] at this
        exact (hbel.cell (p := ⟨pb, k * 2, none⟩) hpb).trans this
      have y1 : wr.cell? ⟨pb, k * 2 + 1, none⟩ = some (.int .i64 (N k)) := by
        have := (HS.out k hlt).2
        rw [Nat.zero_add] at this
        exact (hbel.cell (p := ⟨pb, k * 2 + 1, none⟩) hpb).trans this
      clear hbel
      have hpw : pb < wr.heap.size := by omega
      by_cases h1 : K k = 1
      · have hE : Hid (cmpTo K (k + 1) = cmpTo K k + 1) := by unfold Hid; rw [cmpTo, if_pos h1]
        have hb1 : (K k != 1) = false := by simp [h1]
        by_cases hcd : cmpTo K k < d
        · obtain ⟨rfl, hdb, hdi⟩ := HD.out (by omega)
          have z := (HB.out.cell (p := ⟨db, dof + cmpTo K k, none⟩) hdb).trans (hdi (cmpTo K k) hcd)
          have hdw : db < wr.heap.size := by omega
          have bc1 : decide (d ≤ cmpTo K k) = false := by simp; omega
          have bc2 : ¬ d ≤ cmpTo K k := by omega
          have bci : (cmpTo K k : Int) < (d : Int) := by omega
          by_cases h2 : D (cmpTo K k) < 1
          · have bd2 : decide (D (cmpTo K k) < 1) = true := by simp; omega
            have hno : Hid (b = false) := by
              unfold Hid
              rw [HBB.out]
              simp only [fitsB_false]
              exact fun hf => by have := (hf.1 k hlt h1).2.1; omega
            go_wp2_with fail
            go_quiet (fail)
            go_wp2
            go_ret
            exact ⟨ret_boolM hno.out.symm, below_drewM (HB.out.alloc hsz _) _⟩
          · have bd2 : decide (D (cmpTo K k) < 1) = false := by simp; omega
            by_cases h3 : N k < D (cmpTo K k)
            · have hno : Hid (b = false) := by
                unfold Hid
                rw [HBB.out]
                simp only [fitsB_false]
                exact fun hf => by have := (hf.1 k hlt h1).2.2; omega
              go_wp2_with fail
              go_quiet (fail)
              go_wp2
              go_ret
              exact ⟨ret_boolM hno.out.symm, below_drewM (HB.out.alloc hsz _) _⟩
            · have bd3 : decide (N k < D (cmpTo K k)) = false := by simp; omega
              have HF2 : Hid (∀ q, q < k + 1 → K q = 1 → cmpTo K q < d ∧ 1 ≤ D (cmpTo K q) ∧ D (cmpTo K q) ≤ N q) := fun q hq hkq => by
                by_cases e : q = k
                · subst e; exact ⟨hcd, by omega, by omega⟩
                · exact HF.out q (by omega) hkq
              go_wp2_with fail
              go_quiet (fail)
              go_wp2
              go_roundw
              case rel => exact ⟨k + 1, by omega, by go_num, by rw [hE.out]; go_num, HF2.out, below_drewM (HB.out.alloc hsz _) _⟩
              case measure => simp [intOf]; omega
        · have bc1 : d ≤ cmpTo K k := by omega
          have bc2 : decide (d ≤ cmpTo K k) = true := by simp; omega
          have hno : Hid (b = false) := by
            unfold Hid
            rw [HBB.out]
            simp only [fitsB_false]
            exact fun hf => by have := (hf.1 k hlt h1).1; omega
          go_wp2_with fail
          go_quiet (fail)
          go_wp2
          go_ret
          exact ⟨ret_boolM hno.out.symm, below_drewM (HB.out.alloc hsz _) _⟩
      · have hE : Hid (cmpTo K (k + 1) = cmpTo K k) := by unfold Hid; rw [cmpTo, if_neg h1]
        have hb1 : (K k != 1) = true := by simp [h1]
        have HF2 : Hid (∀ q, q < k + 1 → K q = 1 → cmpTo K q < d ∧ 1 ≤ D (cmpTo K q) ∧ D (cmpTo K q) ≤ N q) := fun q hq hkq => by
          by_cases e : q = k
          · subst e; exact absurd hkq h1
          · exact HF.out q (by omega) hkq
        go_wp2
        go_roundw
        case rel => exact ⟨k + 1, by omega, by go_num, by rw [hE.out], HF2.out, HB.out.alloc hsz _⟩
        case measure => simp [intOf]; omega
    · obtain rfl : k = L := by omega
      by_cases hcd : cmpTo K k = d
      · have hyes : Hid (b = true) := by
          unfold Hid
          rw [HBB.out, fitsB_true]
          exact ⟨HF.out, hcd⟩
        have hbd : ((cmpTo K k : Int) == (d : Int)) = true := by simp; omega
        go_wp2
        go_ret
        exact ⟨ret_boolM hyes.out.symm, HB.out⟩
      · have hno : Hid (b = false) := by
          unfold Hid
          rw [HBB.out]
          simp only [fitsB_false]
          exact fun hf => hcd hf.2
        have hbd : ((cmpTo K k : Int) == (d : Int)) = false := by simp; omega
        go_wp2
        go_ret
        exact ⟨ret_boolM hno.out.symm, HB.out⟩
end Go.Proofs.YtdabcflpcklfiaaGreat

/- Why a job is refused. -/
namespace Go.Proofs.YtdabcflpcklfiaaGreat
open Go.RowKit Cad

theorem ret_intM {a b : Int} (h : a = b) : Ending.returned (.int .i64 a) = .returned (.int .i64 b) := by rw [h]

def refuseN (A dn ls P J now jit : Int) (fits : Bool) : Int :=
  if 0 < A ∧ now - ls < P then 6 else if jit < 0 ∨ J < jit then 7 else if fits = false then 8 else if 8 ≤ A - dn then 9 else 0

set_option maxRecDepth 100000 in
set_option maxHeartbeats 1000000 in
theorem refusal_any (tp ta pb pc db dof d dc L : Nat) (K N D : Nat → Int) (ao : Option Addr) (A dn ls P J now jit : Int) (w : World) (hL : L ≤ 16) (hd : d ≤ 9223372036854775806) (htp : tp < w.heap.size) (hpb : pb < w.heap.size)
    (c0 : w.cell? ⟨tp, ta, none⟩ = some (.int .i64 P)) (c1 : w.cell? ⟨tp, ta + 1, none⟩ = some (.int .i64 J)) (hp : w.cell? ⟨tp, ta + 3, none⟩ = some (.slice (some ⟨pb, 0, none⟩) L pc))
    (c4 : w.cell? ⟨tp, ta + 4, none⟩ = some (.int .i64 A)) (c5 : w.cell? ⟨tp, ta + 5, none⟩ = some (.int .i64 dn)) (c6 : w.cell? ⟨tp, ta + 6, none⟩ = some (.int .i64 ls))
    (hA : 0 ≤ A ∧ A ≤ 2000000000000000000) (hdn : 0 ≤ dn ∧ dn ≤ A) (hls : 0 ≤ ls ∧ ls ≤ 2000000000000000000) (hnow : 0 ≤ now ∧ now ≤ 2000000000000000000)
    (hs : StepsIn w pb 0 K N L) (hD : 1 ≤ d → ao = some ⟨db, dof, none⟩ ∧ db < w.heap.size ∧ IntsIn w db dof d D) :
    Calls Tryz.prog 101 #[.pointer (some ⟨tp, ta, none⟩), .int .i64 now, .int .i64 jit, .slice ao d dc] w fun e w' => e = .returned (.int .i64 (refuseN A dn ls P J now jit ((fitsB K N L D d)))) ∧ Below w.heap.size w w' := by
  by_cases h1 : 0 < A ∧ now - ls < P
  · have HR : Hid (refuseN A dn ls P J now jit ((fitsB K N L D d)) = 6) := by unfold Hid refuseN; rw [if_pos h1]
    obtain ⟨h1a, h1b⟩ := h1
    have b1 : decide (0 < A) = true := by simp; omega
    have b2 : decide (now - ls < P) = true := by simp; omega
    clear hs hD
    go_enter Tryz.func101, Tryz.ntmps101
    go_wp2_with fail
    go_quiet (fail)
    go_wp2
    go_ret
    exact ⟨ret_intM HR.out.symm, below_drewM (Below.refl _ _) _⟩
  · -- behind the first test
    have HCD : Hid (∀ w1 : World, Below w.heap.size w w1 → Calls Tryz.prog 128 #[.pointer (some ⟨tp, ta, none⟩), .slice ao d dc] w1 fun e w' => e = .returned (.bool ((fitsB K N L D d))) ∧ Below w1.heap.size w1 w') := by
      intro w1 hb1
      have hsz := hb1.size
      exact demands_any tp pb pc db dof d dc L ta K N D ao _ w1 hL hd (by omega) (by omega) ((hb1.cell (p := ⟨tp, ta + 3, none⟩) htp).trans hp)
        (fun i hi => ⟨(hb1.cell (p := ⟨pb, _, none⟩) hpb).trans (hs i hi).1, (hb1.cell (p := ⟨pb, _, none⟩) hpb).trans (hs i hi).2⟩)
        (fun h => by
          obtain ⟨e, hdb, hi⟩ := hD h
          exact ⟨e, by omega, fun i hq => (hb1.cell (p := ⟨db, dof + i, none⟩) hdb).trans (hi i hq)⟩) rfl
    have HN1 : Hid (¬ (0 < A ∧ now - ls < P)) := h1
    clear hs hD hp
    have HG : Hid (∀ (w1 : World) , Below w.heap.size w w1 → w1.cell? ⟨tp, ta + 1, none⟩ = some (.int .i64 J) ∧ w1.cell? ⟨tp, ta + 4, none⟩ = some (.int .i64 A) ∧ w1.cell? ⟨tp, ta + 5, none⟩ = some (.int .i64 dn)) := fun w1 hb1 =>
      ⟨(hb1.cell (p := ⟨tp, ta + 1, none⟩) htp).trans c1, (hb1.cell (p := ⟨tp, ta + 4, none⟩) htp).trans c4, (hb1.cell (p := ⟨tp, ta + 5, none⟩) htp).trans c5⟩
    clear h1
    go_enter Tryz.func101, Tryz.ntmps101
    go_upto_region 1 with fail
    go_cut [9] from 10 (fun s9 wc => s9 = .bool false ∧ Below w.heap.size w wc)
    case first =>
      by_cases hA0 : 0 < A
      · have b1 : decide (0 < A) = true := by simp; omega
        have b2 : decide (now - ls < P) = false := by have := HN1.out; simp; omega
        go_quiet (fail)
        go_wp2_with fail
        go_meet
        case rel => exact ⟨rfl, below_drewM (Below.refl _ _) _⟩
      · have b1 : decide (0 < A) = false := by simp; omega
        go_quiet (fail)
        go_wp2_with fail
        go_meet
        case rel => exact ⟨rfl, below_drewM (Below.refl _ _) _⟩
    case rest =>
      obtain ⟨rfl, hbc⟩ := hcut
      obtain ⟨d1, d4, d5⟩ := HG.out wc hbc
      have HB : Hid (Below w.heap.size w wc) := hbc
      clear hbc c0 c1 c4 c5 c6
      by_cases h2 : jit < 0 ∨ J < jit
      · have HR : Hid (refuseN A dn ls P J now jit ((fitsB K N L D d)) = 7) := by unfold Hid refuseN; rw [if_neg HN1.out, if_pos h2]
        by_cases h3 : jit < 0
        · go_wp2
          go_ret
          exact ⟨ret_intM HR.out.symm, HB.out⟩
        · have h4 : J < jit := by omega
          clear h2
          go_wp2
          go_ret
          exact ⟨ret_intM HR.out.symm, HB.out⟩
      · have h3 : ¬ jit < 0 := by omega
        have h4 : ¬ J < jit := by omega
        have HN2 : Hid (¬ (jit < 0 ∨ J < jit)) := h2
        clear h2
        go_wp2_with fail
        refine (HCD.out wc HB.out).mono ?_
        rintro e w2 ⟨rfl, hb2⟩
        have hb2' : Below w.heap.size w w2 := HB.out.trans (hb2.mono HB.out.size)
        obtain ⟨e1, e4, e5⟩ := HG.out w2 hb2'
        have HB2 : Hid (Below w.heap.size w w2) := hb2'
        clear hb2 hb2' d1 d4 d5
        by_cases hf : Fits K N L D d
        · have hfd : (fitsB K N L D d) = true := by simpa using hf
          rw [hfd]
          by_cases h8 : 8 ≤ A - dn
          · have HR : Hid (refuseN A dn ls P J now jit true = 9) := by unfold Hid refuseN; rw [if_neg HN1.out, if_neg HN2.out, if_neg (by simp), if_pos h8]
            go_wp2_with fail
            go_quiet (fail)
            go_wp2
            go_ret
            exact ⟨ret_intM (by rw [show (fitsB K N L D d) = true by simpa using hf]; exact HR.out.symm), below_drewM HB2.out _⟩
          · have HR : Hid (refuseN A dn ls P J now jit true = 0) := by unfold Hid refuseN; rw [if_neg HN1.out, if_neg HN2.out, if_neg (by simp), if_neg h8]
            have b8 : decide (8 ≤ A - dn) = false := by simp; omega
            go_wp2_with fail
            go_quiet (fail)
            go_wp2
            go_ret
            exact ⟨ret_intM (by rw [show (fitsB K N L D d) = true by simpa using hf]; exact HR.out.symm), below_drewM HB2.out _⟩
        · have hfd : (fitsB K N L D d) = false := by simpa using hf
          rw [hfd]
          have HR : Hid (refuseN A dn ls P J now jit false = 8) := by unfold Hid refuseN; rw [if_neg HN1.out, if_neg HN2.out, if_pos rfl]
          go_wp2
          go_ret
          exact ⟨ret_intM (by rw [show (fitsB K N L D d) = false by simpa using hf]; exact HR.out.symm), HB2.out⟩
end Go.Proofs.YtdabcflpcklfiaaGreat
