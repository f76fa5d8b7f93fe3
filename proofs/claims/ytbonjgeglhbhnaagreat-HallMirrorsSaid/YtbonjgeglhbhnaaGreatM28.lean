/- checkWall. -/
import Derived.Test.YtbonjgeglhbhnaaGreatM26
import Derived.Test.YtbonjgeglhbhnaaGreatM10
set_option linter.unusedVariables false
set_option linter.unusedSimpArgs false
namespace Go.Proofs.YtbonjgeglhbhnaaGreat
open Go.RowKit Go.Shelf
attribute [local go_sem] Oper.semAt_some

def nothingB (a b c d : Int) : Bool := decide (a = c) && decide (b = d)
def rightB (a b c d : Int) : Bool := decide (c - a = 0) || decide (d - b = 0) || decide (max (c - a) (-(c - a)) = max (d - b) (-(d - b)))
def wallE (ms fs : List ByteArray) (m : Wal) (a b c d : Int) : Int :=
  if nameB m.name = false then 4 else if hasName fs m.name = true then 5 else if hasName ms m.mat = false then 6 else if m.cur.size ≠ 0 ∧ hasName ms m.cur = false then 6 else if nothingB a b c d = true then 11 else if rightB a b c d = false then 15 else 0

set_option maxRecDepth 100000 in set_option maxHeartbeats 1000000 in
theorem checkWall_sur {w : World} {bp M F T : Nat} {H : Hal} {ms fs ts : List ByteArray} (hS : SurAt w bp H M F T) (hN : Names w M F T ms fs ts) (m : Wal) (hm : m.name.size ≤ 1000000) (a b c d : Int) (h1 : -5000 ≤ a ∧ a ≤ 5000) (h2 : -5000 ≤ b ∧ b ≤ 5000) (h3 : -5000 ≤ c ∧ c ≤ 5000) (h4 : -5000 ≤ d ∧ d ≤ 5000) :
    Calls Tryz.prog 162 #[.pointer (some ⟨bp, 0, none⟩), .agg #[.string m.name, .string m.mat, .string m.cur], .agg #[.int .i64 a, .int .i64 b, .int .i64 c, .int .i64 d]] w (fun e w' => e = .returned (.int .i64 (wallE ms fs m a b c d)) ∧ HoleRel w.heap.size F w w' ∧ Touch [M, F, T] w w' ∧ (wallE ms fs m a b c d = 0 → Names w' M F T ms (fs ++ [m.name]) ts)) := by
  have HE : Hid (wallE ms fs m a b c d = if nameB m.name = false then 4 else if hasName fs m.name = true then 5 else if hasName ms m.mat = false then 6 else if m.cur.size ≠ 0 ∧ hasName ms m.cur = false then 6 else if nothingB a b c d = true then 11 else if rightB a b c d = false then 15 else 0) := rfl
  have HN := hidden (fun W => isName_any m.name hm W)
  have HZ := hidden (fun W => isNothing_any a b c d W)
  have HR := hidden (fun W => isRight_any a b c d W h1 h2 h3 h4)
  obtain ⟨⟨v4, v5, v6, v7, v8, v9, v10, hR⟩, hmm, hmf, _⟩ := hS
  have hb := hR.has
  have h0 := hR.c0
  have hF := hN.f
  have hM := hN.m
  have hFh : w.Has F := hF.has
  have hMh : w.Has M := hM.has
  have nb := hF.ne h0
  have ns : w.heap.size ≠ F := fun e => absurd hFh (by rw [← e]; exact Nat.lt_irrefl _)
  have ns1 : w.heap.size + 1 ≠ F := fun e => absurd hFh (by rw [← e]; unfold World.Has; omega)
  clear hR
  have HLF := look_set (b := F) (ns := fs)
  have HLM := look_set (b := M) (ns := ms)
  have HT := hidden (hN.touch (w' := w) (Below.refl _ _))
  have hem := empty_iff m.cur
  obtain ⟨nm, ma, cu⟩ := m
  simp only at *
  have HZ : Hid (∀ W, Calls Tryz.prog 176 #[.agg #[.int .i64 a, .int .i64 b, .int .i64 c, .int .i64 d]] W (RetX W (.bool (nothingB a b c d)))) := HZ
  have HR : Hid (∀ W, Calls Tryz.prog 177 #[.agg #[.int .i64 a, .int .i64 b, .int .i64 c, .int .i64 d]] W (RetX W (.bool (rightB a b c d)))) := HR
  generalize wallE ms fs ⟨nm, ma, cu⟩ a b c d = E at *
  generalize nothingB a b c d = nt at *
  generalize rightB a b c d = rt at *
  refine (callsIn_wide (n := 10)).1 ?_
  refine callsIn_of_wp Tryz.func162 rfl trivial ?_ rfl
  simp only [Tryz.ntmps162, List.size_toArray, List.length_cons, List.length_nil, Nat.reduceAdd, Nat.reduceSub, Array.replicate_succ, Array.replicate_zero, List.push_toArray, List.append_toArray, List.nil_append, List.cons_append]
  cases q0 : nameB nm with
  | false =>
    rw [q0] at HE HN
    have hE := HE.out
    rw [if_pos rfl] at hE
    subst hE
    clear HE
    gi_wp2
    (refine ⟨trivial, ?_⟩; ((with_reducible refine (callsIn_wide.2 (HN.out _)).mono ?_); rintro e w' ⟨rfl, x1, rfl⟩))
    gi_wp2
    refine bodyPost_ret (v := .int .i64 4) (by simp [results, Tryz.results162, go_sem]) rfl ⟨rfl, HoleRel.of (by (repeat' (first | (with_reducible exact Below.refl _ _) | (with_reducible assumption) | (with_reducible refine Below.drew ?_) | (with_reducible refine Below.drewNStep ?_ _) | (with_reducible refine Below.alloc ?_ ?_ _) | (with_reducible refine Below.setCell ?_ ?_ _) | (with_reducible refine Below.extStep ?_ ?_ _) | (simp; done) | (simp; omega)))), HT.out.step (by (repeat' (first | (with_reducible exact Below.refl _ _) | (with_reducible assumption) | (with_reducible refine Below.drew ?_) | (with_reducible refine Below.drewNStep ?_ _) | (with_reducible refine Below.alloc ?_ ?_ _) | (with_reducible refine Below.setCell ?_ ?_ _) | (with_reducible refine Below.extStep ?_ ?_ _) | (simp; done) | (simp; omega)))), fun h => absurd h (by decide)⟩
  | true =>
    rw [q0] at HE HN
    cases q1 : hasName fs nm with
    | true =>
      have hE := HE.out
      rw [if_neg (by decide), q1, if_pos rfl] at hE
      subst hE
      clear HE
      gi_wp2
      (refine ⟨trivial, ?_⟩; ((with_reducible refine (callsIn_wide.2 (HN.out _)).mono ?_); rintro e w' ⟨rfl, x1, rfl⟩))
      gi_wp2
      refine wpIn_wide.2 ?_
      (refine wp_region_tameX (by kernel_rfl) (by kernel_rfl) ?_); (repeat (first | (refine wpTame_skip rfl ?_; simp only [Act.put, List.setIfInBounds_toArray, List.set_cons_succ, List.set_cons_zero]) | (refine wpTame_pure rfl rfl rfl (fun K hK => ?_); go_big_quiet_op; refine hK _ ?_; clear hK K) | (refine wpTame_eff rfl rfl (fun K hK => ?_); go_big_op; (first | fail | skip); (refine hK _ _ rfl (ext_of_below (by (repeat' (first | (with_reducible exact Below.refl _ _) | (with_reducible assumption) | (with_reducible refine Below.drew ?_) | (with_reducible refine Below.drewNStep ?_ _) | (with_reducible refine Below.alloc ?_ ?_ _) | (with_reducible refine Below.setCell ?_ ?_ _) | (with_reducible refine Below.extStep ?_ ?_ _) | (simp; done) | (simp; omega))))) ?_; clear hK K)))); (refine wpTame_nil ?_)
      gi_wp2
      refine bodyPost_ret (v := .int .i64 5) (by simp [results, Tryz.results162, go_sem]) rfl ⟨rfl, HoleRel.of (by (repeat' (first | (with_reducible exact Below.refl _ _) | (with_reducible assumption) | (with_reducible refine Below.drew ?_) | (with_reducible refine Below.drewNStep ?_ _) | (with_reducible refine Below.alloc ?_ ?_ _) | (with_reducible refine Below.setCell ?_ ?_ _) | (with_reducible refine Below.extStep ?_ ?_ _) | (simp; done) | (simp; omega)))), HT.out.step (by (repeat' (first | (with_reducible exact Below.refl _ _) | (with_reducible assumption) | (with_reducible refine Below.drew ?_) | (with_reducible refine Below.drewNStep ?_ _) | (with_reducible refine Below.alloc ?_ ?_ _) | (with_reducible refine Below.setCell ?_ ?_ _) | (with_reducible refine Below.extStep ?_ ?_ _) | (simp; done) | (simp; omega)))), fun h => absurd h (by decide)⟩
    | false =>
      cases q2 : hasName ms ma with
      | false =>
        have hE := HE.out
        rw [if_neg (by decide), q1, if_neg (by decide), q2, if_pos rfl] at hE
        subst hE
        clear HE
        gi_wp2
        (refine ⟨trivial, ?_⟩; ((with_reducible refine (callsIn_wide.2 (HN.out _)).mono ?_); rintro e w' ⟨rfl, x1, rfl⟩))
        gi_wp2
        refine wpIn_wide.2 ?_
        (refine wp_region_tameX (by kernel_rfl) (by kernel_rfl) ?_); (repeat (first | (refine wpTame_skip rfl ?_; simp only [Act.put, List.setIfInBounds_toArray, List.set_cons_succ, List.set_cons_zero]) | (refine wpTame_pure rfl rfl rfl (fun K hK => ?_); go_big_quiet_op; refine hK _ ?_; clear hK K) | (refine wpTame_eff rfl rfl (fun K hK => ?_); go_big_op; (first | fail | skip); (refine hK _ _ rfl (ext_of_below (by (repeat' (first | (with_reducible exact Below.refl _ _) | (with_reducible assumption) | (with_reducible refine Below.drew ?_) | (with_reducible refine Below.drewNStep ?_ _) | (with_reducible refine Below.alloc ?_ ?_ _) | (with_reducible refine Below.setCell ?_ ?_ _) | (with_reducible refine Below.extStep ?_ ?_ _) | (simp; done) | (simp; omega))))) ?_; clear hK K)))); (refine wpTame_nil ?_)
        gi_wp2
        refine wpIn_wide.2 ?_
        (refine wp_region_tameX (by kernel_rfl) (by kernel_rfl) ?_); (repeat (first | (refine wpTame_skip rfl ?_; simp only [Act.put, List.setIfInBounds_toArray, List.set_cons_succ, List.set_cons_zero]) | (refine wpTame_pure rfl rfl rfl (fun K hK => ?_); go_big_quiet_op; refine hK _ ?_; clear hK K) | (refine wpTame_eff rfl rfl (fun K hK => ?_); go_big_op; (first | fail | skip); (refine hK _ _ rfl (ext_of_below (by (repeat' (first | (with_reducible exact Below.refl _ _) | (with_reducible assumption) | (with_reducible refine Below.drew ?_) | (with_reducible refine Below.drewNStep ?_ _) | (with_reducible refine Below.alloc ?_ ?_ _) | (with_reducible refine Below.setCell ?_ ?_ _) | (with_reducible refine Below.extStep ?_ ?_ _) | (simp; done) | (simp; omega))))) ?_; clear hK K)))); (refine wpTame_nil ?_)
        gi_wp2
        refine bodyPost_ret (v := .int .i64 6) (by simp [results, Tryz.results162, go_sem]) rfl ⟨rfl, HoleRel.of (by (repeat' (first | (with_reducible exact Below.refl _ _) | (with_reducible assumption) | (with_reducible refine Below.drew ?_) | (with_reducible refine Below.drewNStep ?_ _) | (with_reducible refine Below.alloc ?_ ?_ _) | (with_reducible refine Below.setCell ?_ ?_ _) | (with_reducible refine Below.extStep ?_ ?_ _) | (simp; done) | (simp; omega)))), HT.out.step (by (repeat' (first | (with_reducible exact Below.refl _ _) | (with_reducible assumption) | (with_reducible refine Below.drew ?_) | (with_reducible refine Below.drewNStep ?_ _) | (with_reducible refine Below.alloc ?_ ?_ _) | (with_reducible refine Below.setCell ?_ ?_ _) | (with_reducible refine Below.extStep ?_ ?_ _) | (simp; done) | (simp; omega)))), fun h => absurd h (by decide)⟩
      | true =>
        have hE := HE.out
        rw [if_neg (by decide), q1, if_neg (by decide), q2, if_neg (by decide)] at hE
        clear HE
        have hcu : (decide (cu.size = 0) = true) ∨ (decide (cu.size = 0) = false ∧ hasName ms cu = false) ∨ (decide (cu.size = 0) = false ∧ hasName ms cu = true) := by
          cases decide (cu.size = 0) <;> cases hasName ms cu <;> simp
        rcases hcu with p | ⟨p, q3⟩ | ⟨p, q3⟩
        · rw [if_neg (by simp at p; simp [p])] at hE
          rw [p] at hem
          have HP : ∀ o1 o2 x1 x2 x3, (Instr.mapUpdate 179 (.map (some F)) (.string nm) (.bool true)).run Tryz.prog (((((((w.alloc o1).alloc o2).ext x1).drew.drew).ext x2).ext x3).drew) = .ok () ((((((((w.alloc o1).alloc o2).ext x1).drew.drew).ext x2).ext x3).drew).putObj F (putMap (((((((w.alloc o1).alloc o2).ext x1).drew.drew).ext x2).ext x3).drew) F nm)) := fun o1 o2 x1 x2 x3 => put_set _ (by simp [hF, hFh]) nm q1
          gi_wp2
          (refine ⟨trivial, ?_⟩; ((with_reducible refine (callsIn_wide.2 (HN.out _)).mono ?_); rintro e w' ⟨rfl, x1, rfl⟩))
          gi_wp2
          refine wpIn_wide.2 ?_
          (refine wp_region_tameX (by kernel_rfl) (by kernel_rfl) ?_); (repeat (first | (refine wpTame_skip rfl ?_; simp only [Act.put, List.setIfInBounds_toArray, List.set_cons_succ, List.set_cons_zero]) | (refine wpTame_pure rfl rfl rfl (fun K hK => ?_); go_big_quiet_op; refine hK _ ?_; clear hK K) | (refine wpTame_eff rfl rfl (fun K hK => ?_); go_big_op; (first | fail | skip); (refine hK _ _ rfl (ext_of_below (by (repeat' (first | (with_reducible exact Below.refl _ _) | (with_reducible assumption) | (with_reducible refine Below.drew ?_) | (with_reducible refine Below.drewNStep ?_ _) | (with_reducible refine Below.alloc ?_ ?_ _) | (with_reducible refine Below.setCell ?_ ?_ _) | (with_reducible refine Below.extStep ?_ ?_ _) | (simp; done) | (simp; omega))))) ?_; clear hK K)))); (refine wpTame_nil ?_)
          gi_wp2
          refine wpIn_wide.2 ?_
          (refine wp_region_tameX (by kernel_rfl) (by kernel_rfl) ?_); (repeat (first | (refine wpTame_skip rfl ?_; simp only [Act.put, List.setIfInBounds_toArray, List.set_cons_succ, List.set_cons_zero]) | (refine wpTame_pure rfl rfl rfl (fun K hK => ?_); go_big_quiet_op; refine hK _ ?_; clear hK K) | (refine wpTame_eff rfl rfl (fun K hK => ?_); go_big_op; (first | fail | skip); (refine hK _ _ rfl (ext_of_below (by (repeat' (first | (with_reducible exact Below.refl _ _) | (with_reducible assumption) | (with_reducible refine Below.drew ?_) | (with_reducible refine Below.drewNStep ?_ _) | (with_reducible refine Below.alloc ?_ ?_ _) | (with_reducible refine Below.setCell ?_ ?_ _) | (with_reducible refine Below.extStep ?_ ?_ _) | (simp; done) | (simp; omega))))) ?_; clear hK K)))); (refine wpTame_nil ?_)
          gi_wp2
          (refine ⟨trivial, ?_⟩; ((with_reducible refine (callsIn_wide.2 (HZ.out _)).mono ?_); rintro e w' ⟨rfl, x2, rfl⟩))
          cases nt with
          | true =>
            rw [if_pos rfl] at hE
            subst hE
            gi_wp2
            refine bodyPost_ret (v := .int .i64 11) (by simp [results, Tryz.results162, go_sem]) rfl ⟨rfl, HoleRel.of (by (repeat' (first | (with_reducible exact Below.refl _ _) | (with_reducible assumption) | (with_reducible refine Below.drew ?_) | (with_reducible refine Below.drewNStep ?_ _) | (with_reducible refine Below.alloc ?_ ?_ _) | (with_reducible refine Below.setCell ?_ ?_ _) | (with_reducible refine Below.extStep ?_ ?_ _) | (simp; done) | (simp; omega)))), HT.out.step (by (repeat' (first | (with_reducible exact Below.refl _ _) | (with_reducible assumption) | (with_reducible refine Below.drew ?_) | (with_reducible refine Below.drewNStep ?_ _) | (with_reducible refine Below.alloc ?_ ?_ _) | (with_reducible refine Below.setCell ?_ ?_ _) | (with_reducible refine Below.extStep ?_ ?_ _) | (simp; done) | (simp; omega)))), fun h => absurd h (by decide)⟩
          | false =>
            rw [if_neg (by decide)] at hE
            gi_wp2
            (refine ⟨trivial, ?_⟩; ((with_reducible refine (callsIn_wide.2 (HR.out _)).mono ?_); rintro e w' ⟨rfl, x3, rfl⟩))
            cases rt with
            | false =>
              rw [if_pos rfl] at hE
              subst hE
              gi_wp2
              refine bodyPost_ret (v := .int .i64 15) (by simp [results, Tryz.results162, go_sem]) rfl ⟨rfl, HoleRel.of (by (repeat' (first | (with_reducible exact Below.refl _ _) | (with_reducible assumption) | (with_reducible refine Below.drew ?_) | (with_reducible refine Below.drewNStep ?_ _) | (with_reducible refine Below.alloc ?_ ?_ _) | (with_reducible refine Below.setCell ?_ ?_ _) | (with_reducible refine Below.extStep ?_ ?_ _) | (simp; done) | (simp; omega)))), HT.out.step (by (repeat' (first | (with_reducible exact Below.refl _ _) | (with_reducible assumption) | (with_reducible refine Below.drew ?_) | (with_reducible refine Below.drewNStep ?_ _) | (with_reducible refine Below.alloc ?_ ?_ _) | (with_reducible refine Below.setCell ?_ ?_ _) | (with_reducible refine Below.extStep ?_ ?_ _) | (simp; done) | (simp; omega)))), fun h => absurd h (by decide)⟩
            | true =>
              rw [if_neg (by decide)] at hE
              subst hE
              gi_wp2
              refine wpIn_wide.2 ?_
              (refine wp_region_tameH (F) (by kernel_rfl) (by kernel_rfl) ?_); (repeat (first | (refine wpTame_skip rfl ?_; simp only [Act.put, List.setIfInBounds_toArray, List.set_cons_succ, List.set_cons_zero]) | (refine wpTame_pure rfl rfl rfl (fun K hK => ?_); go_big_quiet_op; refine hK _ ?_; clear hK K) | (refine wpTame_eff rfl rfl (fun K hK => ?_); go_big_op; (first | fail | skip); (refine hK _ _ rfl (hole_of (by (repeat' (first | (with_reducible exact HoleRel.refl _ _ _) | (with_reducible assumption) | (with_reducible refine HoleRel.swap ?_ _ _) | (with_reducible refine HoleRel.drew ?_) | (with_reducible refine HoleRel.drewN ?_ _) | (with_reducible refine HoleRel.setCell ?_ ?_ _) | (with_reducible refine HoleRel.putObj ?_ ?_ _) | (with_reducible refine HoleRel.alloc ?_ ?_ _) | (with_reducible refine HoleRel.ext ?_ ?_ _) | (exact Or.inl rfl) | (simp; done) | (simp; omega))))) ?_; clear hK K)))); (refine wpTame_nil ?_)
              gi_wp2
              refine bodyPost_ret (v := .int .i64 0) (by simp [results, Tryz.results162, go_sem]) rfl ⟨rfl, HoleRel.putObj (HoleRel.of (show Below w.heap.size w _ by (repeat' (first | (with_reducible exact Below.refl _ _) | (with_reducible assumption) | (with_reducible refine Below.drew ?_) | (with_reducible refine Below.drewNStep ?_ _) | (with_reducible refine Below.alloc ?_ ?_ _) | (with_reducible refine Below.setCell ?_ ?_ _) | (with_reducible refine Below.extStep ?_ ?_ _) | (simp; done) | (simp; omega))))) (.inl rfl) _, (HT.out.step (by (repeat' (first | (with_reducible exact Below.refl _ _) | (with_reducible assumption) | (with_reducible refine Below.drew ?_) | (with_reducible refine Below.drewNStep ?_ _) | (with_reducible refine Below.alloc ?_ ?_ _) | (with_reducible refine Below.setCell ?_ ?_ _) | (with_reducible refine Below.extStep ?_ ?_ _) | (simp; done) | (simp; omega))))).trans (Names.touchPut (hN.below (by (repeat' (first | (with_reducible exact Below.refl _ _) | (with_reducible assumption) | (with_reducible refine Below.drew ?_) | (with_reducible refine Below.drewNStep ?_ _) | (with_reducible refine Below.alloc ?_ ?_ _) | (with_reducible refine Below.setCell ?_ ?_ _) | (with_reducible refine Below.extStep ?_ ?_ _) | (simp; done) | (simp; omega))))) (by simp) nm), (hN.below (by (repeat' (first | (with_reducible exact Below.refl _ _) | (with_reducible assumption) | (with_reducible refine Below.drew ?_) | (with_reducible refine Below.drewNStep ?_ _) | (with_reducible refine Below.alloc ?_ ?_ _) | (with_reducible refine Below.setCell ?_ ?_ _) | (with_reducible refine Below.extStep ?_ ?_ _) | (simp; done) | (simp; omega))))).addF nm⟩
        · rw [if_pos ⟨by simpa using p, q3⟩] at hE
          rw [p] at hem
          subst hE
          gi_wp2
          (refine ⟨trivial, ?_⟩; ((with_reducible refine (callsIn_wide.2 (HN.out _)).mono ?_); rintro e w' ⟨rfl, x1, rfl⟩))
          gi_wp2
          refine wpIn_wide.2 ?_
          (refine wp_region_tameX (by kernel_rfl) (by kernel_rfl) ?_); (repeat (first | (refine wpTame_skip rfl ?_; simp only [Act.put, List.setIfInBounds_toArray, List.set_cons_succ, List.set_cons_zero]) | (refine wpTame_pure rfl rfl rfl (fun K hK => ?_); go_big_quiet_op; refine hK _ ?_; clear hK K) | (refine wpTame_eff rfl rfl (fun K hK => ?_); go_big_op; (first | fail | skip); (refine hK _ _ rfl (ext_of_below (by (repeat' (first | (with_reducible exact Below.refl _ _) | (with_reducible assumption) | (with_reducible refine Below.drew ?_) | (with_reducible refine Below.drewNStep ?_ _) | (with_reducible refine Below.alloc ?_ ?_ _) | (with_reducible refine Below.setCell ?_ ?_ _) | (with_reducible refine Below.extStep ?_ ?_ _) | (simp; done) | (simp; omega))))) ?_; clear hK K)))); (refine wpTame_nil ?_)
          gi_wp2
          refine wpIn_wide.2 ?_
          (refine wp_region_tameX (by kernel_rfl) (by kernel_rfl) ?_); (repeat (first | (refine wpTame_skip rfl ?_; simp only [Act.put, List.setIfInBounds_toArray, List.set_cons_succ, List.set_cons_zero]) | (refine wpTame_pure rfl rfl rfl (fun K hK => ?_); go_big_quiet_op; refine hK _ ?_; clear hK K) | (refine wpTame_eff rfl rfl (fun K hK => ?_); go_big_op; (first | fail | skip); (refine hK _ _ rfl (ext_of_below (by (repeat' (first | (with_reducible exact Below.refl _ _) | (with_reducible assumption) | (with_reducible refine Below.drew ?_) | (with_reducible refine Below.drewNStep ?_ _) | (with_reducible refine Below.alloc ?_ ?_ _) | (with_reducible refine Below.setCell ?_ ?_ _) | (with_reducible refine Below.extStep ?_ ?_ _) | (simp; done) | (simp; omega))))) ?_; clear hK K)))); (refine wpTame_nil ?_)
          gi_wp2
          refine bodyPost_ret (v := .int .i64 6) (by simp [results, Tryz.results162, go_sem]) rfl ⟨rfl, HoleRel.of (by (repeat' (first | (with_reducible exact Below.refl _ _) | (with_reducible assumption) | (with_reducible refine Below.drew ?_) | (with_reducible refine Below.drewNStep ?_ _) | (with_reducible refine Below.alloc ?_ ?_ _) | (with_reducible refine Below.setCell ?_ ?_ _) | (with_reducible refine Below.extStep ?_ ?_ _) | (simp; done) | (simp; omega)))), HT.out.step (by (repeat' (first | (with_reducible exact Below.refl _ _) | (with_reducible assumption) | (with_reducible refine Below.drew ?_) | (with_reducible refine Below.drewNStep ?_ _) | (with_reducible refine Below.alloc ?_ ?_ _) | (with_reducible refine Below.setCell ?_ ?_ _) | (with_reducible refine Below.extStep ?_ ?_ _) | (simp; done) | (simp; omega)))), fun h => absurd h (by decide)⟩
        · rw [if_neg (by simp [q3])] at hE
          rw [p] at hem
          have HP : ∀ o1 o2 x1 x2 x3, (Instr.mapUpdate 179 (.map (some F)) (.string nm) (.bool true)).run Tryz.prog (((((((w.alloc o1).alloc o2).ext x1).drew.drew).ext x2).ext x3).drew) = .ok () ((((((((w.alloc o1).alloc o2).ext x1).drew.drew).ext x2).ext x3).drew).putObj F (putMap (((((((w.alloc o1).alloc o2).ext x1).drew.drew).ext x2).ext x3).drew) F nm)) := fun o1 o2 x1 x2 x3 => put_set _ (by simp [hF, hFh]) nm q1
          gi_wp2
          (refine ⟨trivial, ?_⟩; ((with_reducible refine (callsIn_wide.2 (HN.out _)).mono ?_); rintro e w' ⟨rfl, x1, rfl⟩))
          gi_wp2
          refine wpIn_wide.2 ?_
          (refine wp_region_tameX (by kernel_rfl) (by kernel_rfl) ?_); (repeat (first | (refine wpTame_skip rfl ?_; simp only [Act.put, List.setIfInBounds_toArray, List.set_cons_succ, List.set_cons_zero]) | (refine wpTame_pure rfl rfl rfl (fun K hK => ?_); go_big_quiet_op; refine hK _ ?_; clear hK K) | (refine wpTame_eff rfl rfl (fun K hK => ?_); go_big_op; (first | fail | skip); (refine hK _ _ rfl (ext_of_below (by (repeat' (first | (with_reducible exact Below.refl _ _) | (with_reducible assumption) | (with_reducible refine Below.drew ?_) | (with_reducible refine Below.drewNStep ?_ _) | (with_reducible refine Below.alloc ?_ ?_ _) | (with_reducible refine Below.setCell ?_ ?_ _) | (with_reducible refine Below.extStep ?_ ?_ _) | (simp; done) | (simp; omega))))) ?_; clear hK K)))); (refine wpTame_nil ?_)
          gi_wp2
          refine wpIn_wide.2 ?_
          (refine wp_region_tameX (by kernel_rfl) (by kernel_rfl) ?_); (repeat (first | (refine wpTame_skip rfl ?_; simp only [Act.put, List.setIfInBounds_toArray, List.set_cons_succ, List.set_cons_zero]) | (refine wpTame_pure rfl rfl rfl (fun K hK => ?_); go_big_quiet_op; refine hK _ ?_; clear hK K) | (refine wpTame_eff rfl rfl (fun K hK => ?_); go_big_op; (first | fail | skip); (refine hK _ _ rfl (ext_of_below (by (repeat' (first | (with_reducible exact Below.refl _ _) | (with_reducible assumption) | (with_reducible refine Below.drew ?_) | (with_reducible refine Below.drewNStep ?_ _) | (with_reducible refine Below.alloc ?_ ?_ _) | (with_reducible refine Below.setCell ?_ ?_ _) | (with_reducible refine Below.extStep ?_ ?_ _) | (simp; done) | (simp; omega))))) ?_; clear hK K)))); (refine wpTame_nil ?_)
          gi_wp2
          (refine ⟨trivial, ?_⟩; ((with_reducible refine (callsIn_wide.2 (HZ.out _)).mono ?_); rintro e w' ⟨rfl, x2, rfl⟩))
          cases nt with
          | true =>
            rw [if_pos rfl] at hE
            subst hE
            gi_wp2
            refine bodyPost_ret (v := .int .i64 11) (by simp [results, Tryz.results162, go_sem]) rfl ⟨rfl, HoleRel.of (by (repeat' (first | (with_reducible exact Below.refl _ _) | (with_reducible assumption) | (with_reducible refine Below.drew ?_) | (with_reducible refine Below.drewNStep ?_ _) | (with_reducible refine Below.alloc ?_ ?_ _) | (with_reducible refine Below.setCell ?_ ?_ _) | (with_reducible refine Below.extStep ?_ ?_ _) | (simp; done) | (simp; omega)))), HT.out.step (by (repeat' (first | (with_reducible exact Below.refl _ _) | (with_reducible assumption) | (with_reducible refine Below.drew ?_) | (with_reducible refine Below.drewNStep ?_ _) | (with_reducible refine Below.alloc ?_ ?_ _) | (with_reducible refine Below.setCell ?_ ?_ _) | (with_reducible refine Below.extStep ?_ ?_ _) | (simp; done) | (simp; omega)))), fun h => absurd h (by decide)⟩
          | false =>
            rw [if_neg (by decide)] at hE
            gi_wp2
            (refine ⟨trivial, ?_⟩; ((with_reducible refine (callsIn_wide.2 (HR.out _)).mono ?_); rintro e w' ⟨rfl, x3, rfl⟩))
            cases rt with
            | false =>
              rw [if_pos rfl] at hE
              subst hE
              gi_wp2
              refine bodyPost_ret (v := .int .i64 15) (by simp [results, Tryz.results162, go_sem]) rfl ⟨rfl, HoleRel.of (by (repeat' (first | (with_reducible exact Below.refl _ _) | (with_reducible assumption) | (with_reducible refine Below.drew ?_) | (with_reducible refine Below.drewNStep ?_ _) | (with_reducible refine Below.alloc ?_ ?_ _) | (with_reducible refine Below.setCell ?_ ?_ _) | (with_reducible refine Below.extStep ?_ ?_ _) | (simp; done) | (simp; omega)))), HT.out.step (by (repeat' (first | (with_reducible exact Below.refl _ _) | (with_reducible assumption) | (with_reducible refine Below.drew ?_) | (with_reducible refine Below.drewNStep ?_ _) | (with_reducible refine Below.alloc ?_ ?_ _) | (with_reducible refine Below.setCell ?_ ?_ _) | (with_reducible refine Below.extStep ?_ ?_ _) | (simp; done) | (simp; omega)))), fun h => absurd h (by decide)⟩
            | true =>
              rw [if_neg (by decide)] at hE
              subst hE
              gi_wp2
              refine wpIn_wide.2 ?_
              (refine wp_region_tameH (F) (by kernel_rfl) (by kernel_rfl) ?_); (repeat (first | (refine wpTame_skip rfl ?_; simp only [Act.put, List.setIfInBounds_toArray, List.set_cons_succ, List.set_cons_zero]) | (refine wpTame_pure rfl rfl rfl (fun K hK => ?_); go_big_quiet_op; refine hK _ ?_; clear hK K) | (refine wpTame_eff rfl rfl (fun K hK => ?_); go_big_op; (first | fail | skip); (refine hK _ _ rfl (hole_of (by (repeat' (first | (with_reducible exact HoleRel.refl _ _ _) | (with_reducible assumption) | (with_reducible refine HoleRel.swap ?_ _ _) | (with_reducible refine HoleRel.drew ?_) | (with_reducible refine HoleRel.drewN ?_ _) | (with_reducible refine HoleRel.setCell ?_ ?_ _) | (with_reducible refine HoleRel.putObj ?_ ?_ _) | (with_reducible refine HoleRel.alloc ?_ ?_ _) | (with_reducible refine HoleRel.ext ?_ ?_ _) | (exact Or.inl rfl) | (simp; done) | (simp; omega))))) ?_; clear hK K)))); (refine wpTame_nil ?_)
              gi_wp2
              refine bodyPost_ret (v := .int .i64 0) (by simp [results, Tryz.results162, go_sem]) rfl ⟨rfl, HoleRel.putObj (HoleRel.of (show Below w.heap.size w _ by (repeat' (first | (with_reducible exact Below.refl _ _) | (with_reducible assumption) | (with_reducible refine Below.drew ?_) | (with_reducible refine Below.drewNStep ?_ _) | (with_reducible refine Below.alloc ?_ ?_ _) | (with_reducible refine Below.setCell ?_ ?_ _) | (with_reducible refine Below.extStep ?_ ?_ _) | (simp; done) | (simp; omega))))) (.inl rfl) _, (HT.out.step (by (repeat' (first | (with_reducible exact Below.refl _ _) | (with_reducible assumption) | (with_reducible refine Below.drew ?_) | (with_reducible refine Below.drewNStep ?_ _) | (with_reducible refine Below.alloc ?_ ?_ _) | (with_reducible refine Below.setCell ?_ ?_ _) | (with_reducible refine Below.extStep ?_ ?_ _) | (simp; done) | (simp; omega))))).trans (Names.touchPut (hN.below (by (repeat' (first | (with_reducible exact Below.refl _ _) | (with_reducible assumption) | (with_reducible refine Below.drew ?_) | (with_reducible refine Below.drewNStep ?_ _) | (with_reducible refine Below.alloc ?_ ?_ _) | (with_reducible refine Below.setCell ?_ ?_ _) | (with_reducible refine Below.extStep ?_ ?_ _) | (simp; done) | (simp; omega))))) (by simp) nm), (hN.below (by (repeat' (first | (with_reducible exact Below.refl _ _) | (with_reducible assumption) | (with_reducible refine Below.drew ?_) | (with_reducible refine Below.drewNStep ?_ _) | (with_reducible refine Below.alloc ?_ ?_ _) | (with_reducible refine Below.setCell ?_ ?_ _) | (with_reducible refine Below.extStep ?_ ?_ _) | (simp; done) | (simp; omega))))).addF nm⟩
end Go.Proofs.YtbonjgeglhbhnaaGreat
