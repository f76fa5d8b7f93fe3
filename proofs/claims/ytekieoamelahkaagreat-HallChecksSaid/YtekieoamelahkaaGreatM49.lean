/- The reference's check of a canopy: plain facts. -/
import Derived.Test.YtekieoamelahkaaGreatM44
import Derived.Test.YtekieoamelahkaaGreatM45
import Derived.Test.YtekieoamelahkaaGreatM22
import Derived.Test.YtekieoamelahkaaGreatM48
set_option linter.unusedVariables false
set_option linter.unusedSimpArgs false
namespace Go.Proofs.YtekieoamelahkaaGreat
open Go.RowKit Go.Shelf

theorem can_stop {H : Hal} {i j : Nat} {nm : ByteArray} (hi : i < H.cans.length) (hj : j < i) (h : ((canAt H.cans j).name.toList == nm.toList) = true) : hasName (canNames H i) nm = true := by
 unfold hasName canNames
 rw [List.any_eq_true]
 have hjl : j < H.cans.length := by omega
 refine ⟨(canAt H.cans j).name, ?_, by rw [← nm_eq]; exact h⟩
 rw [List.mem_map]
 refine ⟨canAt H.cans j, ?_, rfl⟩
 have : canAt H.cans j = H.cans[j] := by unfold canAt; rw [List.getElem?_eq_getElem hjl]; rfl
 rw [this, List.mem_take_iff_getElem]
 exact ⟨j, by omega, rfl⟩
theorem can_end {H : Hal} {i : Nat} {nm : ByteArray} (hi : i < H.cans.length) (h : ∀ j, j < i → ((canAt H.cans j).name.toList == nm.toList) = false) : hasName (canNames H i) nm = false := by
 unfold hasName canNames
 rw [List.any_eq_false]
 intro x hx
 rw [List.mem_map] at hx
 obtain ⟨s, hs, rfl⟩ := hx
 rw [List.mem_take_iff_getElem] at hs
 obtain ⟨j, hj, rfl⟩ := hs
 have hjl : j < H.cans.length := by omega
 have : canAt H.cans j = H.cans[j] := by unfold canAt; rw [List.getElem?_eq_getElem hjl]; rfl
 have := h j (by omega)
 rw [nm_eq] at this
 simp_all
theorem walAll_stop {H : Hal} {j : Nat} {nm : ByteArray} (hj : j < H.wals.length) (h : ((walAt H.wals j).name.toList == nm.toList) = true) : hasName (H.wals.map (·.name)) nm = true := by
 unfold hasName
 rw [List.any_eq_true]
 refine ⟨(walAt H.wals j).name, ?_, by rw [← nm_eq]; exact h⟩
 rw [List.mem_map]
 refine ⟨walAt H.wals j, ?_, rfl⟩
 have : walAt H.wals j = H.wals[j] := by unfold walAt; rw [List.getElem?_eq_getElem hj]; rfl
 rw [this]
 exact List.getElem_mem hj
theorem walAll_end {H : Hal} {nm : ByteArray} (h : ∀ j, j < H.wals.length → ((walAt H.wals j).name.toList == nm.toList) = false) : hasName (H.wals.map (·.name)) nm = false := by
 unfold hasName
 rw [List.any_eq_false]
 intro x hx
 rw [List.mem_map] at hx
 obtain ⟨s, hs, rfl⟩ := hx
 obtain ⟨j, hj, rfl⟩ := List.getElem_of_mem hs
 have : walAt H.wals j = H.wals[j] := by unfold walAt; rw [List.getElem?_eq_getElem hj]; rfl
 have := h j hj
 rw [nm_eq] at this
 simp_all
theorem can_has {H : Hal} {i : Nat} {nm : ByteArray} : hasName (fs1 H ++ canNames H i) nm = (((nm.toList == [102, 108, 111, 111, 114]) || (nm.toList == [99, 101, 105, 108, 105, 110, 103])) || (hasName (H.wals.map (·.name)) nm || hasName (canNames H i) nm)) := by
 unfold fs1
 rw [has_app, has_app, fs0_iff, Bool.or_assoc]
theorem can_hsized {H : Hal} (hs : H.Sized) (i : Nat) (hi : i < H.cans.length) : (canAt H.cans i).name.size ≤ 1000000 := by
 have : canAt H.cans i = H.cans[i] := by unfold canAt; rw [List.getElem?_eq_getElem hi]; rfl
 rw [this]
 exact (hs.cans _ (List.getElem_mem hi)).1
theorem hgt_range {z : Int} {hs : List Int} {k : Nat} (h : wiB (intAt hs k) 1 (z - 1) = false) : hgtE z hs k = 2 := by
 unfold wiB at h
 simp at h
 unfold hgtE
 by_cases h1 : intAt hs k < 1
 · rw [if_pos h1]
 · rw [if_neg h1, if_pos (by have := h (by omega); omega)]
theorem hgt_in {z : Int} {hs : List Int} {k : Nat} (h : wiB (intAt hs k) 1 (z - 1) = true) : hgtE z hs k = if 0 < k ∧ intAt hs k ≤ intAt hs (k - 1) then 9 else 0 := by
 unfold wiB at h
 simp at h
 unfold hgtE
 rw [if_neg (by omega), if_neg (by omega)]
theorem sht_places {H : Hal} {a b c d : Int} : shtE H a b c d = if (wiB a (-5000) 5000 && (wiB b (-5000) 5000 && (wiB c (-5000) 5000 && wiB d (-5000) 5000))) = false then 2 else if a = c then 11 else if b = d then 11 else if framesB H (min a c) (min b d) (max a c) (max b d) = false then 24 else 0 := by
 unfold shtE
 have : beyondB 5000 [a, b, c, d] = !(wiB a (-5000) 5000 && (wiB b (-5000) 5000 && (wiB c (-5000) 5000 && wiB d (-5000) 5000))) := by
  unfold beyondB wiB
  rw [Bool.eq_iff_iff]
  simp [outB]
  omega
 rw [this]
 cases (wiB a (-5000) 5000 && (wiB b (-5000) 5000 && (wiB c (-5000) 5000 && wiB d (-5000) 5000))) <;> simp
end Go.Proofs.YtekieoamelahkaaGreat

/- The reference's CheckHall: plain facts. -/
namespace Go.Proofs.YtekieoamelahkaaGreat
open Go.RowKit Go.Shelf

def Ok (H : Hal) (n : Nat) : Prop := ∀ j, j < n → (flt H j).2.2 = 0
theorem ok0 (H : Hal) : Ok H 0 := fun j hj => absurd hj (Nat.not_lt_zero j)
theorem okS {H : Hal} {n : Nat} (h : Ok H n) (e : (flt H n).2.2 = 0) : Ok H (n + 1) := fun j hj => by
 rcases Nat.lt_or_ge j n with h' | h'
 · exact h j h'
 · obtain rfl : j = n := by omega
   exact e
theorem ok_stop {H : Hal} {n : Nat} (hn : n < 8) (h : Ok H n) {v : Flt} (hv : flt H n = v) (he : v.2.2 ≠ 0) : hallF H = v := by
 rw [hallF_stop hn (by rw [hv]; exact he) h, hv]
theorem ok_end {H : Hal} (h : Ok H 8) : hallF H = (0, 0, 0) := hallF_end h
theorem oneF_stop {l : Int} {E : Nat → Int} {n k : Nat} (hk : k < n) (he : E k ≠ 0) (h : ∀ j, j < k → E j = 0) : oneF l E n = (l, (k : Int), E k) := by
 unfold oneF; rw [firstBad_stop hk he h]
theorem oneF_ok {l : Int} {E : Nat → Int} {n : Nat} (h : ∀ j, j < n → E j = 0) : oneF l E n = (0, 0, 0) := by
 unfold oneF; rw [firstBad_end h]
theorem flt0 (H : Hal) : flt H 0 = (0, 0, itselfE H) := rfl
theorem flt1 (H : Hal) : flt H 1 = matsF H := rfl
theorem flt2 (H : Hal) : flt H 2 = (0, 0, partsE H (msOf H)) := rfl
theorem flt3 (H : Hal) : flt H 3 = oneF 2 (cornE H) H.cors.length := rfl
theorem flt4 (H : Hal) : flt H 4 = oneF 3 (wallEk H (msOf H) fs0) H.cors.length := rfl
theorem flt5 (H : Hal) : flt H 5 = (0, 0, planE H) := rfl
theorem flt6 (H : Hal) : flt H 6 = cansF H (msOf H) (fs1 H) := rfl
theorem flt7 (H : Hal) : flt H 7 = seatsF H := rfl
theorem itself_name {H : Hal} (h : nameB H.name = false) : itselfE H = 4 := by unfold itselfE; rw [if_pos h]
theorem itself_range {H : Hal} (h : nameB H.name = true) (h' : wiB H.height 2 5000 = false) : itselfE H = 2 := by
 unfold wiB at h'
 simp at h'
 unfold itselfE
 rw [if_neg (by simp [h])]
 by_cases c : H.height < 2
 · rw [if_pos c]
 · rw [if_neg c, if_pos (h' (by omega))]
theorem itself_in {H : Hal} (h : nameB H.name = true) (h' : wiB H.height 2 5000 = true) : itselfE H = 0 ∧ 2 ≤ H.height ∧ H.height ≤ 5000 := by
 unfold wiB at h'
 simp at h'
 unfold itselfE
 rw [if_neg (by simp [h]), if_neg (by omega), if_neg (by omega)]
 exact ⟨rfl, h'⟩
theorem mat_before {H : Hal} {i : Nat} (hi : i < H.mats.length) : decide (matI H (matAt H.mats i).name < (i : Int)) = hasName (matNames H i) (matAt H.mats i).name := by
 unfold matI hasName matNames
 cases q : (List.range H.mats.length).find? (fun k => (matAt H.mats k).name.toList == (matAt H.mats i).name.toList) with
 | none =>
  have := List.find?_eq_none.1 q i (by simpa using hi)
  simp at this
 | some k =>
  obtain ⟨hk, hk2, hmin⟩ := List.find?_range_eq_some.1 q
  have hkl : k < H.mats.length := by simpa using hk2
  by_cases hlt : k < i
  · have h : ((H.mats.take i).map (·.name)).any (fun n => (matAt H.mats i).name == n) = true := by
     rw [List.any_eq_true]
     have e : matAt H.mats k = H.mats[k] := by unfold matAt; rw [List.getElem?_eq_getElem hkl]; rfl
     refine ⟨(matAt H.mats k).name, List.mem_map.2 ⟨H.mats[k], List.mem_take_iff_getElem.2 ⟨k, by omega, rfl⟩, by rw [e]⟩, by rw [← nm_eq]; exact hk⟩
    rw [h]
    exact decide_eq_true (show (k : Int) < (i : Int) by omega)
  · have h : ((H.mats.take i).map (·.name)).any (fun n => (matAt H.mats i).name == n) = false := by
     rw [List.any_eq_false]
     intro x hx
     rw [List.mem_map] at hx
     obtain ⟨s, hs, rfl⟩ := hx
     rw [List.mem_take_iff_getElem] at hs
     obtain ⟨j, hj, rfl⟩ := hs
     have hjl : j < H.mats.length := by omega
     have e : matAt H.mats j = H.mats[j] := by unfold matAt; rw [List.getElem?_eq_getElem hjl]; rfl
     have := hmin j (by omega)
     rw [e, nm_eq] at this
     simpa using this
    rw [h]
    exact decide_eq_false (show ¬ (k : Int) < (i : Int) by omega)
theorem mat_name {H : Hal} {i : Nat} (h : nameB (matAt H.mats i).name = false) : matE H i = 4 := by unfold matE; rw [if_pos h]
theorem mat_twice {H : Hal} {i : Nat} (h : nameB (matAt H.mats i).name = true) (h' : hasName (matNames H i) (matAt H.mats i).name = true) : matE H i = 5 := by unfold matE; rw [if_neg (by simp [h]), if_pos h']
theorem mat_share {H : Hal} {i : Nat} (h : nameB (matAt H.mats i).name = true) (h' : hasName (matNames H i) (matAt H.mats i).name = false) : matE H i = if sharesB (matAt H.mats i) = false then 2 else 0 := by unfold matE; rw [if_neg (by simp [h]), if_neg (by simp [h'])]
theorem shares_bad {m : Mat} {b : Nat} (hb : b < 4) (h : wiB (matA m b) 0 1000 = false) : sharesB m = false := by
 have h4 : b = 0 ∨ b = 1 ∨ b = 2 ∨ b = 3 := by omega
 unfold wiB at h
 unfold sharesB shareB
 rcases h4 with rfl | rfl | rfl | rfl <;> simp [matA] at h <;> simp <;> omega
theorem shares_in {m : Mat} (h : ∀ b, b < 4 → wiB (matA m b) 0 1000 = true) : sharesB m = wiB m.scat 0 1000 := by
 have h0 := h 0 (by omega); have h1 := h 1 (by omega); have h2 := h 2 (by omega); have h3 := h 3 (by omega)
 unfold wiB at *
 unfold sharesB shareB
 simp [matA] at h0 h1 h2 h3
 rw [Bool.eq_iff_iff]
 simp
 omega
theorem parts_missing {H : Hal} (h : hasName (msOf H) H.floor = false ∨ hasName (msOf H) H.ceil = false) : partsE H (msOf H) = 6 := by
 unfold partsE
 by_cases c : hasName (msOf H) H.floor = false
 · rw [if_pos c]
 · rw [if_neg c, if_pos (h.resolve_left c)]
theorem parts_there {H : Hal} (h : hasName (msOf H) H.floor = true) (h' : hasName (msOf H) H.ceil = true) : partsE H (msOf H) = if H.cors.length < 3 then 10 else if H.wals.length ≠ H.cors.length then 10 else if 12 < H.wals.length then 8 else 0 := by
 unfold partsE
 rw [if_neg (by simp [h]), if_neg (by simp [h'])]
theorem corn_place {H : Hal} {i : Nat} : cornE H i = if (wiB (corAt H.cors i).x (-5000) 5000 && wiB (corAt H.cors i).y (-5000) 5000) = false then 2 else 0 := by
 unfold cornE
 have : beyondB 5000 [(corAt H.cors i).x, (corAt H.cors i).y] = !(wiB (corAt H.cors i).x (-5000) 5000 && wiB (corAt H.cors i).y (-5000) 5000) := by
  unfold beyondB wiB
  rw [Bool.eq_iff_iff]
  simp [outB]
  omega
 rw [this]
 cases (wiB (corAt H.cors i).x (-5000) 5000 && wiB (corAt H.cors i).y (-5000) 5000) <;> simp
theorem lines_all {H : Hal} (hC : CorsIn H) (h : ∀ i, i < H.cors.length → wallEk H (msOf H) fs0 i = 0) : LinesOk H := by
 intro i hi
 have hw := h i hi
 unfold wallEk wallE at hw
 split at hw
 · exact absurd hw (by decide)
 split at hw
 · exact absurd hw (by decide)
 split at hw
 · exact absurd hw (by decide)
 split at hw
 · exact absurd hw (by decide)
 split at hw
 · exact absurd hw (by decide)
 split at hw
 · exact absurd hw (by decide)
 rename_i h5 h6
 exact line_ok hC hi (by simpa using h5) (by simpa using h6)
theorem corn_in {H : Hal} (h : ∀ i, i < H.cors.length → cornE H i = 0) : CorsIn H := cornE_ok (firstBad_end h)
end Go.Proofs.YtekieoamelahkaaGreat
