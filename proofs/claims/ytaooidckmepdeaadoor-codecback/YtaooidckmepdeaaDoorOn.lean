/- CodecOnce. -/
import Derived.Test.YtaooidckmepdeaaDoorGj
namespace Go.Proofs.YtaooidckmepdeaaDoor
set_option linter.unusedSimpArgs false
set_option linter.unusedVariables false
open Go.RowKit
theorem BOk.below {w w' : World} {a : Option Addr} {c : Nat} {l : List Nat} (h : BOk w a c l) (hb : Below w.heap.size w w') : BOk w' a c l := ⟨h.row.below hb, h.len, h.cap, h.nil, h.big⟩
set_option maxHeartbeats 800000 in
set_option maxRecDepth 100000 in
theorem once_nn (a : Option Addr) (cap : Nat) (l : List Nat) (w : World) (ht : Tab w) (hr : BOk w a cap l) (hl : ¬ (l.length : Int) > 30000) (hQ : reqP l = none) (hS : resP l = none) : Calls Tryd.prog 5 #[.slice a l.length cap] w fun e w' => e = .returned (.bool true) ∧ Below w.heap.size w w' := by
  have HA : Hid (∀ x, Tab x → Calls Tryd.prog 10 #[] x fun e w' => e = .returned (.bool true) ∧ Below x.heap.size x w') := fun x h => awake_any x h
  have HBY : Hid (∀ x p k', Below w.heap.size w x → BOk x p k' l → Calls Tryd.prog 13 #[.slice p l.length k', .slice a l.length cap] x fun e w' => e = .returned (.bool true) ∧ Below x.heap.size x w') := fun x p k' hx h => bytes_yes x p a k' cap l h.row (hr.row.below hx) hr.big
  have HT : Hid (∀ x, Below w.heap.size w x → Tab x) := fun x hx => ht.below hx
  have HBw : Hid (Below w.heap.size w w) := Below.refl _ _
  obtain ⟨CZ, HCZ⟩ : ∃ CZ : Array Value, Hid (z26 = CZ) := ⟨_, rfl⟩
  have HZ1 : Hid (CZ.size = 17) := by rw [← HCZ.out]; rfl
  have HZ2 : Hid (CZ.all (·.oneCell') = true) := by show _ = _; rw [← HCZ.out]; kernel_rfl
  have HP : Hid (∀ x, Below w.heap.size w x → Calls Tryd.prog 15 #[.slice a l.length cap] x fun e w' => e = .returned (.tuple #[.agg CZ, .int .i64 13]) ∧ Below x.heap.size x w') := fun x hx => by rw [← HCZ.out]; exact parseQ_no x a cap l (ht.below hx) (hr.below hx) hQ
  obtain ⟨CY, HCY⟩ : ∃ CY : Array Value, Hid (z40 = CY) := ⟨_, rfl⟩
  have HY1 : Hid (CY.size = 9) := by rw [← HCY.out]; rfl
  have HY2 : Hid (CY.all (·.oneCell') = true) := by show _ = _; rw [← HCY.out]; kernel_rfl
  have HU : Hid (∀ x, Below w.heap.size w x → Calls Tryd.prog 18 #[.slice a l.length cap] x fun e w' => e = .returned (.tuple #[.agg CY, .int .i64 13]) ∧ Below x.heap.size x w') := fun x hx => by rw [← HCY.out]; exact parseS_no x a cap l (ht.below hx) (hr.below hx) hS
  clear ht hr hQ hS
  generalize l.length = nL at *
  go_enter Tryd.func5, Tryd.ntmps5
  go_wp2_with (first
    | (go_at_call 15; refine (HP.out _ HBw.out).mono ?_; rintro e w2 ⟨rfl, hb⟩; have HBw2 : Hid (Below w.heap.size w w2) := HBw.out.trans (hb.mono HBw.out.size); clear hb; have tok2 : True := trivial)
    | (have _h := tok2; refine wpList_store_row rfl 26 _ _ rfl w2.heap.size CZ rfl rfl 26 #[.int .i64 0, .int .i64 0, .string ⟨#[]⟩, .int .i64 0, .int .i64 0, .int .i64 0, .int .i64 0, .int .i64 0, .bool false, .int .i64 0, .int .i64 0, .int .i64 0, .slice none 0 0, .int .i64 0, .int .i64 0, .int .i64 0, .string ⟨#[]⟩] (heap_alloc_new w2 _) (by rw [HZ1.out]; exact Tryd.info26) (by rw [HZ1.out]; rfl) HZ2.out ?_; obtain ⟨hx9, hb⟩ := box_new w2 #[.int .i64 0, .int .i64 0, .string ⟨#[]⟩, .int .i64 0, .int .i64 0, .int .i64 0, .int .i64 0, .int .i64 0, .bool false, .int .i64 0, .int .i64 0, .int .i64 0, .slice none 0 0, .int .i64 0, .int .i64 0, .int .i64 0, .string ⟨#[]⟩] CZ 26; generalize World.setRow _ w2.heap.size CZ = w3 at *; have HXw3 : Hid (w3.heap[w2.heap.size]? = some (.cells CZ 26 (0, 0))) := hx9; have HBw3 : Hid (Below w.heap.size w w3) := HBw2.out.trans (hb.mono HBw2.out.size); have tok3 : True := trivial; clear hx9 hb _h tok2)
    | (go_at_call 18; refine (HU.out _ HBw3.out).mono ?_; rintro e w6 ⟨rfl, hb⟩; have HBw6 : Hid (Below w.heap.size w w6) := HBw3.out.trans (hb.mono HBw3.out.size); clear hb; have tok6 : True := trivial)
    | (have _h := tok6; refine wpList_store_row rfl 40 _ _ rfl w6.heap.size CY rfl rfl 40 #[.int .i64 0, .int .i64 0, .int .i64 0, .int .i64 0, .int .i64 0, .int .i64 0, .slice none 0 0, .slice none 0 0, .slice none 0 0] (heap_alloc_new w6 _) (by rw [HY1.out]; exact Tryd.info40) (by rw [HY1.out]; rfl) HY2.out ?_; obtain ⟨hx9, hb⟩ := box_new w6 #[.int .i64 0, .int .i64 0, .int .i64 0, .int .i64 0, .int .i64 0, .int .i64 0, .slice none 0 0, .slice none 0 0, .slice none 0 0] CY 40; generalize World.setRow _ w6.heap.size CY = w7 at *; have HXw7 : Hid (w7.heap[w6.heap.size]? = some (.cells CY 40 (0, 0))) := hx9; have HBw7 : Hid (Below w.heap.size w w7) := HBw6.out.trans (hb.mono HBw6.out.size); have tok7 : True := trivial; clear hx9 hb _h tok6)
    | (go_at_call 10; refine (HA.out _ (HT.out _ HBw7.out)).mono ?_; rintro e w10 ⟨rfl, hb⟩; have HBw10 : Hid (Below w.heap.size w w10) := HBw7.out.trans (hb.mono HBw7.out.size); clear hb))
  go_ret
  exact ⟨rfl, HBw10.out⟩
set_option maxHeartbeats 800000 in
set_option maxRecDepth 100000 in
theorem once_ny (a : Option Addr) (cap : Nat) (l : List Nat) (w : World) (ht : Tab w) (hr : BOk w a cap l) (hl : ¬ (l.length : Int) > 30000) (hQ : reqP l = none) (k' i' d' : Int) (b' : Bd) (hS : resP l = some (k', i', d', b')) : Calls Tryd.prog 5 #[.slice a l.length cap] w fun e w' => e = .returned (.bool true) ∧ Below w.heap.size w w' := by
  have HA : Hid (∀ x, Tab x → Calls Tryd.prog 10 #[] x fun e w' => e = .returned (.bool true) ∧ Below x.heap.size x w') := fun x h => awake_any x h
  have HBY : Hid (∀ x p k', Below w.heap.size w x → BOk x p k' l → Calls Tryd.prog 13 #[.slice p l.length k', .slice a l.length cap] x fun e w' => e = .returned (.bool true) ∧ Below x.heap.size x w') := fun x p k' hx h => bytes_yes x p a k' cap l h.row (hr.row.below hx) hr.big
  have HT : Hid (∀ x, Below w.heap.size w x → Tab x) := fun x hx => ht.below hx
  have HBw : Hid (Below w.heap.size w w) := Below.refl _ _
  obtain ⟨CZ, HCZ⟩ : ∃ CZ : Array Value, Hid (z26 = CZ) := ⟨_, rfl⟩
  have HZ1 : Hid (CZ.size = 17) := by rw [← HCZ.out]; rfl
  have HZ2 : Hid (CZ.all (·.oneCell') = true) := by show _ = _; rw [← HCZ.out]; kernel_rfl
  have HP : Hid (∀ x, Below w.heap.size w x → Calls Tryd.prog 15 #[.slice a l.length cap] x fun e w' => e = .returned (.tuple #[.agg CZ, .int .i64 13]) ∧ Below x.heap.size x w') := fun x hx => by rw [← HCZ.out]; exact parseQ_no x a cap l (ht.below hx) (hr.below hx) hQ
  have HU : Hid (∀ x, Below w.heap.size w x → Calls Tryd.prog 18 #[.slice a l.length cap] x fun e w' => (∃ cs, e = .returned (.tuple #[.agg cs, .int .i64 0]) ∧ SVal w' cs k' i' d' b') ∧ Below x.heap.size x w') := fun x hx => parseS_val x a cap l (ht.below hx) (hr.below hx) hS
  have HV : Hid (∀ x cs, Below w.heap.size w x → SVal x cs k' i' d' b' → Calls Tryd.prog 17 #[.agg cs] x fun e w' => (∃ a c, e = .returned (.tuple #[.slice a l.length c, .int .i64 0]) ∧ BOk w' a c l) ∧ Below x.heap.size x w') := fun x cs hx hq => (by
    obtain ⟨hv, he⟩ := resP_once hr.row.bd hS
    exact writeS_val x cs (ht.below hx) hq hv he)
  clear ht hr hQ hS
  generalize l.length = nL at *
  go_enter Tryd.func5, Tryd.ntmps5
  go_wp2_with (first
    | (go_at_call 15; refine (HP.out _ HBw.out).mono ?_; rintro e w2 ⟨rfl, hb⟩; have HBw2 : Hid (Below w.heap.size w w2) := HBw.out.trans (hb.mono HBw.out.size); clear hb; have tok2 : True := trivial)
    | (have _h := tok2; refine wpList_store_row rfl 26 _ _ rfl w2.heap.size CZ rfl rfl 26 #[.int .i64 0, .int .i64 0, .string ⟨#[]⟩, .int .i64 0, .int .i64 0, .int .i64 0, .int .i64 0, .int .i64 0, .bool false, .int .i64 0, .int .i64 0, .int .i64 0, .slice none 0 0, .int .i64 0, .int .i64 0, .int .i64 0, .string ⟨#[]⟩] (heap_alloc_new w2 _) (by rw [HZ1.out]; exact Tryd.info26) (by rw [HZ1.out]; rfl) HZ2.out ?_; obtain ⟨hx9, hb⟩ := box_new w2 #[.int .i64 0, .int .i64 0, .string ⟨#[]⟩, .int .i64 0, .int .i64 0, .int .i64 0, .int .i64 0, .int .i64 0, .bool false, .int .i64 0, .int .i64 0, .int .i64 0, .slice none 0 0, .int .i64 0, .int .i64 0, .int .i64 0, .string ⟨#[]⟩] CZ 26; generalize World.setRow _ w2.heap.size CZ = w3 at *; have HXw3 : Hid (w3.heap[w2.heap.size]? = some (.cells CZ 26 (0, 0))) := hx9; have HBw3 : Hid (Below w.heap.size w w3) := HBw2.out.trans (hb.mono HBw2.out.size); have tok3 : True := trivial; clear hx9 hb _h tok2)
    | (go_at_call 18; refine (HU.out _ HBw3.out).mono ?_; rintro e w6 ⟨⟨ds, rfl, hq⟩, hb⟩; have HBw6 : Hid (Below w.heap.size w w6) := HBw3.out.trans (hb.mono HBw3.out.size); clear hb; have HS6 : Hid (SVal w6 ds k' i' d' b') := hq; have HD1 : Hid (ds.size = 9) := hq.size; have HD2 : Hid (ds.all (·.oneCell') = true) := hq.one; clear hq; have tok6 : True := trivial)
    | (have _h := tok6; refine wpList_store_row rfl 40 _ _ rfl w6.heap.size ds rfl rfl 40 #[.int .i64 0, .int .i64 0, .int .i64 0, .int .i64 0, .int .i64 0, .int .i64 0, .slice none 0 0, .slice none 0 0, .slice none 0 0] (heap_alloc_new w6 _) (by rw [HD1.out]; exact Tryd.info40) (by rw [HD1.out]; rfl) HD2.out ?_; obtain ⟨hx9, hb⟩ := box_new w6 #[.int .i64 0, .int .i64 0, .int .i64 0, .int .i64 0, .int .i64 0, .int .i64 0, .slice none 0 0, .slice none 0 0, .slice none 0 0] ds 40; generalize World.setRow _ w6.heap.size ds = w7 at *; have HXw7 : Hid (w7.heap[w6.heap.size]? = some (.cells ds 40 (0, 0))) := hx9; have HBw7 : Hid (Below w.heap.size w w7) := HBw6.out.trans (hb.mono HBw6.out.size); have HS7 : Hid (SVal w7 ds k' i' d' b') := SVal.below HS6.out hb; have tok7 : True := trivial; clear hx9 hb _h tok6)
    | (have _h := tok7; refine wpList_load_row rfl 40 _ rfl w6.heap.size rfl 40 ds (0, 0) _ HXw7.out Tryd.underlying40 rfl (by rw [HD1.out]; exact Tryd.info40) ?_; clear _h tok7; have tok8 : True := trivial)
    | (go_at_call 17; refine (HV.out _ _ HBw7.out HS7.out).mono ?_; rintro e w8 ⟨⟨a8, c8, rfl, hk⟩, hb⟩; have HBw8 : Hid (Below w.heap.size w w8) := HBw7.out.trans (hb.mono HBw7.out.size); clear hb; have HK8 : Hid (BOk w8 a8 c8 l) := hk; clear hk; have tok9 : True := trivial)
    | (have _h := tok9; go_at_call 13; refine (HBY.out _ _ _ HBw8.out HK8.out).mono ?_; rintro e w9 ⟨rfl, hb⟩; have HBw9 : Hid (Below w.heap.size w w9) := HBw8.out.trans (hb.mono HBw8.out.size); clear hb; clear _h tok9)
    | (go_at_call 10; refine (HA.out _ (HT.out _ HBw9.out)).mono ?_; rintro e w10 ⟨rfl, hb⟩; have HBw10 : Hid (Below w.heap.size w w10) := HBw9.out.trans (hb.mono HBw9.out.size); clear hb))
  go_ret
  exact ⟨rfl, HBw10.out⟩
set_option maxHeartbeats 800000 in
set_option maxRecDepth 100000 in
theorem once_yn (a : Option Addr) (cap : Nat) (l : List Nat) (w : World) (ht : Tab w) (hr : BOk w a cap l) (hl : ¬ (l.length : Int) > 30000) (k i : Int) (b : Bd) (hQ : reqP l = some (k, i, b)) (hS : resP l = none) : Calls Tryd.prog 5 #[.slice a l.length cap] w fun e w' => e = .returned (.bool true) ∧ Below w.heap.size w w' := by
  have HA : Hid (∀ x, Tab x → Calls Tryd.prog 10 #[] x fun e w' => e = .returned (.bool true) ∧ Below x.heap.size x w') := fun x h => awake_any x h
  have HBY : Hid (∀ x p k', Below w.heap.size w x → BOk x p k' l → Calls Tryd.prog 13 #[.slice p l.length k', .slice a l.length cap] x fun e w' => e = .returned (.bool true) ∧ Below x.heap.size x w') := fun x p k' hx h => bytes_yes x p a k' cap l h.row (hr.row.below hx) hr.big
  have HT : Hid (∀ x, Below w.heap.size w x → Tab x) := fun x hx => ht.below hx
  have HBw : Hid (Below w.heap.size w w) := Below.refl _ _
  have HP : Hid (∀ x, Below w.heap.size w x → Calls Tryd.prog 15 #[.slice a l.length cap] x fun e w' => (∃ cs, e = .returned (.tuple #[.agg cs, .int .i64 0]) ∧ QVal w' cs k i b) ∧ Below x.heap.size x w') := fun x hx => parseQ_val x a cap l (ht.below hx) (hr.below hx) hQ
  have HW : Hid (∀ x cs, Below w.heap.size w x → QVal x cs k i b → Calls Tryd.prog 11 #[.agg cs] x fun e w' => (∃ a c, e = .returned (.tuple #[.slice a l.length c, .int .i64 0]) ∧ BOk w' a c l) ∧ Below x.heap.size x w') := fun x cs hx hq => (by
    obtain ⟨hv, he⟩ := reqP_once hr.row.bd hQ
    exact writeQ_val x cs (ht.below hx) hq hv he)
  obtain ⟨CY, HCY⟩ : ∃ CY : Array Value, Hid (z40 = CY) := ⟨_, rfl⟩
  have HY1 : Hid (CY.size = 9) := by rw [← HCY.out]; rfl
  have HY2 : Hid (CY.all (·.oneCell') = true) := by show _ = _; rw [← HCY.out]; kernel_rfl
  have HU : Hid (∀ x, Below w.heap.size w x → Calls Tryd.prog 18 #[.slice a l.length cap] x fun e w' => e = .returned (.tuple #[.agg CY, .int .i64 13]) ∧ Below x.heap.size x w') := fun x hx => by rw [← HCY.out]; exact parseS_no x a cap l (ht.below hx) (hr.below hx) hS
  clear ht hr hQ hS
  generalize l.length = nL at *
  go_enter Tryd.func5, Tryd.ntmps5
  go_wp2_with (first
    | (go_at_call 15; refine (HP.out _ HBw.out).mono ?_; rintro e w2 ⟨⟨cs, rfl, hq⟩, hb⟩; have HBw2 : Hid (Below w.heap.size w w2) := HBw.out.trans (hb.mono HBw.out.size); clear hb; have HQ2 : Hid (QVal w2 cs k i b) := hq; have HC1 : Hid (cs.size = 17) := hq.size; have HC2 : Hid (cs.all (·.oneCell') = true) := hq.one; clear hq; have tok2 : True := trivial)
    | (have _h := tok2; refine wpList_store_row rfl 26 _ _ rfl w2.heap.size cs rfl rfl 26 #[.int .i64 0, .int .i64 0, .string ⟨#[]⟩, .int .i64 0, .int .i64 0, .int .i64 0, .int .i64 0, .int .i64 0, .bool false, .int .i64 0, .int .i64 0, .int .i64 0, .slice none 0 0, .int .i64 0, .int .i64 0, .int .i64 0, .string ⟨#[]⟩] (heap_alloc_new w2 _) (by rw [HC1.out]; exact Tryd.info26) (by rw [HC1.out]; rfl) HC2.out ?_; obtain ⟨hx9, hb⟩ := box_new w2 #[.int .i64 0, .int .i64 0, .string ⟨#[]⟩, .int .i64 0, .int .i64 0, .int .i64 0, .int .i64 0, .int .i64 0, .bool false, .int .i64 0, .int .i64 0, .int .i64 0, .slice none 0 0, .int .i64 0, .int .i64 0, .int .i64 0, .string ⟨#[]⟩] cs 26; generalize World.setRow _ w2.heap.size cs = w3 at *; have HXw3 : Hid (w3.heap[w2.heap.size]? = some (.cells cs 26 (0, 0))) := hx9; have HBw3 : Hid (Below w.heap.size w w3) := HBw2.out.trans (hb.mono HBw2.out.size); have HQ3 : Hid (QVal w3 cs k i b) := QVal.below HQ2.out hb; have tok3 : True := trivial; clear hx9 hb _h tok2)
    | (have _h := tok3; refine wpList_load_row rfl 26 _ rfl w2.heap.size rfl 26 cs (0, 0) _ HXw3.out Tryd.underlying26 rfl (by rw [HC1.out]; exact Tryd.info26) ?_; clear _h tok3; have tok4 : True := trivial)
    | (go_at_call 11; refine (HW.out _ _ HBw3.out HQ3.out).mono ?_; rintro e w4 ⟨⟨a4, c4, rfl, hk⟩, hb⟩; have HBw4 : Hid (Below w.heap.size w w4) := HBw3.out.trans (hb.mono HBw3.out.size); clear hb; have HK4 : Hid (BOk w4 a4 c4 l) := hk; clear hk; have tok5 : True := trivial)
    | (have _h := tok5; go_at_call 13; refine (HBY.out _ _ _ HBw4.out HK4.out).mono ?_; rintro e w5 ⟨rfl, hb⟩; have HBw5 : Hid (Below w.heap.size w w5) := HBw4.out.trans (hb.mono HBw4.out.size); clear hb; clear _h tok5)
    | (go_at_call 18; refine (HU.out _ HBw5.out).mono ?_; rintro e w6 ⟨rfl, hb⟩; have HBw6 : Hid (Below w.heap.size w w6) := HBw5.out.trans (hb.mono HBw5.out.size); clear hb; have tok6 : True := trivial)
    | (have _h := tok6; refine wpList_store_row rfl 40 _ _ rfl w6.heap.size CY rfl rfl 40 #[.int .i64 0, .int .i64 0, .int .i64 0, .int .i64 0, .int .i64 0, .int .i64 0, .slice none 0 0, .slice none 0 0, .slice none 0 0] (heap_alloc_new w6 _) (by rw [HY1.out]; exact Tryd.info40) (by rw [HY1.out]; rfl) HY2.out ?_; obtain ⟨hx9, hb⟩ := box_new w6 #[.int .i64 0, .int .i64 0, .int .i64 0, .int .i64 0, .int .i64 0, .int .i64 0, .slice none 0 0, .slice none 0 0, .slice none 0 0] CY 40; generalize World.setRow _ w6.heap.size CY = w7 at *; have HXw7 : Hid (w7.heap[w6.heap.size]? = some (.cells CY 40 (0, 0))) := hx9; have HBw7 : Hid (Below w.heap.size w w7) := HBw6.out.trans (hb.mono HBw6.out.size); have tok7 : True := trivial; clear hx9 hb _h tok6)
    | (go_at_call 10; refine (HA.out _ (HT.out _ HBw7.out)).mono ?_; rintro e w10 ⟨rfl, hb⟩; have HBw10 : Hid (Below w.heap.size w w10) := HBw7.out.trans (hb.mono HBw7.out.size); clear hb))
  go_ret
  exact ⟨rfl, HBw10.out⟩
set_option maxHeartbeats 800000 in
set_option maxRecDepth 100000 in
theorem once_yy (a : Option Addr) (cap : Nat) (l : List Nat) (w : World) (ht : Tab w) (hr : BOk w a cap l) (hl : ¬ (l.length : Int) > 30000) (k i : Int) (b : Bd) (hQ : reqP l = some (k, i, b)) (k' i' d' : Int) (b' : Bd) (hS : resP l = some (k', i', d', b')) : Calls Tryd.prog 5 #[.slice a l.length cap] w fun e w' => e = .returned (.bool true) ∧ Below w.heap.size w w' := by
  have HA : Hid (∀ x, Tab x → Calls Tryd.prog 10 #[] x fun e w' => e = .returned (.bool true) ∧ Below x.heap.size x w') := fun x h => awake_any x h
  have HBY : Hid (∀ x p k', Below w.heap.size w x → BOk x p k' l → Calls Tryd.prog 13 #[.slice p l.length k', .slice a l.length cap] x fun e w' => e = .returned (.bool true) ∧ Below x.heap.size x w') := fun x p k' hx h => bytes_yes x p a k' cap l h.row (hr.row.below hx) hr.big
  have HT : Hid (∀ x, Below w.heap.size w x → Tab x) := fun x hx => ht.below hx
  have HBw : Hid (Below w.heap.size w w) := Below.refl _ _
  have HP : Hid (∀ x, Below w.heap.size w x → Calls Tryd.prog 15 #[.slice a l.length cap] x fun e w' => (∃ cs, e = .returned (.tuple #[.agg cs, .int .i64 0]) ∧ QVal w' cs k i b) ∧ Below x.heap.size x w') := fun x hx => parseQ_val x a cap l (ht.below hx) (hr.below hx) hQ
  have HW : Hid (∀ x cs, Below w.heap.size w x → QVal x cs k i b → Calls Tryd.prog 11 #[.agg cs] x fun e w' => (∃ a c, e = .returned (.tuple #[.slice a l.length c, .int .i64 0]) ∧ BOk w' a c l) ∧ Below x.heap.size x w') := fun x cs hx hq => (by
    obtain ⟨hv, he⟩ := reqP_once hr.row.bd hQ
    exact writeQ_val x cs (ht.below hx) hq hv he)
  have HU : Hid (∀ x, Below w.heap.size w x → Calls Tryd.prog 18 #[.slice a l.length cap] x fun e w' => (∃ cs, e = .returned (.tuple #[.agg cs, .int .i64 0]) ∧ SVal w' cs k' i' d' b') ∧ Below x.heap.size x w') := fun x hx => parseS_val x a cap l (ht.below hx) (hr.below hx) hS
  have HV : Hid (∀ x cs, Below w.heap.size w x → SVal x cs k' i' d' b' → Calls Tryd.prog 17 #[.agg cs] x fun e w' => (∃ a c, e = .returned (.tuple #[.slice a l.length c, .int .i64 0]) ∧ BOk w' a c l) ∧ Below x.heap.size x w') := fun x cs hx hq => (by
    obtain ⟨hv, he⟩ := resP_once hr.row.bd hS
    exact writeS_val x cs (ht.below hx) hq hv he)
  clear ht hr hQ hS
  generalize l.length = nL at *
  go_enter Tryd.func5, Tryd.ntmps5
  go_wp2_with (first
    | (go_at_call 15; refine (HP.out _ HBw.out).mono ?_; rintro e w2 ⟨⟨cs, rfl, hq⟩, hb⟩; have HBw2 : Hid (Below w.heap.size w w2) := HBw.out.trans (hb.mono HBw.out.size); clear hb; have HQ2 : Hid (QVal w2 cs k i b) := hq; have HC1 : Hid (cs.size = 17) := hq.size; have HC2 : Hid (cs.all (·.oneCell') = true) := hq.one; clear hq; have tok2 : True := trivial)
    | (have _h := tok2; refine wpList_store_row rfl 26 _ _ rfl w2.heap.size cs rfl rfl 26 #[.int .i64 0, .int .i64 0, .string ⟨#[]⟩, .int .i64 0, .int .i64 0, .int .i64 0, .int .i64 0, .int .i64 0, .bool false, .int .i64 0, .int .i64 0, .int .i64 0, .slice none 0 0, .int .i64 0, .int .i64 0, .int .i64 0, .string ⟨#[]⟩] (heap_alloc_new w2 _) (by rw [HC1.out]; exact Tryd.info26) (by rw [HC1.out]; rfl) HC2.out ?_; obtain ⟨hx9, hb⟩ := box_new w2 #[.int .i64 0, .int .i64 0, .string ⟨#[]⟩, .int .i64 0, .int .i64 0, .int .i64 0, .int .i64 0, .int .i64 0, .bool false, .int .i64 0, .int .i64 0, .int .i64 0, .slice none 0 0, .int .i64 0, .int .i64 0, .int .i64 0, .string ⟨#[]⟩] cs 26; generalize World.setRow _ w2.heap.size cs = w3 at *; have HXw3 : Hid (w3.heap[w2.heap.size]? = some (.cells cs 26 (0, 0))) := hx9; have HBw3 : Hid (Below w.heap.size w w3) := HBw2.out.trans (hb.mono HBw2.out.size); have HQ3 : Hid (QVal w3 cs k i b) := QVal.below HQ2.out hb; have tok3 : True := trivial; clear hx9 hb _h tok2)
    | (have _h := tok3; refine wpList_load_row rfl 26 _ rfl w2.heap.size rfl 26 cs (0, 0) _ HXw3.out Tryd.underlying26 rfl (by rw [HC1.out]; exact Tryd.info26) ?_; clear _h tok3; have tok4 : True := trivial)
    | (go_at_call 11; refine (HW.out _ _ HBw3.out HQ3.out).mono ?_; rintro e w4 ⟨⟨a4, c4, rfl, hk⟩, hb⟩; have HBw4 : Hid (Below w.heap.size w w4) := HBw3.out.trans (hb.mono HBw3.out.size); clear hb; have HK4 : Hid (BOk w4 a4 c4 l) := hk; clear hk; have tok5 : True := trivial)
    | (have _h := tok5; go_at_call 13; refine (HBY.out _ _ _ HBw4.out HK4.out).mono ?_; rintro e w5 ⟨rfl, hb⟩; have HBw5 : Hid (Below w.heap.size w w5) := HBw4.out.trans (hb.mono HBw4.out.size); clear hb; clear _h tok5)
    | (go_at_call 18; refine (HU.out _ HBw5.out).mono ?_; rintro e w6 ⟨⟨ds, rfl, hq⟩, hb⟩; have HBw6 : Hid (Below w.heap.size w w6) := HBw5.out.trans (hb.mono HBw5.out.size); clear hb; have HS6 : Hid (SVal w6 ds k' i' d' b') := hq; have HD1 : Hid (ds.size = 9) := hq.size; have HD2 : Hid (ds.all (·.oneCell') = true) := hq.one; clear hq; have tok6 : True := trivial)
    | (have _h := tok6; refine wpList_store_row rfl 40 _ _ rfl w6.heap.size ds rfl rfl 40 #[.int .i64 0, .int .i64 0, .int .i64 0, .int .i64 0, .int .i64 0, .int .i64 0, .slice none 0 0, .slice none 0 0, .slice none 0 0] (heap_alloc_new w6 _) (by rw [HD1.out]; exact Tryd.info40) (by rw [HD1.out]; rfl) HD2.out ?_; obtain ⟨hx9, hb⟩ := box_new w6 #[.int .i64 0, .int .i64 0, .int .i64 0, .int .i64 0, .int .i64 0, .int .i64 0, .slice none 0 0, .slice none 0 0, .slice none 0 0] ds 40; generalize World.setRow _ w6.heap.size ds = w7 at *; have HXw7 : Hid (w7.heap[w6.heap.size]? = some (.cells ds 40 (0, 0))) := hx9; have HBw7 : Hid (Below w.heap.size w w7) := HBw6.out.trans (hb.mono HBw6.out.size); have HS7 : Hid (SVal w7 ds k' i' d' b') := SVal.below HS6.out hb; have tok7 : True := trivial; clear hx9 hb _h tok6)
    | (have _h := tok7; refine wpList_load_row rfl 40 _ rfl w6.heap.size rfl 40 ds (0, 0) _ HXw7.out Tryd.underlying40 rfl (by rw [HD1.out]; exact Tryd.info40) ?_; clear _h tok7; have tok8 : True := trivial)
    | (go_at_call 17; refine (HV.out _ _ HBw7.out HS7.out).mono ?_; rintro e w8 ⟨⟨a8, c8, rfl, hk⟩, hb⟩; have HBw8 : Hid (Below w.heap.size w w8) := HBw7.out.trans (hb.mono HBw7.out.size); clear hb; have HK8 : Hid (BOk w8 a8 c8 l) := hk; clear hk; have tok9 : True := trivial)
    | (have _h := tok9; go_at_call 13; refine (HBY.out _ _ _ HBw8.out HK8.out).mono ?_; rintro e w9 ⟨rfl, hb⟩; have HBw9 : Hid (Below w.heap.size w w9) := HBw8.out.trans (hb.mono HBw8.out.size); clear hb; clear _h tok9)
    | (go_at_call 10; refine (HA.out _ (HT.out _ HBw9.out)).mono ?_; rintro e w10 ⟨rfl, hb⟩; have HBw10 : Hid (Below w.heap.size w w10) := HBw9.out.trans (hb.mono HBw9.out.size); clear hb))
  go_ret
  exact ⟨rfl, HBw10.out⟩
set_option maxHeartbeats 800000 in
set_option maxRecDepth 100000 in
theorem once_long (a : Option Addr) (cap : Nat) (l : List Nat) (w : World) (ht : Tab w) (hl : (l.length : Int) > 30000) : Calls Tryd.prog 5 #[.slice a l.length cap] w fun e w' => e = .returned (.bool true) ∧ Below w.heap.size w w' := by
  have HA : Hid (∀ x, Tab x → Calls Tryd.prog 10 #[] x fun e w' => e = .returned (.bool true) ∧ Below x.heap.size x w') := fun x h => awake_any x h
  have HT : Hid (Tab w) := ht
  clear ht
  generalize l.length = nL at *
  go_enter Tryd.func5, Tryd.ntmps5
  go_wp2_with (go_at_call 10; refine (HA.out _ HT.out).mono ?_; rintro e w10 ⟨rfl, hb⟩; have HB : Hid (Below w.heap.size w w10) := hb; clear hb)
  go_ret
  exact ⟨rfl, HB.out⟩
theorem codecOnce_walk (a0 : Option Addr) (cap0 : Nat) (l0 : List Nat) (w : World) (ht : Tab w) (w0 : Row w a0 l0) (m0 : l0.length ≤ maxLen) (c0 : l0.length ≤ cap0) (n0 : a0 = none → cap0 = 0) (x0 : cap0 ≤ maxLen) : Calls Tryd.prog 5 #[.slice a0 l0.length cap0] w fun e w' => e = .returned (.bool true) ∧ Below w.heap.size w w' := by
  by_cases hl : (l0.length : Int) > 30000
  · exact once_long a0 cap0 l0 w ht hl
  · have hr : BOk w a0 cap0 l0 := ⟨w0, c0, x0, n0, by omega⟩
    cases hQ : reqP l0 with
    | none =>
      cases hS : resP l0 with
      | none => exact once_nn a0 cap0 l0 w ht hr hl hQ hS
      | some y => obtain ⟨k', i', d', b'⟩ := y; exact once_ny a0 cap0 l0 w ht hr hl hQ _ _ _ _ hS
    | some x =>
      obtain ⟨k, i, b⟩ := x
      cases hS : resP l0 with
      | none => exact once_yn a0 cap0 l0 w ht hr hl _ _ _ hQ hS
      | some y => obtain ⟨k', i', d', b'⟩ := y; exact once_yy a0 cap0 l0 w ht hr hl _ _ _ hQ _ _ _ _ hS
end Go.Proofs.YtaooidckmepdeaaDoor
