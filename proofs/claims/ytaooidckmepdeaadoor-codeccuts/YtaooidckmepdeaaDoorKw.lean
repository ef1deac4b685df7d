/- The reader: fields. -/
import Derived.Test.YtaooidckmepdeaaDoorKv
import Derived.Test.YtaooidckmepdeaaDoorKj
namespace Go.Proofs.YtaooidckmepdeaaDoor
set_option linter.unusedSimpArgs false
set_option linter.unusedVariables false
open Go.RowKit
def ptz : Pt := ⟨none, 0, none, 0, none, 0, none, 0, []⟩
theorem bdc_z : bdc bdz ptz = (List.toArray (Value.int .i64 0 :: Value.int .i64 0 :: Value.int .i64 0 :: Value.int .i64 0 :: Value.int .i64 0 :: Value.int .i64 0 :: Value.int .i64 0 :: Value.int .i64 0 :: Value.int .i64 0 :: Value.int .i64 0 :: Value.int .i64 0 :: Value.int .i64 0 :: Value.int .i64 0 :: Value.int .i64 0 :: Value.int .i64 0 :: Value.int .i64 0 :: Value.int .i64 0 :: Value.int .i64 0 :: Value.int .i64 0 :: Value.int .i64 0 :: Value.string ⟨#[]⟩ :: Value.string ⟨#[]⟩ :: Value.string ⟨#[]⟩ :: Value.string ⟨#[]⟩ :: Value.string ⟨#[]⟩ :: Value.string ⟨#[]⟩ :: Value.string ⟨#[]⟩ :: Value.string ⟨#[]⟩ :: Value.string ⟨#[]⟩ :: Value.string ⟨#[]⟩ :: Value.string ⟨#[]⟩ :: Value.string ⟨#[]⟩ :: Value.string ⟨#[]⟩ :: Value.string ⟨#[]⟩ :: Value.string ⟨#[]⟩ :: Value.string ⟨#[]⟩ :: Value.string ⟨#[]⟩ :: Value.string ⟨#[]⟩ :: Value.string ⟨#[]⟩ :: Value.string ⟨#[]⟩ :: Value.slice none 0 0 :: Value.slice none 0 0 :: Value.slice none 0 0 :: Value.slice none 0 0 :: [])) := by rfl
theorem BdX.new (w : World) : BdX (w.alloc (.cells (List.toArray (Value.int .i64 0 :: Value.int .i64 0 :: Value.int .i64 0 :: Value.int .i64 0 :: Value.int .i64 0 :: Value.int .i64 0 :: Value.int .i64 0 :: Value.int .i64 0 :: Value.int .i64 0 :: Value.int .i64 0 :: Value.int .i64 0 :: Value.int .i64 0 :: Value.int .i64 0 :: Value.int .i64 0 :: Value.int .i64 0 :: Value.int .i64 0 :: Value.int .i64 0 :: Value.int .i64 0 :: Value.int .i64 0 :: Value.int .i64 0 :: Value.string ⟨#[]⟩ :: Value.string ⟨#[]⟩ :: Value.string ⟨#[]⟩ :: Value.string ⟨#[]⟩ :: Value.string ⟨#[]⟩ :: Value.string ⟨#[]⟩ :: Value.string ⟨#[]⟩ :: Value.string ⟨#[]⟩ :: Value.string ⟨#[]⟩ :: Value.string ⟨#[]⟩ :: Value.string ⟨#[]⟩ :: Value.string ⟨#[]⟩ :: Value.string ⟨#[]⟩ :: Value.string ⟨#[]⟩ :: Value.string ⟨#[]⟩ :: Value.string ⟨#[]⟩ :: Value.string ⟨#[]⟩ :: Value.string ⟨#[]⟩ :: Value.string ⟨#[]⟩ :: Value.string ⟨#[]⟩ :: Value.slice none 0 0 :: Value.slice none 0 0 :: Value.slice none 0 0 :: Value.slice none 0 0 :: [])) 66)) w.heap.size bdz ptz := by
  refine ⟨by rw [bdc_z]; exact heap_alloc_new w _, ?_, ?_, ?_, ⟨?_, ?_⟩, rfl, fun _ => rfl, ?_, ?_, ?_, ?_⟩
  · intro i hi; simp [bdz, fz] at hi
  · intro i hi; simp [bdz, fz] at hi
  · intro i hi; simp [bdz, fz] at hi
  · intro i hi; simp [ptz] at hi
  · intro i hi; simp [ptz] at hi
  all_goals (intro g hg; simp [ptz] at hg)
theorem gFs_snoc : ∀ (l : List Nat) (f : Nat) (b : Bd) (s : Ls), gFs (l ++ [f]) b s = (setB (gFs l b s).1 f (gK (kd f) (gFs l b s).2).1, (gK (kd f) (gFs l b s).2).2) := by
  intro l
  induction l with
  | nil => intro f b s; rfl
  | cons x r ih => intro f b s; simp only [List.cons_append, gFs]; rw [ih]
theorem gFs_take (r : List Nat) (b : Bd) (s : Ls) (k : Nat) (hk : k < r.length) : gFs (r.take (k + 1)) b s = (setB (gFs (r.take k) b s).1 (r.getD k 0) (gK (kd (r.getD k 0)) (gFs (r.take k) b s).2).1, (gK (kd (r.getD k 0)) (gFs (r.take k) b s).2).2) := by
  rw [← gFs_snoc, List.take_add_one]
  congr 2
  simp [List.getD, hk]
theorem gFs_off : ∀ (l : List Nat) (b : Bd) (s : Ls) (g : Nat), g ∉ l → (gFs l b s).1 g = b g := by
  intro l
  induction l with
  | nil => intro b s g _; rfl
  | cons x r ih =>
    intro b s g hg
    simp only [List.mem_cons, not_or] at hg
    simp only [gFs]
    rw [ih _ _ g hg.2]
    simp [setB, hg.1]
theorem nodup_take {r : List Nat} (h : r.Nodup) {k : Nat} (hk : k < r.length) : r.getD k 0 ∉ r.take k := by
  intro hm
  obtain ⟨i, hi, e⟩ := List.getElem_of_mem hm
  rw [List.length_take] at hi
  rw [List.getElem_take] at e
  rw [show r.getD k 0 = r[k] by simp [List.getD, hk]] at e
  exact (List.pairwise_iff_getElem.1 h) i k (by omega) hk (by omega) e
theorem frow_ne {w0 w : World} {st : Ls} {a : Option Addr} {r : List Nat} (h : FRow w a r) (hr : RdR w0 w st) {i : Nat} (hi : i < r.length) {b off : Nat} (e : a = some ⟨b, off, none⟩) : b ≠ w0.heap.size ∧ b < w.heap.size := by
  obtain ⟨b', off', e', c⟩ := h i hi
  rw [e] at e'
  simp only [Option.some.injEq, Addr.mk.injEq, and_true] at e'
  obtain ⟨rfl, rfl⟩ := e'
  refine ⟨?_, World.block_lt_of_cell? _ _ c⟩
  rintro rfl
  obtain ⟨a2, cap, hx, _⟩ := hr.box
  rw [(box_at hx _).1] at c
  have hm := List.mem_of_getElem? (by rw [← Array.getElem?_toList] at c; exact c)
  simp at hm
theorem FRow.keepX {w0 w w' : World} {st : Ls} {a : Option Addr} {r : List Nat} (h : FRow w a r) (hr : RdR w0 w st) (k : KeepX w0.heap.size w.heap.size w w') : FRow w' a r := by
  intro i hi
  obtain ⟨b, off, e, c⟩ := h i hi
  obtain ⟨n1, n2⟩ := frow_ne h hr hi e
  exact ⟨b, off, e, (World.cell?_of_block (a := ⟨b, off + i, none⟩) (k.blk b n1 (by omega) n2)).trans c⟩
/-- What fields tells. -/
def FsP (w0 w : World) (b : Bd) (st : Ls) (e : Ending) (w' : World) : Prop := ∃ p X, w.heap.size ≤ X ∧ e = .returned (.agg (bdc b p)) ∧ BdX w' X b p ∧ RdR w0 w' st ∧ KeepB w0.heap.size w w'
set_option maxRecDepth 100000 in
set_option maxHeartbeats 400000 in
theorem rfields_any (w0 w : World) (st : Ls) (a : Option Addr) (cap : Nat) (r : List Nat) (ht : Tab w0) (hlen : r.length ≤ 7) (hf : ∀ f, f ∈ r → f < 20) (hnd : r.Nodup) (hr : FRow w a r) (h : RdR w0 w st) :
    Calls Tryd.prog 33 #[(.pointer (some ⟨w0.heap.size, 0, none⟩)), .slice a r.length cap] w (FsP w0 w (gFs r bdz st).1 (gFs r bdz st).2) := by
  have hz : w0.heap.size < w.heap.size := by obtain ⟨a, cap, hx, _⟩ := h.box; exact (Array.getElem?_eq_some_iff.1 hx).1
  obtain ⟨S, HS⟩ : ∃ S : Nat → Ls, Hid (∀ k, S k = (gFs (r.take k) bdz st).2) := ⟨_, fun _ => rfl⟩
  obtain ⟨B, HB⟩ : ∃ B : Nat → Bd, Hid (∀ k, B k = (gFs (r.take k) bdz st).1) := ⟨_, fun _ => rfl⟩
  have HS0 : Hid (st = S 0 ∧ bdz = B 0) := ⟨by rw [HS.out]; rfl, by rw [HB.out]; rfl⟩
  have HSN : Hid (S r.length = (gFs r bdz st).2 ∧ B r.length = (gFs r bdz st).1) := ⟨by rw [HS.out, List.take_length], by rw [HB.out, List.take_length]⟩
  have HT : Hid (∀ k x p, k < r.length → RdR w0 x (S k) → BdX x w.heap.size (B k) p → Calls Tryd.prog 49 #[(.pointer (some ⟨w0.heap.size, 0, none⟩)), .pointer (some ⟨w.heap.size, 0, none⟩), .int .i64 ((r.getD k 0 : Nat) : Int)] x (TkP w0 x w.heap.size (B (k + 1)) (S (k + 1)))) := fun k x p hk q1 q2 => by
    rw [HB.out (k + 1), HS.out (k + 1), gFs_take r bdz st k hk, ← HB.out k, ← HS.out k]
    refine take_any w0 x (S k) w.heap.size (B k) p _ (hf _ ?_) ht ?_ hz q1 q2
    · rw [show r.getD k 0 = r[k] by simp [List.getD, hk]]; exact List.getElem_mem hk
    · rw [HB.out, gFs_off _ _ _ _ (nodup_take hnd hk)]; rfl
  have HR0 : Hid (RdR w0 (w.alloc (.cells (List.toArray (Value.int .i64 0 :: Value.int .i64 0 :: Value.int .i64 0 :: Value.int .i64 0 :: Value.int .i64 0 :: Value.int .i64 0 :: Value.int .i64 0 :: Value.int .i64 0 :: Value.int .i64 0 :: Value.int .i64 0 :: Value.int .i64 0 :: Value.int .i64 0 :: Value.int .i64 0 :: Value.int .i64 0 :: Value.int .i64 0 :: Value.int .i64 0 :: Value.int .i64 0 :: Value.int .i64 0 :: Value.int .i64 0 :: Value.int .i64 0 :: Value.string ⟨#[]⟩ :: Value.string ⟨#[]⟩ :: Value.string ⟨#[]⟩ :: Value.string ⟨#[]⟩ :: Value.string ⟨#[]⟩ :: Value.string ⟨#[]⟩ :: Value.string ⟨#[]⟩ :: Value.string ⟨#[]⟩ :: Value.string ⟨#[]⟩ :: Value.string ⟨#[]⟩ :: Value.string ⟨#[]⟩ :: Value.string ⟨#[]⟩ :: Value.string ⟨#[]⟩ :: Value.string ⟨#[]⟩ :: Value.string ⟨#[]⟩ :: Value.string ⟨#[]⟩ :: Value.string ⟨#[]⟩ :: Value.string ⟨#[]⟩ :: Value.string ⟨#[]⟩ :: Value.string ⟨#[]⟩ :: Value.slice none 0 0 :: Value.slice none 0 0 :: Value.slice none 0 0 :: Value.slice none 0 0 :: [])) 66)) st) := h.below (below_box _)
  have HX0 : Hid (BdX (w.alloc (.cells (List.toArray (Value.int .i64 0 :: Value.int .i64 0 :: Value.int .i64 0 :: Value.int .i64 0 :: Value.int .i64 0 :: Value.int .i64 0 :: Value.int .i64 0 :: Value.int .i64 0 :: Value.int .i64 0 :: Value.int .i64 0 :: Value.int .i64 0 :: Value.int .i64 0 :: Value.int .i64 0 :: Value.int .i64 0 :: Value.int .i64 0 :: Value.int .i64 0 :: Value.int .i64 0 :: Value.int .i64 0 :: Value.int .i64 0 :: Value.int .i64 0 :: Value.string ⟨#[]⟩ :: Value.string ⟨#[]⟩ :: Value.string ⟨#[]⟩ :: Value.string ⟨#[]⟩ :: Value.string ⟨#[]⟩ :: Value.string ⟨#[]⟩ :: Value.string ⟨#[]⟩ :: Value.string ⟨#[]⟩ :: Value.string ⟨#[]⟩ :: Value.string ⟨#[]⟩ :: Value.string ⟨#[]⟩ :: Value.string ⟨#[]⟩ :: Value.string ⟨#[]⟩ :: Value.string ⟨#[]⟩ :: Value.string ⟨#[]⟩ :: Value.string ⟨#[]⟩ :: Value.string ⟨#[]⟩ :: Value.string ⟨#[]⟩ :: Value.string ⟨#[]⟩ :: Value.string ⟨#[]⟩ :: Value.slice none 0 0 :: Value.slice none 0 0 :: Value.slice none 0 0 :: Value.slice none 0 0 :: [])) 66)) w.heap.size bdz ptz) := BdX.new w
  have HK0 : Hid (KeepX w0.heap.size w.heap.size w (w.alloc (.cells (List.toArray (Value.int .i64 0 :: Value.int .i64 0 :: Value.int .i64 0 :: Value.int .i64 0 :: Value.int .i64 0 :: Value.int .i64 0 :: Value.int .i64 0 :: Value.int .i64 0 :: Value.int .i64 0 :: Value.int .i64 0 :: Value.int .i64 0 :: Value.int .i64 0 :: Value.int .i64 0 :: Value.int .i64 0 :: Value.int .i64 0 :: Value.int .i64 0 :: Value.int .i64 0 :: Value.int .i64 0 :: Value.int .i64 0 :: Value.int .i64 0 :: Value.string ⟨#[]⟩ :: Value.string ⟨#[]⟩ :: Value.string ⟨#[]⟩ :: Value.string ⟨#[]⟩ :: Value.string ⟨#[]⟩ :: Value.string ⟨#[]⟩ :: Value.string ⟨#[]⟩ :: Value.string ⟨#[]⟩ :: Value.string ⟨#[]⟩ :: Value.string ⟨#[]⟩ :: Value.string ⟨#[]⟩ :: Value.string ⟨#[]⟩ :: Value.string ⟨#[]⟩ :: Value.string ⟨#[]⟩ :: Value.string ⟨#[]⟩ :: Value.string ⟨#[]⟩ :: Value.string ⟨#[]⟩ :: Value.string ⟨#[]⟩ :: Value.string ⟨#[]⟩ :: Value.string ⟨#[]⟩ :: Value.slice none 0 0 :: Value.slice none 0 0 :: Value.slice none 0 0 :: Value.slice none 0 0 :: [])) 66))) := KeepX.of (KeepB.of_below (below_box _))
  have HRW : Hid (RdR w0 w st) := h
  have HFR : Hid (FRow w a r) := hr
  have hlI : (r.length : Int) ≤ 7 := by omega
  generalize (gFs r bdz st).1 = bE at *
  generalize (gFs r bdz st).2 = sE at *
  clear h hr hf hnd HS HB ht
  go_enter Tryd.func33, Tryd.ntmps33
  go_wp2_with fail
  go_loopw [9] (fun i wr => ∃ k : Nat, k ≤ r.length ∧ i = .int .i64 k ∧ RdR w0 wr (S k) ∧ (∃ p, BdX wr w.heap.size (B k) p) ∧ KeepX w0.heap.size w.heap.size w wr) (fun i _ => r.length - (intOf i).toNat)
  case atStart => exact ⟨0, by omega, rfl, by rw [← HS0.out.1]; exact HR0.out, ⟨ptz, by rw [← HS0.out.2]; exact HX0.out⟩, HK0.out⟩
  case round =>
    obtain ⟨k, hk, rfl, hw1, ⟨p, hx1⟩, hk1⟩ := hrel
    by_cases hlt : k < r.length
    · have hltI : (k : Int) < (r.length : Int) := by omega
      obtain ⟨b, off, rfl, z0⟩ := (FRow.keepX HFR.out HRW.out hk1) k hlt
      have HC : Hid _ := HT.out k wr p hlt hw1 hx1
      have HK1 : Hid (KeepX w0.heap.size w.heap.size w wr) := hk1
      clear hw1 hx1 HT hk1
      generalize r.getD k 0 = f at *
      go_wp2_with (first
        | (go_at_call 49; refine Calls.mono HC.out ?_; rintro e w2 ⟨rfl, hx2, hw2, hk2⟩; clear HC))
      exact ⟨⟨k + 1, by omega, by go_num, hw2, hx2, HK1.out.trans hk2⟩, by simp [intOf]; omega⟩
    · obtain rfl : k = r.length := by omega
      have HX1 : Hid (BdX wr w.heap.size (B r.length) p) := hx1
      have HZ : Hid ((bdc (B r.length) p).size = 44) := bdc_size _ _
      have HONE : Hid ((bdc (B r.length) p).all (·.oneCell') = true) := all_one
      have HBX : Hid (wr.heap[w.heap.size]? = some (.cells (bdc (B r.length) p) 66 (0, 0))) := hx1.box
      obtain ⟨CS, HCS⟩ : ∃ CS, Hid (bdc (B r.length) p = CS) := ⟨_, rfl⟩
      rw [HCS.out] at HZ HONE HBX
      have HW1 : Hid (RdR w0 wr (S r.length)) := hw1
      have HK1 : Hid (KeepX w0.heap.size w.heap.size w wr) := hk1
      clear hx1 hw1 hk1
      go_wp2_with (first
        | (refine wpList_load_row rfl 66 _ rfl w.heap.size rfl 66 CS (0, 0) _ HBX.out Tryd.underlying66 rfl (by rw [HZ.out]; exact Tryd.info66) ?_)
        | (refine wpList_store_row rfl 66 _ _ rfl w.heap.size CS rfl rfl 66 CS HBX.out (by rw [HZ.out]; exact Tryd.info66) rfl HONE.out ?_))
      refine bodyPost_ret (results_cell_row rfl _ _ w.heap.size 66 CS (0, 0) _ rfl (setRow_heap _ _ _ _ _ _ HBX.out) Tryd.underlying66 rfl (by rw [HZ.out]; exact Tryd.info66)) rfl ?_
      rw [setRow_self _ _ _ _ _ HBX.out]
      rw [← HSN.out.1, ← HSN.out.2]
      exact ⟨p, w.heap.size, Nat.le_refl _, by rw [HCS.out], HX1.out, HW1.out, HK1.out.size, fun x n1 n2 => HK1.out.blk x n1 (by omega) n2⟩
end Go.Proofs.YtaooidckmepdeaaDoor
