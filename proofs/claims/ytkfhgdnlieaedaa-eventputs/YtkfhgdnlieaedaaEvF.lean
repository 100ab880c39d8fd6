/- Contracts of event.Get. -/
import Derived.Test.YtkfhgdnlieaedaaEvE
namespace Go.Proofs.Ytkfhgdnlieaedaa.W
open Go.RowKit

set_option maxRecDepth 100000 in
set_option maxHeartbeats 3200000 in
theorem get_ok (A : Option Addr) (k c : Nat) (bs : List Nat) (w : World) (hk : k = bs.length) (hc : k ≤ c) (hA : Lies w w.heap.size A (bs.map bv)) (hb : ∀ x ∈ bs, x < 256) (hl : k ≤ 1000000000) (hok : nxF (bs.take 70) 0 = 0) :
    Calls Try.prog 14 #[.slice A k c] w fun e w' => e = .returned (.tuple #[ev (nxE (bs.take 70) 0), .int .i64 (nxA (bs.take 70) 0 : Int), .int .i64 0]) ∧ Below w.heap.size w w' := by
  obtain ⟨m, hm⟩ : ∃ m, min k 70 = m := ⟨_, rfl⟩
  have hmi : (m : Int) = min (k : Int) 70 := by omega
  have hmk : m ≤ k := by omega
  have hmc : m ≤ c := by omega
  have hml : m = (bs.take 70).length := by rw [List.length_take, ← hk]; omega
  have HMI := Lib.hid hmi
  have HML := Lib.hid hml
  have HOK := Lib.hid hok
  have b0 : Below w.heap.size w (w.alloc (.cells #[.int .i64 0, .int .i64 0, .int .i64 0, .int .i64 0, .int .i64 0, .int .i64 0, .int .i64 0, .int .i64 0, .int .i64 0, .int .i64 0] 27)) := (Below.refl _ _).alloc (Nat.le_refl _) _
  have hbox := heap_alloc_new w (.cells #[.int .i64 0, .int .i64 0, .int .i64 0, .int .i64 0, .int .i64 0, .int .i64 0, .int .i64 0, .int .i64 0, .int .i64 0, .int .i64 0] 27)
  have hLA : Lies w w.heap.size A ((bs.take 70).map bv) := by rw [List.map_take]; exact hA.take 70
  have hs0 : (w.alloc (.cells #[.int .i64 0, .int .i64 0, .int .i64 0, .int .i64 0, .int .i64 0, .int .i64 0, .int .i64 0, .int .i64 0, .int .i64 0, .int .i64 0] 27)).heap.size = w.heap.size + 1 := by simp
  have hby : ∀ x ∈ bs.take 70, x < 256 := fun x hx => hb x (List.mem_of_mem_take hx)
  clear hm hmi hml hok hk hA hb
  obtain ⟨cs, hcs⟩ : ∃ cs, bs.take 70 = cs := ⟨_, rfl⟩
  rw [hcs] at HML HOK hLA hby ⊢
  clear hcs
  go_enter Try.func14, Try.ntmps14
  go_wp2_with (with_reducible refine wpList_min_to rfl _ _ _ _ rfl .i64 .i64 (k : Int) 70 (m : Int) rfl rfl HMI.out ?_)
  have L1 := hLA.below b0 (Nat.le_refl _)
  generalize w.alloc (.cells #[.int .i64 0, .int .i64 0, .int .i64 0, .int .i64 0, .int .i64 0, .int .i64 0, .int .i64 0, .int .i64 0, .int .i64 0, .int .i64 0] 27) = w1 at b0 hbox hs0 L1 ⊢
  refine (read_any A m c cs w1 HML.out (L1.more b0.size) hby (by omega)).mono ?_
  rintro e w2 ⟨r, rfl, hr, hR, b2⟩
  have hbox2 := (Only.of_below (S := fun _ => False) b2).blk (fun q => q) hbox
  have b02 : Below w.heap.size w w2 := b0.trans (b2.mono b0.size)
  have hr0 : w.heap.size < r := by omega
  clear hbox b0 L1 b2 hr hs0
  go_wp2_with fail
  refine (next_any r 0 cs w2 hR).mono ?_
  rintro e w3 ⟨rfl, hR3, o3⟩
  have hbox3 := o3.blk (by omega) hbox2
  have b03 : Below w.heap.size w w3 := b02.trans (o3.below (fun j q => by omega) b02.size)
  obtain ⟨⟨q0, q1, q2, q3, q4, q5, q6, q7, q8, q9⟩, hq⟩ : ∃ q, nxE cs 0 = q := ⟨_, rfl⟩
  have HQ := Lib.hid hq
  rw [hq]
  clear hbox2 b02 hR o3 hq
  dsimp only [ev]
  have hboxE := heap_alloc_new w3 (.cells #[.int .i64 q0, .int .i64 q1, .int .i64 q2, .int .i64 q3, .int .i64 q4, .int .i64 q5, .int .i64 q6, .int .i64 q7, .int .i64 q8, .int .i64 q9] 27)
  have bE : Below w3.heap.size w3 (w3.alloc (.cells #[.int .i64 q0, .int .i64 q1, .int .i64 q2, .int .i64 q3, .int .i64 q4, .int .i64 q5, .int .i64 q6, .int .i64 q7, .int .i64 q8, .int .i64 q9] 27)) := (Below.refl _ _).alloc (Nat.le_refl _) _
  go_upto_region 3 with (fail)
  have hbox4 := (Only.of_below (S := fun _ => False) bE).blk (fun q => q) hbox3
  have hR4 := hR3.keep bE hR3.lt
  have b04 : Below w.heap.size w (w3.alloc (.cells #[.int .i64 q0, .int .i64 q1, .int .i64 q2, .int .i64 q3, .int .i64 q4, .int .i64 q5, .int .i64 q6, .int .i64 q7, .int .i64 q8, .int .i64 q9] 27)) := b03.trans (bE.mono b03.size)
  obtain ⟨e0, he0⟩ : ∃ e0, w3.heap.size = e0 := ⟨_, rfl⟩
  rw [he0] at hboxE
  try rw [he0]
  have hne : w.heap.size ≠ e0 := by have := lt_of_row hbox3; omega
  clear hbox3 b03 hR3 bE
  generalize w3.alloc (.cells #[.int .i64 q0, .int .i64 q1, .int .i64 q2, .int .i64 q3, .int .i64 q4, .int .i64 q5, .int .i64 q6, .int .i64 q7, .int .i64 q8, .int .i64 q9] 27) = w4 at hboxE hbox4 hR4 b04 ⊢
  rw [HOK.out] at hR4
  go_wp2_with fail
  refine (err_any r _ 0 _ _ hR4).mono ?_
  rintro e w5 ⟨rfl, rfl⟩
  have ⟨t0, t1, t2, t3, t4, t5, t6, t7, t8, t9, _⟩ := ten_of hboxE
  go_upto_region 5 with (fail)
  obtain ⟨n, hn⟩ : ∃ n, nxA cs 0 = n := ⟨_, rfl⟩
  have hat : ∀ j, Calls Try.prog 24 #[.pointer (some ⟨r, 0, none⟩)] (w4.drewN j) fun e w' => e = .returned (.int .i64 (n : Int)) ∧ w' = w4.drewN j := fun j => by
    rw [← hn]; exact quiet_eq (at_any r _ 0 _ _ (hR4.drewN j))
  have HN := Lib.hid hn
  have HAT := Lib.hid hat
  clear hat hn
  go_still_tail 3, (by kernel_rfl)
  still_call (HAT.out 1)
  refine wpStill_nil ?_
  change wpList _ _ _ _ _ w4.drew
  have HB := Lib.hid (show w4.drew.heap[w.heap.size]? = _ from hbox4)
  have b05 : Below w.heap.size w w4.drew := below_drewN b04 1
  clear t0 t1 t2 t3 t4 t5 t6 t7 t8 t9 hboxE hbox4 hR4 b04
  generalize w4.drew = w5 at HB b05 ⊢
  go_wp2_with (with_reducible refine wpList_store_ev rfl _ _ rfl w.heap.size q0 q1 q2 q3 q4 q5 q6 q7 q8 q9 rfl rfl 0 0 0 0 0 0 0 0 0 0 HB ?_; intro w6 HG hg6)
  have ⟨z0, z1, z2, z3, z4, z5, z6, z7, z8, z9, _⟩ := ten_of HG.out
  refine bodyPost_ret (v := .tuple #[.agg #[.int .i64 q0, .int .i64 q1, .int .i64 q2, .int .i64 q3, .int .i64 q4, .int .i64 q5, .int .i64 q6, .int .i64 q7, .int .i64 q8, .int .i64 q9], .int .i64 (n : Int), .int .i64 0]) (by simp [results, Try.results14, go_sem, z0, z1, z2, z3, z4, z5, z6, z7, z8, z9]) rfl ⟨?_, done_row b05 hg6⟩
  rw [HQ.out, HN.out]

set_option maxRecDepth 100000 in
set_option maxHeartbeats 3200000 in
theorem get_bad (A : Option Addr) (k c : Nat) (bs : List Nat) (w : World) (hk : k = bs.length) (hc : k ≤ c) (hA : Lies w w.heap.size A (bs.map bv)) (hb : ∀ x ∈ bs, x < 256) (hl : k ≤ 1000000000) (hok : nxF (bs.take 70) 0 ≠ 0) :
    Calls Try.prog 14 #[.slice A k c] w fun e w' => e = .returned (.tuple #[ev zero, .int .i64 0, .int .i64 (nxF (bs.take 70) 0 : Int)]) ∧ Below w.heap.size w w' := by
  obtain ⟨m, hm⟩ : ∃ m, min k 70 = m := ⟨_, rfl⟩
  have hmi : (m : Int) = min (k : Int) 70 := by omega
  have hmk : m ≤ k := by omega
  have hmc : m ≤ c := by omega
  have hml : m = (bs.take 70).length := by rw [List.length_take, ← hk]; omega
  have HMI := Lib.hid hmi
  have HML := Lib.hid hml
  have HOK := Lib.hid hok
  have b0 : Below w.heap.size w (w.alloc (.cells #[.int .i64 0, .int .i64 0, .int .i64 0, .int .i64 0, .int .i64 0, .int .i64 0, .int .i64 0, .int .i64 0, .int .i64 0, .int .i64 0] 27)) := (Below.refl _ _).alloc (Nat.le_refl _) _
  have hbox := heap_alloc_new w (.cells #[.int .i64 0, .int .i64 0, .int .i64 0, .int .i64 0, .int .i64 0, .int .i64 0, .int .i64 0, .int .i64 0, .int .i64 0, .int .i64 0] 27)
  have hLA : Lies w w.heap.size A ((bs.take 70).map bv) := by rw [List.map_take]; exact hA.take 70
  have hs0 : (w.alloc (.cells #[.int .i64 0, .int .i64 0, .int .i64 0, .int .i64 0, .int .i64 0, .int .i64 0, .int .i64 0, .int .i64 0, .int .i64 0, .int .i64 0] 27)).heap.size = w.heap.size + 1 := by simp
  have hby : ∀ x ∈ bs.take 70, x < 256 := fun x hx => hb x (List.mem_of_mem_take hx)
  clear hm hmi hml hok hk hA hb
  obtain ⟨cs, hcs⟩ : ∃ cs, bs.take 70 = cs := ⟨_, rfl⟩
  rw [hcs] at HML HOK hLA hby ⊢
  clear hcs
  go_enter Try.func14, Try.ntmps14
  go_wp2_with (with_reducible refine wpList_min_to rfl _ _ _ _ rfl .i64 .i64 (k : Int) 70 (m : Int) rfl rfl HMI.out ?_)
  have L1 := hLA.below b0 (Nat.le_refl _)
  generalize w.alloc (.cells #[.int .i64 0, .int .i64 0, .int .i64 0, .int .i64 0, .int .i64 0, .int .i64 0, .int .i64 0, .int .i64 0, .int .i64 0, .int .i64 0] 27) = w1 at b0 hbox hs0 L1 ⊢
  refine (read_any A m c cs w1 HML.out (L1.more b0.size) hby (by omega)).mono ?_
  rintro e w2 ⟨r, rfl, hr, hR, b2⟩
  have hbox2 := (Only.of_below (S := fun _ => False) b2).blk (fun q => q) hbox
  have b02 : Below w.heap.size w w2 := b0.trans (b2.mono b0.size)
  have hr0 : w.heap.size < r := by omega
  clear hbox b0 L1 b2 hr hs0
  go_wp2_with fail
  refine (next_any r 0 cs w2 hR).mono ?_
  rintro e w3 ⟨rfl, hR3, o3⟩
  have hbox3 := o3.blk (by omega) hbox2
  have b03 : Below w.heap.size w w3 := b02.trans (o3.below (fun j q => by omega) b02.size)
  obtain ⟨⟨q0, q1, q2, q3, q4, q5, q6, q7, q8, q9⟩, hq⟩ : ∃ q, nxE cs 0 = q := ⟨_, rfl⟩
  have HQ := Lib.hid hq
  rw [hq]
  clear hbox2 b02 hR o3 hq
  dsimp only [ev]
  have hboxE := heap_alloc_new w3 (.cells #[.int .i64 q0, .int .i64 q1, .int .i64 q2, .int .i64 q3, .int .i64 q4, .int .i64 q5, .int .i64 q6, .int .i64 q7, .int .i64 q8, .int .i64 q9] 27)
  have bE : Below w3.heap.size w3 (w3.alloc (.cells #[.int .i64 q0, .int .i64 q1, .int .i64 q2, .int .i64 q3, .int .i64 q4, .int .i64 q5, .int .i64 q6, .int .i64 q7, .int .i64 q8, .int .i64 q9] 27)) := (Below.refl _ _).alloc (Nat.le_refl _) _
  go_upto_region 3 with (fail)
  have hbox4 := (Only.of_below (S := fun _ => False) bE).blk (fun q => q) hbox3
  have hR4 := hR3.keep bE hR3.lt
  have b04 : Below w.heap.size w (w3.alloc (.cells #[.int .i64 q0, .int .i64 q1, .int .i64 q2, .int .i64 q3, .int .i64 q4, .int .i64 q5, .int .i64 q6, .int .i64 q7, .int .i64 q8, .int .i64 q9] 27)) := b03.trans (bE.mono b03.size)
  obtain ⟨e0, he0⟩ : ∃ e0, w3.heap.size = e0 := ⟨_, rfl⟩
  rw [he0] at hboxE
  try rw [he0]
  have hne : w.heap.size ≠ e0 := by have := lt_of_row hbox3; omega
  clear hbox3 b03 hR3 bE
  generalize w3.alloc (.cells #[.int .i64 q0, .int .i64 q1, .int .i64 q2, .int .i64 q3, .int .i64 q4, .int .i64 q5, .int .i64 q6, .int .i64 q7, .int .i64 q8, .int .i64 q9] 27) = w4 at hboxE hbox4 hR4 b04 ⊢
  obtain ⟨er, her⟩ : ∃ er, nxF cs 0 = er := ⟨_, rfl⟩
  rw [her] at hR4 HOK
  have HER := Lib.hid her
  have hd : ((er : Int) != 0) = true := by have := HOK.out; simp; omega
  clear her HOK
  go_wp2_with fail
  refine (err_any r _ er _ _ hR4).mono ?_
  rintro e w5 ⟨rfl, rfl⟩
  have HB := Lib.hid hbox4
  clear hboxE hbox4
  go_wp2_with fail
  refine (err_any r _ er _ _ hR4).mono ?_
  rintro e w5 ⟨rfl, rfl⟩
  go_wp2_with (with_reducible refine wpList_store_ev rfl _ _ rfl w.heap.size 0 0 0 0 0 0 0 0 0 0 rfl rfl 0 0 0 0 0 0 0 0 0 0 HB ?_; intro w6 HG hg6)
  have ⟨z0, z1, z2, z3, z4, z5, z6, z7, z8, z9, _⟩ := ten_of HG.out
  exact bodyPost_ret (v := .tuple #[.agg #[.int .i64 0, .int .i64 0, .int .i64 0, .int .i64 0, .int .i64 0, .int .i64 0, .int .i64 0, .int .i64 0, .int .i64 0, .int .i64 0], .int .i64 0, .int .i64 (er : Int)]) (by simp [results, Try.results14, go_sem, z0, z1, z2, z3, z4, z5, z6, z7, z8, z9]) rfl ⟨by rw [HER.out]; rfl, done_row b04 hg6⟩

end Go.Proofs.Ytkfhgdnlieaedaa.W
