/-
  The contract of the reference's body.
-/
import Derived.Test.YtgipngedmblnmaaDoorSegFrame
import Derived.Deep.RegionHeld3
namespace Go.Proofs.YtgipngedmblnmaaDoor
open Go.RowKit

set_option maxRecDepth 10000 in
set_option maxHeartbeats 3200000 in
theorem body_steps (w : World) (Ks : Nat → Prop) (K : Kv) (X : Nat → Value) (A : Option Addr) (n c : Nat) (l : List Int) (h : Sl w Ks A n c l) (hn : n ≤ 100000) (hK : KnR w K X) : Calls Tryd.prog 43 #[.int .i64 219, .slice A n c, kvV K X] w (BodyY w X (rdBody 219 l K)) := by
  obtain ⟨C, hC⟩ : ∃ C, C = (kvC K X).toArray := ⟨_, rfl⟩
  have eC : kvV K X = .agg C := by rw [hC]; rfl
  rw [eC]
  obtain ⟨Z, hZ⟩ : ∃ Z, Z = (kvC kz X0).toArray := ⟨_, rfl⟩
  have hz' : ∀ w, (zeroValue 46).run Tryd.prog w = .ok (.agg Z) w := fun w => by rw [hZ]; exact zero46 w
  obtain ⟨w2, hw2, b0, b1, k2, hs2⟩ := kv_made w C Z
  rw [hC] at b0
  have HW := Lib.hid hw2
  have HZs := Lib.hid (show Z.size = 210 by rw [hZ, kvC_size])
  have H2 := Lib.hid (show Rsp w w2 K X Z l A n c from ⟨b0, b1, k2, h.low.kept (Kept.of_below k2 (fun _ => False)) (fun _ _ h => h), hK.kna.on k2⟩)
  have hs2' : w.heap.size + 1 < w2.heap.size := by omega
  have HKR := Lib.hid (hK.on k2)
  clear hw2 b0 b1 k2 hs2 hC hZ eC h hK
  go_enter Tryd.func43, Tryd.ntmps43
  go_upto_region 2 with fail
  rw [HW.out]
  obtain ⟨Vk, hVk⟩ : ∃ V, V = kvV K X := ⟨_, rfl⟩
  have HV := Lib.hid (And.intro hVk (show (Instr.loadAt 46 (.pointer (some ⟨w.heap.size, 0, none⟩))).run Tryd.prog _ = .ok Vk _ by rw [hVk]; exact Box.loadK H2.out.kv))
  clear hVk
  go_wp2_with (first
    | (with_reducible refine wpList_load_to (op := ⟨some 11, _, _, _, _, _⟩) rfl 46 (.tmp 5) rfl (.pointer (some ⟨w.heap.size, 0, none⟩)) rfl Vk HV.out.2 ?_)
    | (go_at_call 65
       rw [HV.out.1]
       refine (refSteps_any _ _ K X A n c l H2.out.sl hn HKR.out).mono ?_
       rintro e w3 ⟨K', X', ok, rfl, hX, hb, hd⟩
       have R3 := Lib.hid (And.intro hX (And.intro hb (And.intro hd (H2.out.on hb))))
       clear hX hb hd)
    | ((with_reducible refine wpList_store_kv (o := ⟨none, _, _, _, _, _⟩) rfl (.tmp 6) (.tmp 13) rfl rfl (w.heap.size + 1) K' X' R3.out.1 rfl rfl Z R3.out.2.2.2.res HZs.out ?_)
       intro w9 b9 k9
       have H9 := Lib.hid (And.intro b9 k9)
       clear b9 k9)
    | fail)
  refine bodyPost_ret (v := .tuple #[kvV K' X', .bool ok]) (results_ct (fn := Tryd.f43) Tryd.results43 _ _ (w.heap.size + 1) _ _ rfl rfl (loadVar_kv H9.out.1)) rfl ?_
  have eb : rdBody 219 l K = rdSteps (l.length + 1) l K := by unfold rdBody; exact if_pos rfl
  rw [eb]
  refine ⟨K', X', ok, rfl, R3.out.1, R3.out.2.2.2.bel.trans (H9.out.2.below R3.out.2.2.2.bel.size (fun i hi e => by omega)), ?_⟩
  rcases R3.out.2.2.1 with ⟨h1, h2, h3, h4⟩ | ⟨h1, h2⟩
  · exact .inl ⟨h1, h2, ((h4.kna H2.out.kn hs2' h3).kept (H9.out.2.mono (fun i _ e => Or.inr e))).knr, h4.mono (by omega)⟩
  · exact .inr ⟨h1, h2⟩

set_option maxRecDepth 10000 in
set_option maxHeartbeats 3200000 in
theorem body_specs (w : World) (Ks : Nat → Prop) (K : Kv) (X : Nat → Value) (A : Option Addr) (n c : Nat) (l : List Int) (h : Sl w Ks A n c l) (hn : n ≤ 100000) (hK : KnR w K X) : Calls Tryd.prog 43 #[.int .i64 196, .slice A n c, kvV K X] w (BodyY w X (rdBody 196 l K)) := by
  obtain ⟨C, hC⟩ : ∃ C, C = (kvC K X).toArray := ⟨_, rfl⟩
  have eC : kvV K X = .agg C := by rw [hC]; rfl
  rw [eC]
  obtain ⟨Z, hZ⟩ : ∃ Z, Z = (kvC kz X0).toArray := ⟨_, rfl⟩
  have hz' : ∀ w, (zeroValue 46).run Tryd.prog w = .ok (.agg Z) w := fun w => by rw [hZ]; exact zero46 w
  obtain ⟨w2, hw2, b0, b1, k2, hs2⟩ := kv_made w C Z
  rw [hC] at b0
  have HW := Lib.hid hw2
  have HZs := Lib.hid (show Z.size = 210 by rw [hZ, kvC_size])
  have H2 := Lib.hid (show Rsp w w2 K X Z l A n c from ⟨b0, b1, k2, h.low.kept (Kept.of_below k2 (fun _ => False)) (fun _ _ h => h), hK.kna.on k2⟩)
  have hs2' : w.heap.size + 1 < w2.heap.size := by omega
  have HKR := Lib.hid (hK.on k2)
  clear hw2 b0 b1 k2 hs2 hC hZ eC h hK
  go_enter Tryd.func43, Tryd.ntmps43
  go_upto_region 4 with fail
  rw [HW.out]
  obtain ⟨Vk, hVk⟩ : ∃ V, V = kvV K X := ⟨_, rfl⟩
  have HV := Lib.hid (And.intro hVk (show (Instr.loadAt 46 (.pointer (some ⟨w.heap.size, 0, none⟩))).run Tryd.prog _ = .ok Vk _ by rw [hVk]; exact Box.loadK H2.out.kv))
  clear hVk
  go_wp2_with (first
    | (with_reducible refine wpList_load_to (op := ⟨some 18, _, _, _, _, _⟩) rfl 46 (.tmp 5) rfl (.pointer (some ⟨w.heap.size, 0, none⟩)) rfl Vk HV.out.2 ?_)
    | (go_at_call 66
       rw [HV.out.1]
       refine (refSpecs_any _ _ K X A n c l H2.out.sl hn HKR.out).mono ?_
       rintro e w3 ⟨K', X', ok, rfl, hX, hb, hd⟩
       have R3 := Lib.hid (And.intro hX (And.intro hb (And.intro hd (H2.out.on hb))))
       clear hX hb hd)
    | ((with_reducible refine wpList_store_kv (o := ⟨none, _, _, _, _, _⟩) rfl (.tmp 6) (.tmp 20) rfl rfl (w.heap.size + 1) K' X' R3.out.1 rfl rfl Z R3.out.2.2.2.res HZs.out ?_)
       intro w9 b9 k9
       have H9 := Lib.hid (And.intro b9 k9)
       clear b9 k9)
    | fail)
  refine bodyPost_ret (v := .tuple #[kvV K' X', .bool ok]) (results_ct (fn := Tryd.f43) Tryd.results43 _ _ (w.heap.size + 1) _ _ rfl rfl (loadVar_kv H9.out.1)) rfl ?_
  have eb : rdBody 196 l K = rdSpecs (l.length + 1) l K := by unfold rdBody; rw [if_neg (by decide)]; exact if_pos rfl
  rw [eb]
  refine ⟨K', X', ok, rfl, R3.out.1, R3.out.2.2.2.bel.trans (H9.out.2.below R3.out.2.2.2.bel.size (fun i hi e => by omega)), ?_⟩
  rcases R3.out.2.2.1 with ⟨h1, h2, h3, h4⟩ | ⟨h1, h2⟩
  · exact .inl ⟨h1, h2, ((h4.kna H2.out.kn hs2' h3).kept (H9.out.2.mono (fun i _ e => Or.inr e))).knr, h4.mono (by omega)⟩
  · exact .inr ⟨h1, h2⟩

set_option maxRecDepth 10000 in
set_option maxHeartbeats 3200000 in
theorem body_frame (w : World) (Ks : Nat → Prop) (K : Kv) (X : Nat → Value) (A : Option Addr) (n c : Nat) (l : List Int) (h : Sl w Ks A n c l) (hn : n ≤ 100000) (hK : KnR w K X) : Calls Tryd.prog 43 #[.int .i64 192, .slice A n c, kvV K X] w (BodyY w X (rdBody 192 l K)) := by
  obtain ⟨C, hC⟩ : ∃ C, C = (kvC K X).toArray := ⟨_, rfl⟩
  have eC : kvV K X = .agg C := by rw [hC]; rfl
  rw [eC]
  obtain ⟨Z, hZ⟩ : ∃ Z, Z = (kvC kz X0).toArray := ⟨_, rfl⟩
  have hz' : ∀ w, (zeroValue 46).run Tryd.prog w = .ok (.agg Z) w := fun w => by rw [hZ]; exact zero46 w
  obtain ⟨w2, hw2, b0, b1, k2, hs2⟩ := kv_made w C Z
  rw [hC] at b0
  have HW := Lib.hid hw2
  have HZs := Lib.hid (show Z.size = 210 by rw [hZ, kvC_size])
  have H2 := Lib.hid (show Rsp w w2 K X Z l A n c from ⟨b0, b1, k2, h.low.kept (Kept.of_below k2 (fun _ => False)) (fun _ _ h => h), hK.kna.on k2⟩)
  have hs2' : w.heap.size + 1 < w2.heap.size := by omega
  have HKR := Lib.hid (hK.on k2)
  clear hw2 b0 b1 k2 hs2 hC hZ eC h hK
  go_enter Tryd.func43, Tryd.ntmps43
  go_upto_region 6 with fail
  rw [HW.out]
  obtain ⟨Vk, hVk⟩ : ∃ V, V = kvV K X := ⟨_, rfl⟩
  have HV := Lib.hid (And.intro hVk (show (Instr.loadAt 46 (.pointer (some ⟨w.heap.size, 0, none⟩))).run Tryd.prog _ = .ok Vk _ by rw [hVk]; exact Box.loadK H2.out.kv))
  clear hVk
  go_wp2_with (first
    | (with_reducible refine wpList_load_to (op := ⟨some 25, _, _, _, _, _⟩) rfl 46 (.tmp 5) rfl (.pointer (some ⟨w.heap.size, 0, none⟩)) rfl Vk HV.out.2 ?_)
    | (go_at_call 67
       rw [HV.out.1]
       refine (refFrame_any _ _ K X A n c l H2.out.sl hn HKR.out).mono ?_
       rintro e w3 ⟨K', X', ok, rfl, hX, hb, hd⟩
       have R3 := Lib.hid (And.intro hX (And.intro hb (And.intro hd (H2.out.on hb))))
       clear hX hb hd)
    | ((with_reducible refine wpList_store_kv (o := ⟨none, _, _, _, _, _⟩) rfl (.tmp 6) (.tmp 27) rfl rfl (w.heap.size + 1) K' X' R3.out.1 rfl rfl Z R3.out.2.2.2.res HZs.out ?_)
       intro w9 b9 k9
       have H9 := Lib.hid (And.intro b9 k9)
       clear b9 k9)
    | fail)
  refine bodyPost_ret (v := .tuple #[kvV K' X', .bool ok]) (results_ct (fn := Tryd.f43) Tryd.results43 _ _ (w.heap.size + 1) _ _ rfl rfl (loadVar_kv H9.out.1)) rfl ?_
  have eb : rdBody 192 l K = rdFrame l K := by unfold rdBody; rw [if_neg (by decide)]; rw [if_neg (by decide)]; exact if_pos rfl
  rw [eb]
  refine ⟨K', X', ok, rfl, R3.out.1, R3.out.2.2.2.bel.trans (H9.out.2.below R3.out.2.2.2.bel.size (fun i hi e => by omega)), ?_⟩
  rcases R3.out.2.2.1 with ⟨h1, h2, h3, h4⟩ | ⟨h1, h2⟩
  · exact .inl ⟨h1, h2, ((h4.kna H2.out.kn hs2' h3).kept (H9.out.2.mono (fun i _ e => Or.inr e))).knr, h4.mono (by omega)⟩
  · exact .inr ⟨h1, h2⟩

set_option maxRecDepth 10000 in
set_option maxHeartbeats 3200000 in
theorem body_scan (w : World) (Ks : Nat → Prop) (K : Kv) (X : Nat → Value) (A : Option Addr) (n c : Nat) (l : List Int) (h : Sl w Ks A n c l) (hK : KnR w K X) : Calls Tryd.prog 43 #[.int .i64 218, .slice A n c, kvV K X] w (BodyY w X (rdBody 218 l K)) := by
  obtain ⟨C, hC⟩ : ∃ C, C = (kvC K X).toArray := ⟨_, rfl⟩
  have eC : kvV K X = .agg C := by rw [hC]; rfl
  rw [eC]
  obtain ⟨Z, hZ⟩ : ∃ Z, Z = (kvC kz X0).toArray := ⟨_, rfl⟩
  have hz' : ∀ w, (zeroValue 46).run Tryd.prog w = .ok (.agg Z) w := fun w => by rw [hZ]; exact zero46 w
  obtain ⟨w2, hw2, b0, b1, k2, hs2⟩ := kv_made w C Z
  rw [hC] at b0
  have HW := Lib.hid hw2
  have HZs := Lib.hid (show Z.size = 210 by rw [hZ, kvC_size])
  have H2 := Lib.hid (show Rsp w w2 K X Z l A n c from ⟨b0, b1, k2, h.low.kept (Kept.of_below k2 (fun _ => False)) (fun _ _ h => h), hK.kna.on k2⟩)
  have hs2' : w.heap.size + 1 < w2.heap.size := by omega
  have HKR := Lib.hid (hK.on k2)
  clear hw2 b0 b1 k2 hs2 hC hZ eC h hK
  go_enter Tryd.func43, Tryd.ntmps43
  go_upto_region 8 with fail
  rw [HW.out]
  obtain ⟨Vk, hVk⟩ : ∃ V, V = kvV K X := ⟨_, rfl⟩
  have HV := Lib.hid (And.intro hVk (show (Instr.loadAt 46 (.pointer (some ⟨w.heap.size, 0, none⟩))).run Tryd.prog _ = .ok Vk _ by rw [hVk]; exact Box.loadK H2.out.kv))
  clear hVk
  go_wp2_with (first
    | (with_reducible refine wpList_load_to (op := ⟨some 32, _, _, _, _, _⟩) rfl 46 (.tmp 5) rfl (.pointer (some ⟨w.heap.size, 0, none⟩)) rfl Vk HV.out.2 ?_)
    | (go_at_call 68
       rw [HV.out.1]
       refine (refScan_any _ _ K X A n c l H2.out.sl HKR.out).mono ?_
       rintro e w3 ⟨K', X', ok, rfl, hX, hb, hd⟩
       have R3 := Lib.hid (And.intro hX (And.intro hb (And.intro hd (H2.out.on hb))))
       clear hX hb hd)
    | ((with_reducible refine wpList_store_kv (o := ⟨none, _, _, _, _, _⟩) rfl (.tmp 6) (.tmp 34) rfl rfl (w.heap.size + 1) K' X' R3.out.1 rfl rfl Z R3.out.2.2.2.res HZs.out ?_)
       intro w9 b9 k9
       have H9 := Lib.hid (And.intro b9 k9)
       clear b9 k9)
    | fail)
  refine bodyPost_ret (v := .tuple #[kvV K' X', .bool ok]) (results_ct (fn := Tryd.f43) Tryd.results43 _ _ (w.heap.size + 1) _ _ rfl rfl (loadVar_kv H9.out.1)) rfl ?_
  have eb : rdBody 218 l K = rdScan l K := by unfold rdBody; rw [if_neg (by decide)]; rw [if_neg (by decide)]; rw [if_neg (by decide)]; exact if_pos rfl
  rw [eb]
  refine ⟨K', X', ok, rfl, R3.out.1, R3.out.2.2.2.bel.trans (H9.out.2.below R3.out.2.2.2.bel.size (fun i hi e => by omega)), ?_⟩
  rcases R3.out.2.2.1 with ⟨h1, h2, h3, h4⟩ | ⟨h1, h2⟩
  · exact .inl ⟨h1, h2, ((h4.kna H2.out.kn hs2' h3).kept (H9.out.2.mono (fun i _ e => Or.inr e))).knr, h4.mono (by omega)⟩
  · exact .inr ⟨h1, h2⟩

set_option maxRecDepth 10000 in
set_option maxHeartbeats 3200000 in
theorem body_other (w : World) (Ks : Nat → Prop) (K : Kv) (X : Nat → Value) (A : Option Addr) (n c : Nat) (l : List Int) (h : Sl w Ks A n c l) (hK : KnR w K X) (m : Int) (h1 : m ≠ 219) (h2 : m ≠ 196) (h3 : m ≠ 192) (h4 : m ≠ 218) (h5 : m ≠ 221) : Calls Tryd.prog 43 #[.int .i64 m, .slice A n c, kvV K X] w (BodyY w X (rdBody m l K)) := by
  obtain ⟨C, hC⟩ : ∃ C, C = (kvC K X).toArray := ⟨_, rfl⟩
  have eC : kvV K X = .agg C := by rw [hC]; rfl
  rw [eC]
  obtain ⟨Z, hZ⟩ : ∃ Z, Z = (kvC kz X0).toArray := ⟨_, rfl⟩
  have hz' : ∀ w, (zeroValue 46).run Tryd.prog w = .ok (.agg Z) w := fun w => by rw [hZ]; exact zero46 w
  obtain ⟨w2, hw2, b0, b1, k2, hs2⟩ := kv_made w C Z
  rw [hC] at b0
  have HW := Lib.hid hw2
  have HZs := Lib.hid (show Z.size = 210 by rw [hZ, kvC_size])
  have H2 := Lib.hid (show Rsp w w2 K X Z l A n c from ⟨b0, b1, k2, h.low.kept (Kept.of_below k2 (fun _ => False)) (fun _ _ h => h), hK.kna.on k2⟩)
  have hs2' : w.heap.size + 1 < w2.heap.size := by omega
  have HKR := Lib.hid (hK.on k2)
  clear hw2 b0 b1 k2 hs2 hC hZ eC h hK
  go_enter Tryd.func43, Tryd.ntmps43
  go_upto_region 13 with fail
  rw [HW.out]
  obtain ⟨Vk, hVk⟩ : ∃ V, V = kvV K X := ⟨_, rfl⟩
  have HV := Lib.hid (And.intro hVk (show (Instr.loadAt 46 (.pointer (some ⟨w.heap.size, 0, none⟩))).run Tryd.prog _ = .ok Vk _ by rw [hVk]; exact Box.loadK H2.out.kv))
  clear hVk
  go_wp2_with (first
    | (with_reducible refine wpList_load_to (op := ⟨some 54, _, _, _, _, _⟩) rfl 46 (.tmp 5) rfl (.pointer (some ⟨w.heap.size, 0, none⟩)) rfl Vk HV.out.2 ?_)
    | ((with_reducible refine wpList_store_kv (o := ⟨none, _, _, _, _, _⟩) rfl (.tmp 6) (.tmp 54) rfl rfl (w.heap.size + 1) K X H2.out.kn.one rfl ?hy Z H2.out.res HZs.out ?_)
       case hy => exact HV.out.1
       intro w9 b9 k9
       have H9 := Lib.hid (And.intro b9 k9)
       clear b9 k9)
    | fail)
  refine bodyPost_ret (v := .tuple #[kvV K X, .bool true]) (results_ct (fn := Tryd.f43) Tryd.results43 _ _ (w.heap.size + 1) _ _ rfl rfl (loadVar_kv H9.out.1)) rfl ?_
  refine ⟨K, X, true, rfl, H2.out.kn.one, H2.out.bel.trans (H9.out.2.below H2.out.bel.size (fun i hi e => by omega)), ?_⟩
  exact .inl ⟨rfl, by unfold rdBody; rw [if_neg h1, if_neg h2, if_neg h3, if_neg h4, if_neg h5], (H2.out.kn.kept (H9.out.2.mono (fun i _ e => Or.inr e))).knr, Fr.refl _ _⟩

set_option maxRecDepth 10000 in
set_option maxHeartbeats 3200000 in
theorem body_restart_no (w : World) (Ks : Nat → Prop) (K : Kv) (X : Nat → Value) (A : Option Addr) (n c : Nat) (l : List Int) (h : Sl w Ks A n c l) (hK : KnR w K X) (h2 : n ≠ 2) : Calls Tryd.prog 43 #[.int .i64 221, .slice A n c, kvV K X] w (BodyY w X (rdBody 221 l K)) := by
  obtain ⟨C, hC⟩ : ∃ C, C = (kvC K X).toArray := ⟨_, rfl⟩
  have eC : kvV K X = .agg C := by rw [hC]; rfl
  rw [eC]
  obtain ⟨Z, hZ⟩ : ∃ Z, Z = (kvC kz X0).toArray := ⟨_, rfl⟩
  have hz' : ∀ w, (zeroValue 46).run Tryd.prog w = .ok (.agg Z) w := fun w => by rw [hZ]; exact zero46 w
  obtain ⟨w2, hw2, b0, b1, k2, hs2⟩ := kv_made w C Z
  rw [hC] at b0
  have HW := Lib.hid hw2
  have HZs := Lib.hid (show Z.size = 210 by rw [hZ, kvC_size])
  have H2 := Lib.hid (show Rsp w w2 K X Z l A n c from ⟨b0, b1, k2, h.low.kept (Kept.of_below k2 (fun _ => False)) (fun _ _ h => h), hK.kna.on k2⟩)
  have hs2' : w.heap.size + 1 < w2.heap.size := by omega
  have HKR := Lib.hid (hK.on k2)
  clear hw2 b0 b1 k2 hs2 hC hZ eC h hK
  go_enter Tryd.func43, Tryd.ntmps43
  have hl : l.length = n := H2.out.sl.len
  have h2' : (n : Int) ≠ 2 := by omega
  go_upto_region 11 with fail
  rw [HW.out]
  obtain ⟨Vk, hVk⟩ : ∃ V, V = kvV K X := ⟨_, rfl⟩
  have HV := Lib.hid (And.intro hVk (show (Instr.loadAt 46 (.pointer (some ⟨w.heap.size, 0, none⟩))).run Tryd.prog _ = .ok Vk _ by rw [hVk]; exact Box.loadK H2.out.kv))
  clear hVk
  go_wp2_with (first
    | (with_reducible refine wpList_load_to (op := ⟨some 41, _, _, _, _, _⟩) rfl 46 (.tmp 5) rfl (.pointer (some ⟨w.heap.size, 0, none⟩)) rfl Vk HV.out.2 ?_)
    | ((with_reducible refine wpList_store_kv (o := ⟨none, _, _, _, _, _⟩) rfl (.tmp 6) (.tmp 41) rfl rfl (w.heap.size + 1) K X H2.out.kn.one rfl ?hy Z H2.out.res HZs.out ?_)
       case hy => exact HV.out.1
       intro w9 b9 k9
       have H9 := Lib.hid (And.intro b9 k9)
       clear b9 k9)
    | fail)
  refine bodyPost_ret (v := .tuple #[kvV K X, .bool false]) (results_ct (fn := Tryd.f43) Tryd.results43 _ _ (w.heap.size + 1) _ _ rfl rfl (loadVar_kv H9.out.1)) rfl ?_
  refine ⟨K, X, false, rfl, H2.out.kn.one, H2.out.bel.trans (H9.out.2.below H2.out.bel.size (fun i hi e => by omega)), ?_⟩
  exact .inr ⟨rfl, by unfold rdBody; rw [if_neg (by decide), if_neg (by decide), if_neg (by decide), if_neg (by decide), if_pos rfl, if_neg (by omega)]⟩

set_option maxRecDepth 10000 in
set_option maxHeartbeats 3200000 in
theorem body_restart (w : World) (Ks : Nat → Prop) (K : Kv) (X : Nat → Value) (A : Option Addr) (n c : Nat) (l : List Int) (h : Sl w Ks A n c l) (hK : KnR w K X) (h2 : n = 2) : Calls Tryd.prog 43 #[.int .i64 221, .slice A n c, kvV K X] w (BodyY w X (rdBody 221 l K)) := by
  obtain ⟨C, hC⟩ : ∃ C, C = (kvC K X).toArray := ⟨_, rfl⟩
  have eC : kvV K X = .agg C := by rw [hC]; rfl
  rw [eC]
  obtain ⟨Z, hZ⟩ : ∃ Z, Z = (kvC kz X0).toArray := ⟨_, rfl⟩
  have hz' : ∀ w, (zeroValue 46).run Tryd.prog w = .ok (.agg Z) w := fun w => by rw [hZ]; exact zero46 w
  obtain ⟨w2, hw2, b0, b1, k2, hs2⟩ := kv_made w C Z
  rw [hC] at b0
  have HW := Lib.hid hw2
  have HZs := Lib.hid (show Z.size = 210 by rw [hZ, kvC_size])
  have H2 := Lib.hid (show Rsp w w2 K X Z l A n c from ⟨b0, b1, k2, h.low.kept (Kept.of_below k2 (fun _ => False)) (fun _ _ h => h), hK.kna.on k2⟩)
  have hs2' : w.heap.size + 1 < w2.heap.size := by omega
  have HKR := Lib.hid (hK.on k2)
  clear hw2 b0 b1 k2 hs2 hC hZ eC h hK
  go_enter Tryd.func43, Tryd.ntmps43
  have hl : l.length = n := H2.out.sl.len
  subst h2
  obtain ⟨b, off, hA, q1⟩ := H2.out.sl.get (show 1 < 2 by omega)
  subst hA
  have q0 : w2.cell? ⟨b, off, none⟩ = some (.int .u8 (l.getD 0 0)) := by
    obtain ⟨b', off', hA, q0⟩ := H2.out.sl.get (show 0 < 2 by omega)
    cases hA
    exact q0
  have hbw' : b < w.heap.size := by
    obtain ⟨b', off', e', h1, h2, h3⟩ := H2.out.sl.bts.at_ (by omega)
    cases e'
    exact h2
  have hge : ∀ i, i < 2 → 0 ≤ l.getD i 0 ∧ l.getD i 0 ≤ 255 := fun i hi => H2.out.sl.bts.fit _ (by rw [List.getD_eq_getElem?_getD, List.getElem?_eq_getElem (by omega)]; exact List.getElem_mem _)
  obtain ⟨g00, g01⟩ := hge 0 (by omega)
  obtain ⟨g10, g11⟩ := hge 1 (by omega)
  have HE := Lib.hid (show rdBody 221 l K = some (K.setN 3 (256 * l.getD 0 0 + l.getD 1 0)) by unfold rdBody; rw [if_neg (by decide), if_neg (by decide), if_neg (by decide), if_neg (by decide), if_pos rfl, if_pos hl])
  obtain ⟨z0, hz0⟩ : ∃ z, z = l.getD 0 0 := ⟨_, rfl⟩
  obtain ⟨z1, hz1⟩ : ∃ z, z = l.getD 1 0 := ⟨_, rfl⟩
  rw [← hz0] at q0 g00 g01
  rw [← hz1] at q1 g10 g11
  rw [← hz0, ← hz1] at HE
  have c208 : w2.cell? ⟨w.heap.size, 208, none⟩ = some (.int .i64 (K.N 3)) := H2.out.kv.kvN (k := 3) (by omega)
  have f208 := H2.out.kv.free 208
  clear hge hz0 hz1 hl
  have KK : ∀ v (p : Addr), p.block = b → (w2.setCell ⟨w.heap.size, 208, none⟩ v).drew.cell? p = w2.cell? p := fun v p hp => (((Kept.refl (fun i => i = w.heap.size) w2).setCell (p := ⟨w.heap.size, 208, none⟩) (fun _ => rfl) v).drew).cell (by rw [hp]; omega) (by rw [hp]; omega)
  go_upto_region 12 with fail
  rw [HW.out]
  go_region_held3 (fun w' => w'.cell? ⟨b, off, none⟩ = some (.int .u8 z0) ∧ w'.cell? ⟨b, off + 1, none⟩ = some (.int .u8 z1)) (first | exact ⟨q0, q1⟩ | exact ⟨(KK _ _ rfl).trans q0, (KK _ _ rfl).trans q1⟩ | (constructor <;> simpa)) (fail)
  have ew : IntKind.i64.wrap (IntKind.i64.wrap (256 * IntKind.i64.wrap z0) + IntKind.i64.wrap z1) = 256 * z0 + z1 := by
    have a0 : IntKind.i64.wrap z0 = z0 := by simp [IntKind.wrap, IntKind.bits, IntKind.signed]; omega
    have a1 : IntKind.i64.wrap z1 = z1 := by simp [IntKind.wrap, IntKind.bits, IntKind.signed]; omega
    have a2 : IntKind.i64.wrap (256 * z0) = 256 * z0 := by simp [IntKind.wrap, IntKind.bits, IntKind.signed]; omega
    have a3 : IntKind.i64.wrap (256 * z0 + z1) = 256 * z0 + z1 := by simp [IntKind.wrap, IntKind.bits, IntKind.signed]; omega
    rw [a0, a1, a2, a3]
  rw [ew]
  obtain ⟨w3, hw3⟩ : ∃ w3, (w2.setCell ⟨w.heap.size, 208, none⟩ (.int .i64 (256 * z0 + z1))).drew = w3 := ⟨_, rfl⟩
  have k3 : Kept (fun i => i = w.heap.size) w2 w3 := by
    rw [← hw3]
    exact ((Kept.refl (fun i => i = w.heap.size) w2).setCell (p := ⟨w.heap.size, 208, none⟩) (fun _ => rfl) _).drew
  have R3 := Lib.hid (show Rsp w w3 (K.setN 3 (256 * z0 + z1)) X Z l (some ⟨b, off, none⟩) 2 c from H2.out.turn (by rw [← hw3]; exact (H2.out.kv.putN (i := 3) (256 * z0 + z1)).on (on_drew _)) k3
    ((show KnA w.heap.size w2 (K.setN 3 (256 * z0 + z1)) X from ⟨H2.out.kn.wt, H2.out.kn.one, H2.out.kn.sl⟩).kept (k3.mono (fun i _ e => Or.inl e))))
  rw [hw3]
  clear hw3 k3 ew KK c208 f208
  obtain ⟨Vk, hVk⟩ : ∃ V, V = kvV (K.setN 3 (256 * z0 + z1)) X := ⟨_, rfl⟩
  have HV := Lib.hid (And.intro hVk (show (Instr.loadAt 46 (.pointer (some ⟨w.heap.size, 0, none⟩))).run Tryd.prog _ = .ok Vk _ by rw [hVk]; exact Box.loadK R3.out.kv))
  clear hVk
  go_wp2_with (first
    | (with_reducible refine wpList_load_to (op := ⟨some 54, _, _, _, _, _⟩) rfl 46 (.tmp 5) rfl (.pointer (some ⟨w.heap.size, 0, none⟩)) rfl Vk HV.out.2 ?_)
    | ((with_reducible refine wpList_store_kv (o := ⟨none, _, _, _, _, _⟩) rfl (.tmp 6) (.tmp 54) rfl rfl (w.heap.size + 1) (K.setN 3 (256 * z0 + z1)) X R3.out.kn.one rfl ?hy Z R3.out.res HZs.out ?_)
       case hy => exact HV.out.1
       intro w9 b9 k9
       have H9 := Lib.hid (And.intro b9 k9)
       clear b9 k9)
    | fail)
  refine bodyPost_ret (v := .tuple #[kvV (K.setN 3 (256 * z0 + z1)) X, .bool true]) (results_ct (fn := Tryd.f43) Tryd.results43 _ _ (w.heap.size + 1) _ _ rfl rfl (loadVar_kv H9.out.1)) rfl ?_
  refine ⟨(K.setN 3 (256 * z0 + z1)), X, true, rfl, R3.out.kn.one, R3.out.bel.trans (H9.out.2.below R3.out.bel.size (fun i hi e => by omega)), ?_⟩
  exact .inl ⟨rfl, HE.out, (R3.out.kn.kept (H9.out.2.mono (fun i _ e => Or.inr e))).knr, Fr.refl _ _⟩
theorem refBody_any (w : World) (Ks : Nat → Prop) (K : Kv) (X : Nat → Value) (A : Option Addr) (n c : Nat) (l : List Int) (h : Sl w Ks A n c l) (hn : n ≤ 100000) (hK : KnR w K X) (m : Int) : Calls Tryd.prog 43 #[.int .i64 m, .slice A n c, kvV K X] w (BodyY w X (rdBody m l K)) := by
  by_cases h1 : m = 219
  · subst h1; exact body_steps w Ks K X A n c l h hn hK
  by_cases h2 : m = 196
  · subst h2; exact body_specs w Ks K X A n c l h hn hK
  by_cases h3 : m = 192
  · subst h3; exact body_frame w Ks K X A n c l h hn hK
  by_cases h4 : m = 218
  · subst h4; exact body_scan w Ks K X A n c l h hK
  by_cases h5 : m = 221
  · subst h5
    by_cases hn2 : n = 2
    · exact body_restart w Ks K X A n c l h hK hn2
    · exact body_restart_no w Ks K X A n c l h hK hn2
  exact body_other w Ks K X A n c l h hK m h1 h2 h3 h4 h5
end Go.Proofs.YtgipngedmblnmaaDoor
