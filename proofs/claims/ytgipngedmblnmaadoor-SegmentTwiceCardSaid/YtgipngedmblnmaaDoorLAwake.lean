/-
  The contract of the laws' awake.
-/
import Derived.Test.YtgipngedmblnmaaDoorRRd
import Derived.Test.YtgipngedmblnmaaDoorWHead
namespace Go.Proofs.YtgipngedmblnmaaDoor
open Go.RowKit

theorem awake_head : headF 16 8 0 0 = ([255, 216, 255, 192, 0, 11, 8, 0, 8, 0, 16, 1, 1, 17, 0, 255, 218, 0, 8, 1, 1, 0, 0, 63, 0], 0) := by decide
set_option maxRecDepth 100000 in
theorem awake_read : readF [255, 216, 255, 192, 0, 11, 8, 0, 8, 0, 16, 1, 1, 17, 0, 255, 218, 0, 8, 1, 1, 0, 0, 63, 0] kz = ((((((kz.old.setN 0 16).setN 1 8).setN 2 0).setF 6 true).setF 7 true).setN 4 25, 0) := by kernel_rfl
set_option maxRecDepth 10000 in
set_option maxHeartbeats 3200000 in
theorem awake_any (w : World) (hT : Tab w) : Calls Tryd.prog 9 #[] w (Law w) := by
  have hh := head_any w 16 8 0 0
  rw [awake_head] at hh
  have HH := Lib.hid (And.intro hh hT)
  obtain ⟨Z, hZ⟩ : ∃ Z, Z = (kvC kz X0).toArray := ⟨_, rfl⟩
  have hz' : ∀ w, (zeroValue 46).run Tryd.prog w = .ok (.agg Z) w := fun w => by rw [hZ]; exact zero46 w
  have hbz : ∀ w, (Instr.build 46 #[]).run Tryd.prog w = .ok (.agg Z) w := fun w => by rw [hZ]; exact build46 w
  have hZs : Z.size = 210 := by rw [hZ, kvC_size]
  have HZ := Lib.hid (And.intro hZ hZs)
  clear hh hT hZ hZs
  go_enter Tryd.func9, Tryd.ntmps9
  go_wp2_with fail
  refine Calls.mono HH.out.1 ?_
  rintro e w2 ⟨A, c, rfl, s2, b2⟩
  obtain ⟨bl, hbl⟩ : ∃ bl, bl = ([255, 216, 255, 192, 0, 11, 8, 0, 8, 0, 16, 1, 1, 17, 0, 255, 218, 0, 8, 1, 1, 0, 0, 63, 0] : List Int) := ⟨_, rfl⟩
  have s2' : Sl w2 (fun b => w.heap.size ≤ b) A 25 c bl := by rw [hbl]; exact s2
  obtain ⟨b, off, hA, c8⟩ := s2'.get (k := 8) (by omega)
  have e8 : bl.getD 8 0 = 8 := by rw [hbl]; rfl
  rw [e8] at c8
  have He8 := Lib.hid e8
  have hrd := read_any w2 _ A 25 c bl kz X0 s2' (by omega) (kz_knr w2) (fun j _ => by show (0 : Nat) ≤ _; omega) (HH.out.2.on b2)
  rw [show readF bl kz = readF [255, 216, 255, 192, 0, 11, 8, 0, 8, 0, 16, 1, 1, 17, 0, 255, 218, 0, 8, 1, 1, 0, 0, 63, 0] kz by rw [hbl], awake_read, show kvV kz X0 = .agg Z by rw [HZ.out.1]; rfl] at hrd
  have HRd := Lib.hid hrd
  have H2 := Lib.hid (And.intro s2' (And.intro b2 c8))
  subst hA
  rw [show ([255, 216, 255, 192, 0, 11, 8, 0, 8, 0, 16, 1, 1, 17, 0, 255, 218, 0, 8, 1, 1, 0, 0, 63, 0] : List Int).length = 25 from rfl]
  obtain ⟨Kx, hKx⟩ : ∃ K, K = (((((kz.old.setN 0 16).setN 1 8).setN 2 0).setF 6 true).setF 7 true).setN 4 25 := ⟨_, rfl⟩
  rw [← hKx] at HRd
  have HKx := Lib.hid hKx
  clear s2 s2' b2 hbl e8 c8 hrd hKx
  go_wp2_with fail
  refine Calls.mono HRd.out ?_
  rintro e w3 ⟨X', rfl, kn3, b3⟩
  obtain ⟨Vk, hVk⟩ : ∃ V, V = kvV Kx X' := ⟨_, rfl⟩
  rw [← hVk]
  have HVk := Lib.hid hVk
  have H3 := Lib.hid (And.intro kn3 (on_trans H2.out.2.1 b3))
  have hb8 : ∀ (w' : World), Below w3.heap.size w3 w' → w'.cell? ⟨b, off + 8, none⟩ = some (.int .u8 8) := fun w' k => by
    obtain ⟨b1, o1, e1, c1⟩ := ((H2.out.1.on b3).on k).get (k := 8) (by omega)
    cases e1
    rw [c1, He8.out]
  have HB8 := Lib.hid hb8
  clear hVk kn3 b3 hb8
  rw [show ((Kx, (0 : Int)) : Kv × Int).2 = 0 from rfl]
  go_wp2_with (first
    | ((with_reducible refine wpList_store_kv (o := ⟨none, _, _, _, _, _⟩) rfl (.tmp 3) (.tmp 14) rfl rfl w3.heap.size Kx X' H3.out.1.one rfl ?hy Z (Box.made _ _ _) HZ.out.2 ?_)
       case hy => exact HVk.out
       intro w5 b5 k5
       have kk : Below w3.heap.size w3 w5 := (on_alloc w3 (.cells Z 46)).trans (k5.below (by simp) (fun i hi e => by omega))
       have c8 := HB8.out w5 kk
       have d0 : w5.cell? ⟨w3.heap.size, 205, none⟩ = some (.int .i64 16) := by have := b5.kvN (k := 0) (by omega); rw [HKx.out] at this; exact this
       have d1 : w5.cell? ⟨w3.heap.size, 206, none⟩ = some (.int .i64 8) := by have := b5.kvN (k := 1) (by omega); rw [HKx.out] at this; exact this
       have d2 : w5.cell? ⟨w3.heap.size, 207, none⟩ = some (.int .i64 0) := by have := b5.kvN (k := 2) (by omega); rw [HKx.out] at this; exact this
       have d3 : w5.cell? ⟨w3.heap.size, 208, none⟩ = some (.int .i64 0) := by have := b5.kvN (k := 3) (by omega); rw [HKx.out] at this; exact this
       have d4 : w5.cell? ⟨w3.heap.size, 209, none⟩ = some (.int .i64 25) := by have := b5.kvN (k := 4) (by omega); rw [HKx.out] at this; exact this
       have d5 : w5.cell? ⟨w3.heap.size, 201, none⟩ = some (.bool false) := by have := b5.kvF (k := 5) (by omega); rw [HKx.out] at this; exact this
       have d7 : w5.cell? ⟨w3.heap.size, 203, none⟩ = some (.bool true) := by have := b5.kvF (k := 7) (by omega); rw [HKx.out] at this; exact this
       have H5 := Lib.hid (H3.out.2.trans (kk.mono H3.out.2.size))
       clear b5 k5 kk)
    | fail)
  go_ret
  exact ⟨rfl, H5.out⟩
end Go.Proofs.YtgipngedmblnmaaDoor
