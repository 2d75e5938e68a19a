/-
  The contract of awake.
-/
import Derived.Test.YtmaffonnekgekaaAwakeMath
import Derived.Test.YtmaffonnekgekaaSpecT
import Derived.Test.YtmaffonnekgekaaSameT
namespace Go.Proofs.Ytmaffonnekgekaa
open Go.RowKit

/-- an operation that builds, and is wanted, at a region's list -/
theorem wpList_build_when {ops : Array Oper} {rest : List Oper} {op : Oper} {a : Act} {w : World} {Q : Exit → Act → World → Prop} (hw : Region.wanted op (yielded ops a.tmps) = true) (t : TypeId) (parts : Array (Nat × Operand)) (ho : op.op = .build t parts)
    (v : Value) (ps : Array (Nat × Value)) (hps : (parts.map fun (i, x) => (i, a.eval x)) = ps) (h : (Instr.build t ps).run Try.prog w = .ok v w)
    (hK : wpList Try.prog ops Q rest (a.put op.dst v) w) : wpList Try.prog ops Q (op :: rest) a w :=
  wpList_step fun _ hQ => by
    rw [if_pos hw]
    unfold Oper.wp execOp
    simp only [ho, hps, Sem.run_bind, h, Result.andThen_ok]
    exact hQ _ _ hK
/-- a comparison of two arrays that are alike -/
theorem wpList_eql_when {ops : Array Oper} {rest : List Oper} {op : Oper} {a : Act} {w : World} {Q : Exit → Act → World → Prop} (hw : Region.wanted op (yielded ops a.tmps) = true) (x y : Operand) (ho : op.op = .binOp .eql 24 x y 24)
    (B : List Int) (hB : B.length = 16) (hx : a.eval x = .agg (cellsI B).toArray) (hy : a.eval y = .agg (cellsI B).toArray)
    (hK : wpList Try.prog ops Q rest (a.put op.dst (.bool true)) w) : wpList Try.prog ops Q (op :: rest) a w :=
  wpList_step fun _ hQ => by
    have hg : Try.prog.eqGuardType Try.prog.depth 24 = false := by kernel_rfl
    rw [if_pos hw]
    unfold Oper.wp execOp
    simp only [ho, hx, hy, Sem.run_bind, run_eqGuard_agg w .eql 24 x y _ _ hg, run_eql_struct, arr_equal w hB, Result.andThen_ok]
    exact hQ _ _ hK
theorem build_arr111 (w : World) : (Instr.build 24 #[(0, .int .i64 1), (1, .int .i64 1), (2, .int .i64 1)]).run Try.prog w = .ok (.agg (cellsI B111).toArray) w := run_build w 24 _ _ (by kernel_rfl)
theorem below_stored {w w' : World} {o : Obj} {g : Nat} (hg : g = w.heap.size) (k : Kept (fun i => i = g) (w.alloc o) w') : Below w.heap.size w w' :=
  (on_alloc w o).trans (k.below (by simp) (fun i hi e => by omega))
theorem nil_ia (w : World) : Ia w none 0 0 [] := (Il.none w).ia

set_option maxRecDepth 20000 in
set_option maxHeartbeats 1600000 in
theorem awake_any (w : World) : Calls Try.prog 9 #[] w (Law w) := by
  have hz := zero25
  obtain ⟨ZC, hZC⟩ : ∃ ZC, ZC = zeroC := ⟨_, rfl⟩
  have hz26 : ∀ w, (zeroValue 26).run Try.prog w = .ok (.agg ZC) w := by rw [hZC]; exact hz
  clear hz
  have HZ := Lib.hid hZC
  clear hZC
  obtain ⟨w1, hw1⟩ : ∃ w1, w1 = w.alloc (.cells #[.int .i64 5, .int .i64 1, .int .i64 1] 3) := ⟨_, rfl⟩
  have hi : Il w1 (some ⟨w.heap.size, 0, none⟩) 3 3 C51 := by rw [hw1]; exact il_of_box (l := C51) (Box.made w 3 _) rfl (by unfold maxLen; omega)
  have H1 := Lib.hid (And.intro (spec_anyT w1 C51 _ 3 3 hi.ia (by omega)) (And.intro hw1 (show Below w.heap.size w w1 by rw [hw1]; exact on_alloc _ _)))
  clear hi hw1
  go_enter Try.func9, Try.ntmps9
  go_wp2_with fail
  rw [← H1.out.2.1]
  refine H1.out.1.mono ?_
  rintro e w2 ⟨b2, ⟨hno, _⟩ | ⟨_, _, B, V, A, n, c, rfl, hiV, hsp, _, _⟩⟩
  · exact absurd ⟨good51, any51⟩ hno
  obtain ⟨rfl, rfl⟩ := hsp.only good51 spec51
  have hn : 3 = n := hiV.len
  subst hn
  have H2 := Lib.hid (And.intro hiV (on_trans H1.out.2.2 b2))
  clear hiV b2 hsp
  obtain ⟨d, hd⟩ : ∃ d, d = w2.heap.size := ⟨_, rfl⟩
  have hb0 : Box (w2.alloc (.cells ZC 26)) w2.heap.size 26 zeroC := by rw [HZ.out]; exact Box.made _ _ _
  have H0 := Lib.hid (And.intro hb0 hd)
  clear hb0 hd
  go_wp2_with (first
    | ((with_reducible refine wpList_store_spec (o := ⟨none, _, _, _, _, _⟩) rfl (.tmp 1) (.tmp 8) rfl rfl w2.heap.size B111 (.slice A 3 c) rfl rfl zeroC H0.out.1 rfl rfl rfl ?_)
       intro w4 b4 k4
       have H4 := Lib.hid (And.intro b4 k4)
       clear b4 k4)
    | fail)
  have b4 := below_stored rfl H4.out.2
  have H5 := Lib.hid (And.intro H4.out.1 (And.intro (H2.out.1.on b4) (on_trans H2.out.2 b4)))
  clear b4
  refine (spec_anyT w4 [] none 0 0 (nil_ia w4) (by omega)).mono ?_
  rintro e w5 ⟨b5, ⟨_, rfl⟩ | ⟨hg, _⟩⟩
  case inr => exact absurd hg bad_nil
  obtain ⟨g, hg⟩ : ∃ g, g = w2.heap.size := ⟨_, rfl⟩
  have hb5 : Box (w5.alloc (.cells ZC 26)) w5.heap.size 26 zeroC := by rw [HZ.out]; exact Box.made _ _ _
  have h5 := H5.out.1.on b5
  have H6 := Lib.hid (And.intro h5 (And.intro (H5.out.2.1.on b5) (And.intro (on_trans H5.out.2.2 b5) (And.intro hb5 hg))))
  rw [← hg]
  clear b5 h5 hb5 hg
  go_wp2_with (first
    | ((with_reducible refine wpList_store_spec (o := ⟨none, _, _, _, _, _⟩) rfl (.tmp 3) (.tmp 12) rfl rfl w5.heap.size (List.replicate 16 0) (.slice none 0 0) rfl rfl zeroC H6.out.2.2.2.1 rfl rfl rfl ?_)
       intro w6 b6 k6
       have b7 := below_stored rfl k6
       have h7 : Box w6 g 26 (specC B111 (.slice A 3 c)) := by rw [H6.out.2.2.2.2]; exact H6.out.1.on b7
       have hv7 := H6.out.2.1.on b7
       have c16 := (h7.cell 16).trans (specC_last rfl)
       obtain ⟨bb, off, hA, _, hc⟩ := hv7.at_ (by omega)
       have c0 := hc 0 (by omega)
       rw [Nat.add_zero, show V012.getD 0 0 = 0 from rfl] at c0
       have H7 := Lib.hid (And.intro h7 (on_trans H6.out.2.2.1 b7))
       subst hA
       clear b6 k6 b7 h7 hv7 hc)
    | (refine wpList_load_when (op := ⟨some 18, _, _, _, _, _⟩) (by rfl) 24 (.tmp 17) rfl (.pointer (some ⟨g, 0, none⟩)) rfl (.agg (cellsI B111).toArray) (load_bits H7.out.1 rfl) ?_)
    | (refine wpList_build_when (op := ⟨some 19, _, _, _, _, _⟩) (by rfl) 24 _ rfl (.agg (cellsI B111).toArray) #[(0, .int .i64 1), (1, .int .i64 1), (2, .int .i64 1)] (by simp [Act.eval]) (build_arr111 _) ?_)
    | (refine wpList_eql_when (op := ⟨some 20, _, _, _, _, _⟩) (by rfl) (.tmp 18) (.tmp 19) rfl B111 rfl rfl rfl ?_)
    | fail)
  go_ret
  exact ⟨rfl, H7.out.2⟩
end Go.Proofs.Ytmaffonnekgekaa
