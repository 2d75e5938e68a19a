/-
  Rows of bytes that grow, and where they lie; the contracts of cursor's Put (two bytes) and of addSegment. The contracts of addSteps and addTable. The contract of the program's Tables.
-/
import Derived.Test.YtgipngedmblnmaaDoorCPut
import Derived.Test.YtgipngedmblnmaaDoorSegBody
import Derived.Test.YtgipngedmblnmaaDoorRFrame
import Derived.Test.YtgipngedmblnmaaDoorEnts
namespace Go.Proofs.YtgipngedmblnmaaDoor
open Go.RowKit

/-- a row has grown: only its own block has turned, and it lies where it lay or in new memory -/
structure Grow (w w' : World) (v v' : Value) (base n' : Nat) (l' : List Int) : Prop where
  own : w'.ownsRow base 5 1 v' n' (cellsOf l')
  kep : Kept (fun i => v.ownBlock = some i) w w'
  whr : v'.ownBlock = v.ownBlock ∨ ∀ i, v'.ownBlock = some i → w.heap.size ≤ i
theorem Grow.trans {w w1 w2 : World} {v v1 v2 : Value} {base n1 n2 : Nat} {l1 l2 : List Int} (h : Grow w w1 v v1 base n1 l1) (k : Grow w1 w2 v1 v2 base n2 l2) : Grow w w2 v v2 base n2 l2 := by
  refine ⟨k.own, h.kep.trans k.kep (fun i hi e => ?_), ?_⟩
  · rcases h.whr with e1 | e1
    · rw [← e1]; exact e
    · have := e1 i e; omega
  · rcases k.whr with e2 | e2
    · rw [e2]; exact h.whr
    · exact .inr fun i hi => Nat.le_trans h.kep.size (e2 i hi)
theorem Grow.refl {w : World} {v : Value} {base n : Nat} {l : List Int} (h : w.ownsRow base 5 1 v n (cellsOf l)) : Grow w w v v base n l := ⟨h, Kept.refl _ _, .inl rfl⟩
theorem own_kept {w w' : World} {base n : Nat} {v : Value} {l : List Int} (h : w.ownsRow base 5 1 v n (cellsOf l)) {S : Nat → Prop} (k : Kept S w w') (hS : ∀ i, v.ownBlock = some i → ¬ S i) : w'.ownsRow base 5 1 v n (cellsOf l) :=
  ownsRow_block h (fun g _ e hh => k.block g (Array.getElem?_eq_some_iff.1 hh).1 (hS g e))
theorem Grow.on {w w1 w' : World} {v v1 : Value} {base n : Nat} {l : List Int} (h : Grow w w1 v v1 base n l) (k : Below w1.heap.size w1 w') : Grow w w' v v1 base n l :=
  ⟨own_kept h.own (Kept.of_below k (fun _ => False)) (fun _ _ e => e), h.kep.trans (Kept.of_below k (fun _ => False)) (fun _ _ e => absurd e (fun e => e)), h.whr⟩
theorem run_append_z (w : World) (ty : TypeId) (base : Nat) (v : Value) (n : Nat) (l : List Int) (hown : w.ownsRow base 5 1 v n (cellsOf l)) (K : Nat → Prop) (A : Option Addr) (m c : Nat) (r : List Int) (hr : Sl w K A m c r) (h63 : n + m ≤ 140737488351232) (hbase : base ≤ w.heap.size) :
    ∃ v' w', (Builtin.append_ #[37, 37] ty #[v, .slice A m c]).run Tryd.prog w = .ok v' w' ∧ Grow w w' v v' base (n + m) (l ++ r) := by
  obtain ⟨i0, hi0, hz0, hz1, hz2⟩ := info_parts byte_info
  cases A with
  | none =>
    obtain rfl : c = 0 := hr.nil rfl
    obtain rfl : m = 0 := by have := hr.cap; omega
    have hl : r = [] := List.eq_nil_of_length_eq_zero hr.len
    subst hl
    exact ⟨v, w, run_append_owned_none (P := Tryd.prog) (w := w) base 37 ty 5 i0 1 Tryd.underlying37 hi0 v n (cellsOf l) hown, by simpa using Grow.refl hown⟩
  | some ad =>
    have hlen : (cellsOf r).length = m * 1 := by rw [cellsOf_len, hr.len, Nat.mul_one]
    have h63' : n + m ≤ maxLen := by simp only [maxLen]; omega
    have hby : (n + m) * 1 ≤ 140737488355328 := by omega
    obtain ⟨v', w', h0, h1, h2, _⟩ := run_append_own (P := Tryd.prog) w base 37 ty 5 i0 (.int .u8 0) 1 1 Tryd.underlying37 hi0 hz0 hz1 hz2 rfl (by omega) v n (cellsOf l) hown ad m c (cellsOf r) hlen hr.bts.read (cellsOf_one r) h63' hby hbase
    have e : cellsOf l ++ cellsOf r = cellsOf (l ++ r) := by simp [cellsOf]
    rw [e] at h1
    refine ⟨v', w', h0, h1, ⟨h2.os, h2.tape, h2.output, h2.size, fun k hk hn => h2.block k hk (fun e => hn e.symm)⟩, ?_⟩
    rcases hown.2 with ⟨rfl, rfl⟩ | ⟨g, cap, cur, rfl, hg, hh, hnc, hcm, hcs, ht⟩
    · obtain ⟨v2, w2, k0, k1, _, _⟩ := run_append_own (P := Tryd.prog) w w.heap.size 37 ty 5 i0 (.int .u8 0) 1 1 Tryd.underlying37 hi0 hz0 hz1 hz2 rfl (by omega) (.slice none 0 0) 0 (cellsOf l) ⟨hown.1, .inl ⟨rfl, rfl⟩⟩ ad m c (cellsOf r) hlen hr.bts.read (cellsOf_one r) h63' hby (Nat.le_refl _)
      rw [h0] at k0
      injection k0 with e1 e2
      subst e1
      exact .inr fun i hi => (own_block3 k1 hi).1
    · by_cases hroom : n + m ≤ cap
      · have hfit : n * i0.size + (cellsOf r).length ≤ cur.size := by rw [hlen, hcs, hz1]; omega
        have k0 := run_append_room (P := Tryd.prog) w 37 ty 5 i0 Tryd.underlying37 hi0 g n cap cur hh ad m c (cellsOf r) (by rw [hz1]; exact hlen) hr.bts.read (cellsOf_one r) hroom hfit
        rw [h0] at k0
        injection k0 with e1 e2
        subst e1
        exact .inl rfl
      · have hol : (cellsOf l).length = n * i0.size := by rw [hz1]; exact hown.1
        have k0 := run_append_grow (P := Tryd.prog) w 37 ty 5 i0 (.int .u8 0) Tryd.underlying37 hi0 hz0 ⟨g, 0, none⟩ n cap (cellsOf l) hol (hown.cells (g := g) rfl) ad m c (cellsOf r) (by rw [hz1]; exact hlen) hr.bts.read (by omega) (by omega) (by rw [hz2]; exact growslice_fits (by omega) hby)
        rw [h0] at k0
        injection k0 with e1 e2
        subst e1
        exact .inr fun i hi => by
          have : w.heap.size = i := by injection hi
          omega
theorem wpList_append_z {w : World} {ops : Array Oper} {rest : List Oper} {o : Oper} {a : Act} {Q : Exit → Act → World → Prop} (hgd : o.guard = none) (s x : Operand)
    (ho : o.op = .call { callee := .builtin .append, args := #[s, x], argTypes := #[37, 37] })
    (base : Nat) (v : Value) (n : Nat) (l : List Int) (hs : a.eval s = v) (hown : w.ownsRow base 5 1 v n (cellsOf l))
    (K : Nat → Prop) (A : Option Addr) (m c : Nat) (r : List Int) (hx : a.eval x = .slice A m c) (hr : Sl w K A m c r) (h63 : n + m ≤ 140737488351232) (hbase : base ≤ w.heap.size)
    (h : ∀ v' w', Grow w w' v v' base (n + m) (l ++ r) → wpList Tryd.prog ops Q rest (a.put o.dst v') w') : wpList Tryd.prog ops Q (o :: rest) a w :=
  wpList_plain hgd fun _ hK => by
    obtain ⟨v', w', h0, h1⟩ := run_append_z w o.type base v n l hown K A m c r hr h63 hbase
    unfold Oper.wp execOp
    simp only [ho, resolve, invoke, builtin, Sem.run_bind, Sem.run_pure, Result.andThen_ok, List.map_toArray, List.map_cons, List.map_nil, hs, hx, h0]
    exact hK _ _ (h v' w' h1)
theorem step_append_z {ops : Array Oper} {o : Oper} {a : Act} {w : World} {Kp : Act → World → Prop} {Q : Exit → Act → World → Prop} {E : Prop} (hgd : o.guard = none) (s x : Operand)
    (ho : o.op = .call { callee := .builtin .append, args := #[s, x], argTypes := #[37, 37] })
    (base : Nat) (v : Value) (n : Nat) (l : List Int) (hs : a.eval s = v) (hown : w.ownsRow base 5 1 v n (cellsOf l))
    (K : Nat → Prop) (A : Option Addr) (m c : Nat) (r : List Int) (hx : a.eval x = .slice A m c) (hr : Sl w K A m c r) (h63 : n + m ≤ 140737488351232) (hbase : base ≤ w.heap.size) (d : Option Tmp) (hd : o.dst = d)
    (h : ∀ v' w', Grow w w' v v' base (n + m) (l ++ r) → Kp (a.put d v') w') :
    if Region.wanted o (yielded ops a.tmps) = true then Oper.wp Tryd.prog o a w Kp Q else E := by
  have hw : Region.wanted o (yielded ops a.tmps) = true := by simp [Region.wanted, hgd]
  rw [if_pos hw]
  subst hd
  obtain ⟨v', w', h0, h1⟩ := run_append_z w o.type base v n l hown K A m c r hr h63 hbase
  unfold Oper.wp
  simp [execOp, ho, resolve, invoke, builtin, hs, hx, h0, Result.andThen]
  exact h v' w' h1
theorem Grow.val {w w' : World} {v v' : Value} {base n : Nat} {l : List Int} (h : Grow w w' v v' base n l) : ∃ A c, v' = .slice A n c := own_slice h.own
theorem own_len {w : World} {base n : Nat} {v : Value} {l : List Int} (h : w.ownsRow base 5 1 v n (cellsOf l)) : l.length = n := by have := h.1; simpa [cellsOf] using this
/-- the bytes of a row, and where they lie -/
theorem sl_of_own' {w : World} {base : Nat} {v : Value} {n : Nat} {l : List Int} (h : w.ownsRow base 5 1 v n (cellsOf l)) (hf : Fit l) : ∃ A c, v = .slice A n c ∧ Sl w (fun b => v.ownBlock = some b) A n c l := by
  have hl := own_len h
  have hown := h
  rcases h.2 with ⟨rfl, rfl⟩ | ⟨g, cap, cur, rfl, hg, hh, hn, hm, _, _⟩
  · exact ⟨none, 0, rfl, ⟨hf, fun h0 => by omega⟩, hl, Nat.le_refl _, Nat.zero_le _, fun _ => rfl⟩
  · refine ⟨some ⟨g, 0, none⟩, cap, rfl, ⟨hf, fun _ => ⟨g, 0, rfl, (Array.getElem?_eq_some_iff.1 hh).1, rfl, fun i hi => ?_⟩⟩, hl, hn, hm, fun e => by cases e⟩
    rw [Nat.zero_add, hown.cellAt i (by omega)]
    simp [cellsOf, List.getD_eq_getElem?_getD, List.getElem?_eq_getElem hi]
theorem own_of_box {w : World} {g base n : Nat} {l : List Int} (h : Box w g 5 (cellsOf l).toArray) (hl : l.length = n) (hb : base ≤ g) (hm : n ≤ maxLen) : w.ownsRow base 5 1 (.slice (some ⟨g, 0, none⟩) n n) n (cellsOf l) :=
  ⟨by rw [cellsOf_len, hl, Nat.mul_one], .inr ⟨g, n, _, rfl, hb, h, Nat.le_refl _, hm, by rw [List.size_toArray, cellsOf_len, hl, Nat.mul_one], by rw [Nat.mul_one, List.take_of_length_le (by rw [Array.length_toList, List.size_toArray, cellsOf_len, hl]; exact Nat.le_refl _)]⟩⟩
theorem told_be2 (v : Int) : told v 2 true = be2 v := by
  simp [told, be2, byteAt, List.range_succ]
set_option maxHeartbeats 400000 in
theorem putBox_any (w : World) (K : Nat → Prop) (A : Option Addr) (n c : Nat) (l : List Int) (v : Int) (m : Nat) (big : Bool) (h : Sl w K A n c l) (hn : n ≤ 140737488351200) (hv : 0 ≤ v) (hv2 : v ≤ 9223372036854775807) (hm : decide ((m : Int) = 1 ∨ (m : Int) = 2 ∨ (m : Int) = 4 ∨ (m : Int) = 8) = true) :
    Calls Tryd.prog 30 #[.slice A n c, .int .i64 v, .int .i64 m, .bool big] w (fun e w' => ∃ g, e = .returned (.slice (some ⟨g, 0, none⟩) (n + m) (n + m)) ∧ w.heap.size ≤ g ∧ Box w' g 5 (cellsOf (l ++ told v m big)).toArray ∧ Below w.heap.size w w') := by
  have hm8 : m ≤ 8 := by have := of_decide_eq_true hm; omega
  have hm0 : 0 < m := by have := of_decide_eq_true hm; omega
  have HI := Lib.hid (isSize_any m w)
  have HM := Lib.hid hm
  have hv3 : ¬ v < 0 := by omega
  have H := Lib.hid h
  have HLEN := Lib.hid h.len
  have hmk := run_make_row' (P := Tryd.prog) 37 5 (.int .u8 0) 1 Tryd.underlying37 byte_info rfl .i64 .i64 (n + m) (by omega) (by omega)
  have ec : ((n + m : Nat) : Int) = (n : Int) + (m : Int) := by omega
  rw [ec] at hmk
  clear hm h ec
  go_enter Tryd.func30, Tryd.ntmps30
  go_wp2_with (first
    | (go_at_call 50; refine HI.out.mono ?_; rw [HM.out]; rintro r w' ⟨rfl, rfl⟩)
    | ((with_reducible refine wpList_copy_splice (o := ⟨some 23, _, _, _, _, _⟩) rfl (.tmp 21) (.tmp 22) 37 37 rfl 5 Tryd.underlying37 byte_size (some ⟨w.heap.size, 0, none⟩) A (n + m) (n + m) n c rfl rfl w.heap.size 0 (madeCells #[.int .u8 0] (n + m)).toList 5 ?hg (cellsOf l) ?hn ?hpos ?hfit (cellsOf_one _) w.heap.size w ?hb (Nat.le_refl _) ?_)
       case hg => exact Box.made w 5 (madeCells #[.int .u8 0] (n + m))
       case hn => rw [cellsOf_len, HLEN.out]; exact (Nat.min_eq_left (Nat.le_add_right _ _)).symm
       case hpos => exact fun h0 => ⟨rfl, sl_copy H.out _ h0⟩
       case hfit => rw [cellsOf_len, HLEN.out, Array.length_toList, size_madeCells]; omega
       case hb => exact (Below.refl _ w).alloc (Nat.le_refl _) _
       intro w1 hb1 hbel
       have HB := Lib.hid (And.intro hb1 hbel)
       clear hb1 hbel hmk))
  have hstart : Box w1 w.heap.size 5 (cellsOf (putting l (told v m big) 0)).toArray := by
    have := HB.out.1.out
    rw [← HLEN.out, putting_start l (told v m big) m (told_len v m big)] at this
    exact this
  have HST := Lib.hid (And.intro hstart HB.out.2)
  clear hstart HB
  go_loopw [25] (fun i wr => ∃ k : Nat, k ≤ m ∧ i = .int .i64 k ∧ Box wr w.heap.size 5 (cellsOf (putting l (told v m big) k)).toArray ∧ Below w.heap.size w wr) (fun i _ => m - (intOf i).toNat)
  case atStart => exact ⟨0, Nat.zero_le _, rfl, HST.out⟩
  case round =>
    obtain ⟨k, hk, rfl, hbox, hbel⟩ := hrel
    by_cases hlt : k < m
    · obtain ⟨j, hj⟩ : ∃ j, (if big then m - 1 - k else k) = j := ⟨_, rfl⟩
      have hfree := hbox.free (n + k)
      obtain ⟨x, hcell⟩ : ∃ x, wr.cell? ⟨w.heap.size, n + k, none⟩ = some x := putting_cell hbox HLEN.out (told_len v m big) hlt
      have hj8 : j < 8 := by split at hj <;> omega
      have HS := Lib.hid (shift_nat k m big j hj wr hlt hm8)
      have HR := Lib.hid (And.intro hbox (And.intro hbel hj))
      clear hbox hbel hj
      go_wp2_with (go_at_call 51; refine HS.out.mono ?_; rintro r w' ⟨rfl, rfl⟩)
      go_roundw
      case rel =>
        obtain ⟨hbox, hbel, hj⟩ := HR.out
        refine ⟨k + 1, by omega, by go_num, ?_, hbel.setCell (p := ⟨w.heap.size, n + k, none⟩) (Nat.le_refl _) _⟩
        exact putting_put hbox HLEN.out (told_len v m big) hlt (by rw [told_get v m big k hlt, hj, byteAt, pow_256])
      case measure => simp [intOf]; omega
    · have HR := Lib.hid (And.intro hbox hbel)
      clear hbox hbel
      go_wp2
      go_ret
      have ek : k = m := by omega
      obtain ⟨hbox, hbel⟩ := HR.out
      rw [ek] at hbox
      have he := putting_end l (told v m big)
      rw [told_len] at he
      rw [he] at hbox
      exact ⟨w.heap.size, rfl, Nat.le_refl _, hbox, hbel⟩


set_option maxRecDepth 10000 in
set_option maxHeartbeats 1600000 in
theorem addSegment_any (w : World) (base : Nat) (v : Value) (n : Nat) (l : List Int) (hv : w.ownsRow base 5 1 v n (cellsOf l)) (hb : base ≤ w.heap.size) (hn : n ≤ 1000000) (code : Int) (c0 : 0 ≤ code) (c1 : code ≤ 255) (hfl : Fit l)
    (K : Nat → Prop) (A : Option Addr) (m c : Nat) (bd : List Int) (hs : Sl w K A m c bd) (hm : m ≤ 100000) (hK : ∀ i, K i → v.ownBlock ≠ some i) :
    Calls Tryd.prog 25 #[v, .int .u8 code, .slice A m c] w fun e w' => ∃ v', e = .returned v' ∧ Grow w w' v v' base (n + 2 + 2 + m) (l ++ segB code bd) ∧ ∀ i, v'.ownBlock = some i → w.heap.size ≤ i := by
  obtain ⟨A0, k0, rfl⟩ := own_slice hv
  obtain ⟨w1, hw1⟩ : ∃ x, w.alloc (.cells #[.int .u8 255, .int .u8 code] 5) = x := ⟨_, rfl⟩
  have b1 : Box w1 w.heap.size 5 (cellsOf [255, code]).toArray := by rw [← hw1]; exact Box.made _ _ _
  have bel1 : Below w.heap.size w w1 := by rw [← hw1]; exact on_alloc _ _
  have sl1 : Sl w1 (fun b => b = w.heap.size) (some ⟨w.heap.size, 0, none⟩) 2 2 [255, code] := sl_of_box b1 (fun z hz => by simp at hz; omega) rfl (by decide) rfl
  have hlb := hs.len
  have H1 := Lib.hid (And.intro hw1 (And.intro bel1 (And.intro sl1 (And.intro (own_kept hv (Kept.of_below bel1 (fun _ => False)) (fun _ _ e => e)) (And.intro (hs.mono (K' := fun b => b < w.heap.size ∧ K b) (fun b hb hk => ⟨hb, hk⟩)) (And.intro hK (And.intro hfl (And.intro hlb (And.intro hb (own_len hv))))))))))
  clear hw1 b1 bel1 sl1 hv hs hK hfl hlb hb
  go_enter Tryd.func25, Tryd.ntmps25
  go_wp2_with (first
    | ((with_reducible refine wpList_append_z (o := ⟨some 10, _, _, _, _, _⟩) rfl (.tmp 7) (.tmp 9) rfl base (.slice A0 n k0) n l rfl ?hown (fun b => b = w.heap.size) (some ⟨w.heap.size, 0, none⟩) 2 2 [255, code] rfl ?hr ?hs ?hb ?_)
       case hown => rw [H1.out.1]; exact H1.out.2.2.2.1
       case hr => rw [H1.out.1]; exact H1.out.2.2.1
       case hs => omega
       case hb => rw [H1.out.1]; exact Nat.le_trans H1.out.2.2.2.2.2.2.2.2.1 H1.out.2.1.size
       intro v2 w2 hg2
       rw [H1.out.1] at hg2
       obtain ⟨A2, k2, hv2⟩ := hg2.val
       subst hv2
       have H2 := Lib.hid hg2
       clear hg2)
    | fail)
  have hf2 : Fit (l ++ [255, code]) := fit_app H1.out.2.2.2.2.2.2.1 (fun z hz => by simp at hz; omega)
  obtain ⟨Ax, kx, ex, sx⟩ := sl_of_own' H2.out.own hf2
  cases ex
  have hp := putBox_any w2 _ A2 (n + 2) k2 (l ++ [255, code]) ((m : Int) + 2) 2 true sx (by omega) (by omega) (by omega) (by decide)
  have HP := Lib.hid hp
  have hwm : IntKind.i64.wrap (2 + (m : Int)) = (m : Int) + 2 := by rw [wrapI (by omega) (by omega)]; omega
  clear hp sx hf2
  first | rw [show (2 + (m : Int)) = (m : Int) + 2 by omega] | skip
  refine Calls.mono HP.out ?_
  rintro e w3 ⟨g3, rfl, hg3, bx3, bel3⟩
  rw [told_be2] at bx3
  have hs2 : Kept (fun i => (Value.slice A0 n k0).ownBlock = some i) w w3 := by
    refine (Kept.of_below H1.out.2.1 (fun i => (Value.slice A0 n k0).ownBlock = some i)).trans (H2.out.kep.trans (Kept.of_below bel3 (fun _ => False)) (fun _ _ e => absurd e (fun e => e))) (fun _ _ e => e)
  have hlen3 : (l ++ [255, code] ++ be2 ((m : Int) + 2)).length = n + 2 + 2 := by rw [List.length_append, List.length_append, H1.out.2.2.2.2.2.2.2.2.2]; rfl
  have hwg : w.heap.size ≤ g3 := Nat.le_trans (Nat.le_trans H1.out.2.1.size H2.out.kep.size) hg3
  have own3 : w3.ownsRow base 5 1 (.slice (some ⟨g3, 0, none⟩) (n + 2 + 2) (n + 2 + 2)) (n + 2 + 2) (cellsOf (l ++ [255, code] ++ be2 ((m : Int) + 2))) :=
    own_of_box bx3 hlen3 (Nat.le_trans H1.out.2.2.2.2.2.2.2.2.1 hwg) (by simp only [maxLen]; omega)
  have sb3 : Sl w3 (fun b => b < w.heap.size ∧ K b) A m c bd := by
    refine (H1.out.2.2.2.2.1).kept hs2 (fun b hb e => ?_)
    exact H1.out.2.2.2.2.2.1 b hb.2 e
  have H3 := Lib.hid (And.intro own3 (And.intro sb3 (And.intro hs2 (And.intro hwg (show base ≤ w3.heap.size from Nat.le_trans H1.out.2.2.2.2.2.2.2.2.1 hs2.size)))))
  clear bx3 bel3 hs2 hlen3 own3 sb3 HP hg3 hwg
  go_wp2_with (first
    | ((with_reducible refine wpList_append_z (o := ⟨some 17, _, _, _, _, _⟩) rfl (.tmp 15) (.tmp 16) rfl base (.slice (some ⟨g3, 0, none⟩) (n + 2 + 2) (n + 2 + 2)) (n + 2 + 2) (l ++ [255, code] ++ be2 ((m : Int) + 2)) rfl H3.out.1 _ A m c bd rfl H3.out.2.1 ?hs H3.out.2.2.2.2 ?_)
       case hs => omega
       intro v4 w4 hg4
       obtain ⟨A4, k4, hv4⟩ := hg4.val
       subst hv4
       have H4 := Lib.hid hg4
       clear hg4)
    | fail)
  go_ret
  have e : l ++ [255, code] ++ be2 ((m : Int) + 2) ++ bd = l ++ segB code bd := by
    unfold segB
    rw [H1.out.2.2.2.2.2.2.2.1]
    simp
  have hfr : ∀ i, (Value.slice A4 (n + 2 + 2 + m) k4).ownBlock = some i → w.heap.size ≤ i := fun i hi => by
    rcases H4.out.whr with e1 | e1
    · rw [e1] at hi
      have : g3 = i := by injection hi
      have := H3.out.2.2.2.1
      omega
    · exact Nat.le_trans H3.out.2.2.1.size (e1 i hi)
  refine ⟨_, rfl, ⟨by rw [← e]; exact H4.out.own, H3.out.2.2.1.trans H4.out.kep (fun i hi e2 => ?_), .inr hfr⟩, hfr⟩
  have : g3 = i := by injection e2
  have := H3.out.2.2.2.1
  omega
end Go.Proofs.YtgipngedmblnmaaDoor

namespace Go.Proofs.YtgipngedmblnmaaDoor
open Go.RowKit

theorem Grow.pre {w w1 w2 : World} {v v2 : Value} {base n : Nat} {l : List Int} (k : Below w.heap.size w w1) (h : Grow w1 w2 v v2 base n l) : Grow w w2 v v2 base n l :=
  ⟨h.own, (Kept.of_below k (fun i => v.ownBlock = some i)).trans h.kep (fun _ _ e => e), h.whr.imp id (fun f i hi => Nat.le_trans k.size (f i hi))⟩
/-- a block of another type is kept where a row grows -/
theorem Grow.box {w w' : World} {v v' : Value} {base n m : Nat} {l l0 : List Int} (h : Grow w w' v v' base n l) (hv : w.ownsRow base 5 1 v m (cellsOf l0)) {g : Nat} {t : TypeId} {cs : Array Value} (hb : Box w g t cs) (ht : t ≠ 5) : Box w' g t cs := h.kep.box hb (own_apart hv hb ht)
theorem Grow.lo {w w' : World} {v v' : Value} {base n m : Nat} {l l0 : List Int} (h : Grow w w' v v' base n l) (hv : w.ownsRow base 5 1 v m (cellsOf l0)) (hb : base ≤ w.heap.size) : Below base w w' := h.kep.below hb (fun i hi e => by have := (own_block3 hv e).1; omega)

set_option maxRecDepth 10000 in
set_option maxHeartbeats 1600000 in
theorem addSteps_any (w : World) (base : Nat) (v : Value) (n : Nat) (l : List Int) (hv : w.ownsRow base 5 1 v n (cellsOf l)) (hb : base ≤ w.heap.size) (hb0 : 0 < base) (hn : n ≤ 1000000) (i : Int) (s : List Int) (i0 : 0 ≤ i) (i1 : i ≤ 255) (hs : s.length = 64) (hT : Tab w) :
    Calls Tryd.prog 23 #[v, .int .i64 i, blkV s] w fun e w' => ∃ v', e = .returned v' ∧ Grow w w' v v' base (n + 65) (l ++ stepsB i s) := by
  obtain ⟨A0, k0, rfl⟩ := own_slice hv
  obtain ⟨cs, hcs⟩ : ∃ cs, cs = (cellsI s).toArray := ⟨_, rfl⟩
  have hvs : blkV s = .agg cs := by rw [hcs]; rfl
  rw [hvs]
  obtain ⟨gs, hgs⟩ : ∃ gs, gs = w.heap.size := ⟨_, rfl⟩
  obtain ⟨w1, hw1⟩ : ∃ w1, w.alloc (.cells cs 23) = w1 := ⟨_, rfl⟩
  have hB : Blk w1 gs s := ⟨by rw [hgs, ← hw1, hcs]; exact Box.made _ _ _, hs⟩
  have k1 : Below w.heap.size w w1 := by rw [← hw1]; exact on_alloc _ _
  have own1 := own_kept hv (Kept.of_below k1 (fun _ => False)) (fun _ _ e => e)
  obtain ⟨w2, hw2⟩ : ∃ w2, w1.alloc (.cells #[.int .u8 i] 5) = w2 := ⟨_, rfl⟩
  have sl2 : Sl w2 (fun _ => True) (some ⟨w1.heap.size, 0, none⟩) 1 1 [i] := by rw [← hw2]; exact sl_byte w1 i i0 i1
  have k2 : Below w1.heap.size w1 w2 := by rw [← hw2]; exact on_alloc _ _
  have wi : IntKind.u8.wrap i = i := by rw [wrap8]; omega
  have HW := Lib.hid (And.intro hw1 (And.intro hw2 (And.intro (on_trans k1 k2) (And.intro (hB.on k2) (And.intro (hT.on (on_trans k1 k2)) (And.intro (own_kept own1 (Kept.of_below k2 (fun _ => False)) (fun _ _ e => e)) (And.intro sl2 (And.intro hb (And.intro hgs hv)))))))))
  have hsz1 : w1.heap.size = gs + 1 := by rw [← hw1, hgs]; simp
  have Hsz1 := Lib.hid hsz1
  clear hvs hcs hw1 hw2 hB k1 k2 own1 sl2 hb hT hv hsz1 hgs
  go_enter Tryd.func23, Tryd.ntmps23
  go_wp2_with (first
    | ((with_reducible refine wpList_append_z (o := ⟨some 13, _, _, _, _, _⟩) rfl (.tmp 9) (.tmp 12) rfl base (.slice A0 n k0) n l rfl ?hown (fun _ => True) (some ⟨gs + 1, 0, none⟩) 1 1 [i] ?hx ?hr ?hs ?hb ?_)
       case hown => rw [HW.out.1, HW.out.2.1]; exact HW.out.2.2.2.2.2.1
       case hx => rw [HW.out.2.2.2.2.2.2.2.2.1]; rfl
       case hr => rw [HW.out.1, HW.out.2.1, ← Hsz1.out]; exact HW.out.2.2.2.2.2.2.1
       case hs => omega
       case hb => rw [HW.out.1, HW.out.2.1]; exact Nat.le_trans HW.out.2.2.2.2.2.2.2.1 HW.out.2.2.1.size
       intro v3 w3 hg3
       rw [HW.out.1, HW.out.2.1] at hg3
       obtain ⟨A3, c3, hv3⟩ := hg3.val
       subst hv3
       have H3 := Lib.hid hg3
       clear hg3)
    | fail)
  have bel23 : Below base _ w3 := H3.out.lo HW.out.2.2.2.2.2.1 (Nat.le_trans HW.out.2.2.2.2.2.2.2.1 HW.out.2.2.1.size)
  have HT3 : Tab w3 := HW.out.2.2.2.2.1.bel bel23 hb0
  have HO := Lib.hid (order_any w3 HT3)
  have blk3 : Blk w3 gs s := ⟨H3.out.box HW.out.2.2.2.2.2.1 HW.out.2.2.2.1.box (by decide), hs⟩
  have H4 := Lib.hid (And.intro (H3.out.pre HW.out.2.2.1) blk3)
  rw [← HW.out.2.2.2.2.2.2.2.2.1]
  clear bel23 HT3 blk3
  refine Calls.mono HO.out ?_
  rintro e w5 ⟨rfl, b5⟩
  have H5 := Lib.hid (And.intro (H4.out.1.on b5) (H4.out.2.on b5))
  obtain ⟨Vz, hVz⟩ : ∃ V, V = blkV zz := ⟨_, rfl⟩
  rw [← hVz]
  have HVz := Lib.hid hVz
  clear b5 hVz HO H4 wi
  go_wp2_with fail
  go_loopw [0, 15] (fun u i' wr => ∃ k m A' c', k ≤ 64 ∧ m = n + 1 + k ∧ u = .slice A' m c' ∧ i' = .int .i64 ((k : Nat) : Int) ∧ Grow w wr (.slice A0 n k0) (.slice A' m c') base m (l ++ stK i s k) ∧ Blk wr gs s) (fun _ i' _ => 64 - (intOf i').toNat)
  case atStart => exact ⟨0, n + 1, _, _, by omega, rfl, rfl, rfl, H5.out⟩
  case round =>
    obtain ⟨k, m, A2, c2, hk, hm1, rfl, rfl, hR⟩ := hrel
    have HR := Lib.hid (And.intro hR.1 hR.2)
    have Hm1 := Lib.hid hm1
    clear hR
    by_cases hk64 : k < 64
    · obtain ⟨z1, z2⟩ := zn_cell hk64
      have hidx : ∀ w, (Instr.index 22 Vz (.int .i64 (k : Int))).run Tryd.prog w = .ok (.int .i64 (zn k : Int)) w := fun w => by rw [HVz.out, index22 w zz_len hk64, z1]
      have c4 := HR.out.2.cell z2
      have hm := stK_more i s k
      obtain ⟨q, hq⟩ : ∃ q, q = zn k := ⟨_, rfl⟩
      rw [← hq] at hidx c4 z2 hm
      obtain ⟨z, hz⟩ : ∃ z, z = s.getD q 0 := ⟨_, rfl⟩
      rw [← hz] at c4 hm
      have wz : IntKind.u8.wrap z = z % 256 := wrap8 z
      have MR := Lib.hid (own_kept HR.out.1.own (Kept.of_below (on_alloc wr (.cells #[.int .u8 (z % 256)] 5)) (fun _ => False)) (fun _ _ e => e))
      have SB := Lib.hid (sl_byte wr (z % 256) (by omega) (by omega))
      have HBs := Lib.hid (show base ≤ (wr.alloc (.cells #[.int .u8 (z % 256)] 5)).heap.size by have := HW.out.2.2.2.2.2.2.2.1; have := HR.out.1.kep.size; simp; omega)
      have HX := Lib.hid hm
      have hq64 : (q : Int) < 64 := by omega
      have hm63 : m + 1 ≤ 140737488351232 := by omega
      clear z1 hm hq hz hm1
      go_wp2_with (first
        | ((with_reducible refine wpList_append_z (o := ⟨some 24, _, _, _, _, _⟩) rfl (.tmp 18) (.tmp 23) rfl base (.slice A2 m c2) m (l ++ stK i s k) rfl MR.out (fun _ => True) (some ⟨wr.heap.size, 0, none⟩) 1 1 [z % 256] rfl SB.out ?hs ?hb ?_)
           case hs => exact hm63
           case hb => exact HBs.out
           intro v7 w7 hg7
           obtain ⟨A7, c7, hv7⟩ := hg7.val
           subst hv7
           have H7 := Lib.hid hg7
           clear hg7)
        | fail)
      have hE := (HR.out.1.on (on_alloc wr (.cells #[.int .u8 (z % 256)] 5))).trans H7.out
      rw [List.append_assoc, HX.out] at hE
      have hbk : Blk w7 gs s := ⟨H7.out.box MR.out (HR.out.2.box.alloc _) (by decide), hs⟩
      have HE := Lib.hid (And.intro hE hbk)
      clear hE hbk
      go_roundw
      case rel => exact ⟨k + 1, m + 1, _, _, by omega, by have := Hm1.out; omega, rfl, by go_num, HE.out⟩
      case measure => simp [intOf]; omega
    · have ek : k = 64 := by omega
      have hE := HR.out.1
      rw [ek, show stK i s 64 = stepsB i s from rfl, show m = n + 65 by omega] at hE
      have HE := Lib.hid hE
      have hm65 : m = n + 65 := by omega
      subst hm65
      clear hE ek hm1 Hm1
      go_wp2_with fail
      go_ret
      exact ⟨_, rfl, HE.out⟩

set_option maxRecDepth 10000 in
set_option maxHeartbeats 1600000 in
theorem addTable_any (w : World) (base : Nat) (v : Value) (n : Nat) (l : List Int) (hv : w.ownsRow base 5 1 v n (cellsOf l)) (hb : base ≤ w.heap.size) (hn : n ≤ 1000000) (cl wh nm : Int) (hcl : 0 ≤ cl ∧ cl ≤ 1) (hwh : 0 ≤ wh ∧ wh ≤ 1) (hnm : nm = 16 * cl + wh) (B V : List Int) (A : Option Addr) (p c : Nat) (hB : B.length = 16) (hV : Ia w A p c V) (hp : p ≤ 100000)
    (hA : 0 < p → ∀ b off, A = some ⟨b, off, none⟩ → b < base) :
    Calls Tryd.prog 24 #[v, .int .i64 cl, .int .i64 wh, specV B (.slice A p c)] w fun e w' => ∃ v', e = .returned v' ∧ Grow w w' v v' base (n + 1 + 16 + p) (l ++ specB nm B V) := by
  obtain ⟨A0, k0, rfl⟩ := own_slice hv
  have hsh : IntKind.i64.wrap (cl * 16) = cl * 16 := wrapI (by omega) (by omega)
  have hor : bits .or .i64 (cl * 16) wh = nm := by
    rcases (show cl = 0 ∨ cl = 1 by omega) with rfl | rfl <;> rcases (show wh = 0 ∨ wh = 1 by omega) with rfl | rfl <;> (subst hnm; decide)
  have n0 : 0 ≤ nm := by omega
  have n1 : nm ≤ 255 := by omega
  obtain ⟨C, hC⟩ : ∃ C, C = specC B (.slice A p c) := ⟨_, rfl⟩
  have eV : specV B (.slice A p c) = .agg C := by rw [hC]; rfl
  rw [eV]
  obtain ⟨gs, hgs⟩ : ∃ gs, gs = w.heap.size := ⟨_, rfl⟩
  obtain ⟨w1, hw1⟩ : ∃ w1, w.alloc (.cells C 28) = w1 := ⟨_, rfl⟩
  have b1 : Box w1 gs 28 (specC B (.slice A p c)) := by rw [hgs, ← hw1, hC]; exact Box.made _ _ _
  have k1 : Below w.heap.size w w1 := by rw [← hw1]; exact on_alloc _ _
  have own1 := own_kept hv (Kept.of_below k1 (fun _ => False)) (fun _ _ e => e)
  obtain ⟨w2, hw2⟩ : ∃ w2, w1.alloc (.cells #[.int .u8 nm] 5) = w2 := ⟨_, rfl⟩
  have sl2 : Sl w2 (fun _ => True) (some ⟨w1.heap.size, 0, none⟩) 1 1 [nm] := by rw [← hw2]; exact sl_byte w1 nm n0 n1
  have k2 : Below w1.heap.size w1 w2 := by rw [← hw2]; exact on_alloc _ _
  have wi : IntKind.u8.wrap nm = nm := by rw [wrap8]; omega
  have HW := Lib.hid (And.intro hw1 (And.intro hw2 (And.intro (on_trans k1 k2) (And.intro (b1.on k2) (And.intro (hV.on (on_trans k1 k2)) (And.intro (own_kept own1 (Kept.of_below k2 (fun _ => False)) (fun _ _ e => e)) (And.intro sl2 (And.intro hb (And.intro hgs (And.intro hB hV.len))))))))))
  have hsz1 : w1.heap.size = gs + 1 := by rw [← hw1, hgs]; simp
  have Hsz1 := Lib.hid hsz1
  have HA := Lib.hid hA
  clear eV hC hw1 hw2 b1 k1 k2 own1 sl2 hb hv hsz1 hgs hV hB hnm hcl hwh hA
  go_enter Tryd.func24, Tryd.ntmps24
  go_upto_region 2 with (first
    | ((with_reducible refine wpList_append_z (o := ⟨some 20, _, _, _, _, _⟩) rfl (.tmp 13) (.tmp 19) rfl base (.slice A0 n k0) n l rfl ?hown (fun _ => True) (some ⟨gs + 1, 0, none⟩) 1 1 [nm] ?hx ?hr ?hs ?hb ?_)
       case hown => rw [HW.out.1, HW.out.2.1]; exact HW.out.2.2.2.2.2.1
       case hx => rw [HW.out.2.2.2.2.2.2.2.2.1]; rfl
       case hr => rw [HW.out.1, HW.out.2.1, ← Hsz1.out]; exact HW.out.2.2.2.2.2.2.1
       case hs => omega
       case hb => rw [HW.out.1, HW.out.2.1]; exact Nat.le_trans HW.out.2.2.2.2.2.2.2.1 HW.out.2.2.1.size
       intro v3 w3 hg3
       rw [HW.out.1, HW.out.2.1] at hg3
       obtain ⟨A3, c3, hv3⟩ := hg3.val
       subst hv3
       have H3 := Lib.hid hg3
       clear hg3)
    | fail)
  have bel23 : Below base _ w3 := H3.out.lo HW.out.2.2.2.2.2.1 (Nat.le_trans HW.out.2.2.2.2.2.2.2.1 HW.out.2.2.1.size)
  have ia3 : Ia w3 A p c V := HW.out.2.2.2.2.1.kept (S := fun i => base ≤ i) ⟨bel23.os, bel23.tape, bel23.output, bel23.size, fun i hi hn => bel23.block i (Nat.lt_of_not_le hn)⟩ (fun h0 b off e hs => by have := HA.out h0 b off e; omega)
  have bx3 : Box w3 gs 28 (specC B (.slice A p c)) := H3.out.box HW.out.2.2.2.2.2.1 HW.out.2.2.2.1 (by decide)
  obtain ⟨Vb, hVb⟩ : ∃ V, V = Value.agg (cellsI B).toArray := ⟨_, rfl⟩
  have hld := load_bits bx3 HW.out.2.2.2.2.2.2.2.2.2.1
  rw [← hVb] at hld
  have HLd := Lib.hid hld
  have HVb := Lib.hid hVb
  have H4 := Lib.hid (And.intro (H3.out.pre HW.out.2.2.1) (And.intro bx3 ia3))
  rw [← HW.out.2.2.2.2.2.2.2.2.1]
  clear bel23 bx3 ia3 hld hVb wi hsh hor n0 n1
  go_wp2_with (first
    | (with_reducible refine wpList_load_to (op := ⟨some 22, _, _, _, _, _⟩) rfl 25 (.tmp 21) rfl (.pointer (some ⟨gs, 0, none⟩)) rfl Vb HLd.out ?_)
    | fail)
  go_loopw [0, 23] (fun u i' wr => ∃ k m A' c', k ≤ 16 ∧ m = n + 1 + k ∧ u = .slice A' m c' ∧ i' = .int .i64 ((k : Nat) : Int) ∧ Grow w wr (.slice A0 n k0) (.slice A' m c') base m (l ++ spK nm B V k 0) ∧ Box wr gs 28 (specC B (.slice A p c)) ∧ Ia wr A p c V) (fun _ i' _ => 16 - (intOf i').toNat)
  case atStart => exact ⟨0, n + 1, _, _, by omega, rfl, rfl, rfl, by have h := H4.out.1; simpa [spK] using h, H4.out.2.1, H4.out.2.2⟩
  case round =>
    obtain ⟨k, m, A2, c2, hk, hm1, rfl, rfl, hR⟩ := hrel
    have HR := Lib.hid hR
    have Hm1 := Lib.hid hm1
    clear hR
    by_cases hk16 : k < 16
    · have hidx : ∀ w, (Instr.index 25 Vb (.int .i64 (k : Int))).run Tryd.prog w = .ok (.int .i64 (B.getD k 0)) w := fun w => by rw [HVb.out]; exact index_bits w HW.out.2.2.2.2.2.2.2.2.2.1 hk16
      have hm := spK_b nm B V (k := k) (by rw [HW.out.2.2.2.2.2.2.2.2.2.1]; exact hk16)
      obtain ⟨z, hz⟩ : ∃ z, z = B.getD k 0 := ⟨_, rfl⟩
      rw [← hz] at hidx hm
      have wz : IntKind.u8.wrap z = z % 256 := wrap8 z
      have MR := Lib.hid (own_kept HR.out.1.own (Kept.of_below (on_alloc wr (.cells #[.int .u8 (z % 256)] 5)) (fun _ => False)) (fun _ _ e => e))
      have SB := Lib.hid (sl_byte wr (z % 256) (by omega) (by omega))
      have HBs := Lib.hid (show base ≤ (wr.alloc (.cells #[.int .u8 (z % 256)] 5)).heap.size by have := HW.out.2.2.2.2.2.2.2.1; have := HR.out.1.kep.size; simp; omega)
      have HX := Lib.hid hm
      have hm63 : m + 1 ≤ 140737488351232 := by omega
      clear hm hz hm1
      go_wp2_with (first
        | ((with_reducible refine wpList_append_z (o := ⟨some 30, _, _, _, _, _⟩) rfl (.tmp 26) (.tmp 29) rfl base (.slice A2 m c2) m (l ++ spK nm B V k 0) rfl MR.out (fun _ => True) (some ⟨wr.heap.size, 0, none⟩) 1 1 [z % 256] rfl SB.out ?hs ?hb ?_)
           case hs => exact hm63
           case hb => exact HBs.out
           intro v7 w7 hg7
           obtain ⟨A7, c7, hv7⟩ := hg7.val
           subst hv7
           have H7 := Lib.hid hg7
           clear hg7)
        | fail)
      have hE := (HR.out.1.on (on_alloc wr (.cells #[.int .u8 (z % 256)] 5))).trans H7.out
      rw [List.append_assoc, HX.out] at hE
      have hbk : Box w7 gs 28 (specC B (.slice A p c)) := H7.out.box MR.out (HR.out.2.1.alloc _) (by decide)
      have bel7 : Below base _ w7 := H7.out.lo MR.out HBs.out
      have hia : Ia w7 A p c V := (HR.out.2.2.alloc _).kept (S := fun i => base ≤ i) ⟨bel7.os, bel7.tape, bel7.output, bel7.size, fun i hi hn => bel7.block i (Nat.lt_of_not_le hn)⟩ (fun h0 b off e hs => by have := HA.out h0 b off e; omega)
      have HE := Lib.hid (And.intro hE (And.intro hbk hia))
      clear hE hbk hia bel7
      go_roundw
      case rel => exact ⟨k + 1, m + 1, _, _, by omega, by have := Hm1.out; omega, rfl, by go_num, HE.out⟩
      case measure => simp [intOf]; omega
    · have ek : k = 16 := by omega
      have c16 : wr.cell? ⟨gs, 16, none⟩ = some (.slice A p c) := (HR.out.2.1.cell 16).trans (specC_last HW.out.2.2.2.2.2.2.2.2.2.1)
      have hE := HR.out
      rw [ek, show m = n + 1 + 16 by omega] at hE
      have HE := Lib.hid hE
      have hm17 : m = n + 1 + 16 := by omega
      subst hm17
      clear hE ek hm1 Hm1
      go_wp2_with fail
      go_loopw [0, 35] (fun u i' wr => ∃ j m A' c', j ≤ p ∧ m = n + 1 + 16 + j ∧ u = .slice A' m c' ∧ i' = .int .i64 ((j : Nat) : Int) ∧ Grow w wr (.slice A0 n k0) (.slice A' m c') base m (l ++ spK nm B V 16 j) ∧ Box wr gs 28 (specC B (.slice A p c)) ∧ Ia wr A p c V) (fun _ i' _ => p - (intOf i').toNat)
      case atStart => exact ⟨0, n + 1 + 16, _, _, by omega, rfl, rfl, rfl, HE.out⟩
      case round =>
        obtain ⟨j, m, A2, c2, hj, hm1, rfl, rfl, hR⟩ := hrel
        have HR := Lib.hid hR
        have Hm1 := Lib.hid hm1
        clear hR
        by_cases hjp : j < p
        · obtain ⟨b, off, hAe, hbl, hc⟩ := HR.out.2.2.at_ (by omega)
          have hAb := HA.out (by omega) b off hAe
          subst hAe
          have c1 := hc j hjp
          have hm := spK_v nm B V 16 (j := j) (by rw [HW.out.2.2.2.2.2.2.2.2.2.2]; exact hjp)
          obtain ⟨z, hz⟩ : ∃ z, z = V.getD j 0 := ⟨_, rfl⟩
          rw [← hz] at c1 hm
          have wz : IntKind.u8.wrap z = z % 256 := wrap8 z
          have MR := Lib.hid (own_kept HR.out.1.own (Kept.of_below (on_alloc wr (.cells #[.int .u8 (z % 256)] 5)) (fun _ => False)) (fun _ _ e => e))
          have SB := Lib.hid (sl_byte wr (z % 256) (by omega) (by omega))
          have HBs := Lib.hid (show base ≤ (wr.alloc (.cells #[.int .u8 (z % 256)] 5)).heap.size by have := HW.out.2.2.2.2.2.2.2.1; have := HR.out.1.kep.size; simp; omega)
          have HX := Lib.hid hm
          have hm63 : m + 1 ≤ 140737488351232 := by omega
          have hjp' : (j : Int) < (p : Int) := by omega
          clear hm hz hm1 hc hbl
          go_wp2_with (first
            | ((with_reducible refine wpList_append_z (o := ⟨some 43, _, _, _, _, _⟩) rfl (.tmp 39) (.tmp 42) rfl base (.slice A2 m c2) m (l ++ spK nm B V 16 j) rfl MR.out (fun _ => True) (some ⟨wr.heap.size, 0, none⟩) 1 1 [z % 256] rfl SB.out ?hs ?hb ?_)
               case hs => exact hm63
               case hb => exact HBs.out
               intro v7 w7 hg7
               obtain ⟨A7, c7, hv7⟩ := hg7.val
               subst hv7
               have H7 := Lib.hid hg7
               clear hg7)
            | fail)
          have hE := (HR.out.1.on (on_alloc wr (.cells #[.int .u8 (z % 256)] 5))).trans H7.out
          rw [List.append_assoc, HX.out] at hE
          have hbk : Box w7 gs 28 (specC B (.slice (some ⟨b, off, none⟩) p c)) := H7.out.box MR.out (HR.out.2.1.alloc _) (by decide)
          have bel7 : Below base _ w7 := H7.out.lo MR.out HBs.out
          have hia : Ia w7 (some ⟨b, off, none⟩) p c V := (HR.out.2.2.alloc _).kept (S := fun i => base ≤ i) ⟨bel7.os, bel7.tape, bel7.output, bel7.size, fun i hi hn => bel7.block i (Nat.lt_of_not_le hn)⟩ (fun h0 b off e hs => by have := HA.out h0 b off e; omega)
          have HE := Lib.hid (And.intro hE (And.intro hbk hia))
          clear hE hbk hia bel7
          go_roundw
          case rel => exact ⟨j + 1, m + 1, _, _, by omega, by have := Hm1.out; omega, rfl, by go_num, HE.out⟩
          case measure => simp [intOf]; omega
        · obtain rfl : j = p := by omega
          subst hm1
          have hE := HR.out.1
          have e0 := spK_all nm (B := B) (V := V)
          rw [HW.out.2.2.2.2.2.2.2.2.2.1, HW.out.2.2.2.2.2.2.2.2.2.2] at e0
          rw [e0] at hE
          have HE := Lib.hid hE
          clear hE e0
          go_wp2_with fail
          go_ret
          exact ⟨_, rfl, HE.out⟩
end Go.Proofs.YtgipngedmblnmaaDoor

namespace Go.Proofs.YtgipngedmblnmaaDoor
open Go.RowKit

/-- two rows lie in two blocks -/
def Apart (v v' : Value) : Prop := ∀ i, v.ownBlock = some i → v'.ownBlock ≠ some i
theorem Apart.symm {v v' : Value} (h : Apart v v') : Apart v' v := fun i hi e => h i e hi
theorem Grow.pair {w w' : World} {v v' u : Value} {base n m : Nat} {l lu : List Int} (h : Grow w w' v v' base n l) (hu : w.ownsRow base 5 1 u m (cellsOf lu)) (ha : Apart v u) : w'.ownsRow base 5 1 u m (cellsOf lu) ∧ Apart v' u := by
  refine ⟨own_kept hu h.kep (fun i hi e => ha i e hi), fun i hi e => ?_⟩
  rcases h.whr with e1 | e1
  · rw [e1] at hi
    exact ha i hi e
  · have h1 := e1 i hi
    obtain ⟨_, cs, hh⟩ := own_block3 hu e
    have := (Array.getElem?_eq_some_iff.1 hh).1
    omega
theorem own_on {w w' : World} {base n : Nat} {v : Value} {l : List Int} (h : w.ownsRow base 5 1 v n (cellsOf l)) (k : Below w.heap.size w w') : w'.ownsRow base 5 1 v n (cellsOf l) := own_kept h (Kept.of_below k (fun _ => False)) (fun _ _ e => e)
open Classical in
/-- what Tables tells -/
noncomputable def tablesF (T : Tb) (n : Nat) : List Int × Int := if OkT T n then (tablesB T n, 0) else ([], 1)
/-- how things stand while tables are written -/
structure Tst (w wr : World) (T : Tb) (X : Nat → Value) (gt k : Nat) (vq vh : Value) (nq nh : Nat) : Prop where
  q : wr.ownsRow w.heap.size 5 1 vq nq (cellsOf (qB T k))
  h : wr.ownsRow w.heap.size 5 1 vh nh (cellsOf (hB T k))
  ap : Apart vq vh
  box : Box wr gt 31 (tbC T X).toArray
  bel : Below w.heap.size w wr
  ok : OkT T k
  bq : nq ≤ 65 * k
  bh : nh ≤ 20000 * k
theorem Tst.on {w wr w' : World} {T : Tb} {X : Nat → Value} {gt k : Nat} {vq vh : Value} {nq nh : Nat} (h : Tst w wr T X gt k vq vh nq nh) (b : Below wr.heap.size wr w') : Tst w w' T X gt k vq vh nq nh :=
  ⟨own_on h.q b, own_on h.h b, h.ap, h.box.on b, on_trans h.bel b, h.ok, h.bq, h.bh⟩
theorem byteB_fit (z : Int) : 0 ≤ z % 256 ∧ z % 256 ≤ 255 := by omega
theorem stepsB_fit {i : Int} (s : List Int) (h0 : 0 ≤ i) (h1 : i ≤ 255) : Fit (stepsB i s) := stK_fit s 64 h0 h1
theorem specB_fit {i : Int} (B V : List Int) (h0 : 0 ≤ i) (h1 : i ≤ 255) : Fit (specB i B V) := by
  rw [← spK_all]
  exact spK_fit B V _ _ h0 h1
theorem qB_fit (T : Tb) : ∀ k, k ≤ 2 → Fit (qB T k)
  | 0, _ => fun z hz => by simp [qB] at hz
  | k + 1, h => by rw [qB_more]; exact fit_app (qB_fit T k (by omega)) (stepsB_fit _ (by omega) (by omega))
theorem hB_fit (T : Tb) : ∀ k, k ≤ 2 → Fit (hB T k)
  | 0, _ => fun z hz => by simp [hB] at hz
  | k + 1, h => by rw [hB_more]; exact fit_app (hB_fit T k (by omega)) (fit_app (specB_fit _ _ (by omega) (by omega)) (specB_fit _ _ (by omega) (by omega)))
theorem OkT.more {T : Tb} {k : Nat} (h : OkT T k) (h1 : StepOk (T.t k)) (h2 : Valid (T.B k) (T.V k)) (h3 : Valid (T.B (2 + k)) (T.V (2 + k))) : OkT T (k + 1) := fun i hi => by
  by_cases e : i = k
  · subst e; exact ⟨h1, h2, h3⟩
  · exact h i (by omega)
theorem tablesF_no {T : Tb} {n : Nat} (h : ¬ OkT T n) : tablesF T n = ([], 1) := if_neg h
theorem tablesF_yes {T : Tb} {n : Nat} (h : OkT T n) : tablesF T n = (tablesB T n, 0) := if_pos h

set_option maxRecDepth 10000 in
set_option maxHeartbeats 6400000 in
theorem tables_any (w : World) (T : Tb) (X : Nat → Value) (col : Bool) (hW : Wt T) (hX : ∀ j, j < 4 → ∃ A n c, X j = .slice A n c ∧ Ia w A n c (T.V j)) (hfew : ∀ j, j < 4 → (T.V j).length ≤ 5000) (hT : Tab w) :
    Calls Tryd.prog 11 #[tbV T X, .bool col] w (TellsY w (tablesF T (if col then 2 else 1)).1 (tablesF T (if col then 2 else 1)).2) := by
  obtain ⟨C, hC⟩ : ∃ C, C = (tbC T X).toArray := ⟨_, rfl⟩
  have eC : tbV T X = .agg C := by rw [hC]; rfl
  rw [eC]
  obtain ⟨nn, hnn⟩ : ∃ nn, nn = (if col then 2 else 1 : Nat) := ⟨_, rfl⟩
  rw [← hnn]
  have hnn2 : nn ≤ 2 := by rw [hnn]; split <;> omega
  obtain ⟨R, hR⟩ : ∃ R, R = tablesF T nn := ⟨_, rfl⟩
  rw [← hR]
  obtain ⟨gt, hgt⟩ : ∃ gt, gt = w.heap.size := ⟨_, rfl⟩
  obtain ⟨w1, hw1⟩ : ∃ x, w.alloc (.cells C 31) = x := ⟨_, rfl⟩
  have b1 : Box w1 gt 31 (tbC T X).toArray := by rw [hgt, ← hw1, hC]; exact Box.made _ _ _
  have k1 : Below w.heap.size w w1 := by rw [← hw1]; exact on_alloc _ _
  have H1 := Lib.hid (And.intro hw1 (And.intro hgt (show Tst w w1 T X gt 0 (.slice none 0 0) (.slice none 0 0) 0 0 from ⟨World.ownsRow_nil _ _ _ _, World.ownsRow_nil _ _ _ _, (fun i hi => by cases hi), b1, k1, (fun i hi => absurd hi (by omega)), by omega, by omega⟩)))
  have HT := Lib.hid (And.intro hW (And.intro hX (And.intro hfew (And.intro hT (And.intro hR hT.zero)))))
  clear eC hC hgt hw1 b1 k1 hW hX hfew hT hR
  go_enter Tryd.func11, Tryd.ntmps11
  have hc6 : (if col then (2 : Int) else 1) = (nn : Int) := by rw [hnn]; cases col <;> rfl
  rcases (show (col = true ∧ nn = 2) ∨ (col = false ∧ nn = 1) by rw [hnn]; cases col <;> simp) with ⟨rfl, rfl⟩ | ⟨rfl, rfl⟩
  · clear hnn hc6 hnn2
    go_wp2_with fail
    rw [H1.out.1, ← H1.out.2.1]
    go_loopw [7, 8, 13] (fun uq uh i wr => ∃ (k nq nh : Nat) (Aq Ah : Option Addr) (cq ch : Nat), k ≤ 2 ∧ uq = .slice Aq nq cq ∧ uh = .slice Ah nh ch ∧ i = .int .i64 ((k : Nat) : Int) ∧ Tst w wr T X gt k (.slice Aq nq cq) (.slice Ah nh ch) nq nh) (fun _ _ i _ => 2 - (intOf i).toNat)
    case atStart => exact ⟨0, 0, 0, none, none, 0, 0, by omega, rfl, rfl, rfl, H1.out.2.2⟩
    case round =>
      obtain ⟨k, nq, nh, Aq, Ah, cq, ch, hk, rfl, rfl, rfl, hS⟩ := hrel
      have HS := Lib.hid hS
      clear hS
      by_cases hkn : k < 2
      · have hst := HT.out.1.st k (by omega)
        have hsb1 := HT.out.1.sb k (by omega)
        have hsb2 := HT.out.1.sb (2 + k) (by omega)
        obtain ⟨A1, n1, c1, ex1, ia1⟩ := HT.out.2.1 k (by omega)
        obtain ⟨A2, n2, c2, ex2, ia2⟩ := HT.out.2.1 (2 + k) (by omega)
        have hf1 := HT.out.2.2.1 k (by omega)
        have hf2 := HT.out.2.2.1 (2 + k) (by omega)
        rw [ia1.len] at hf1
        rw [ia2.len] at hf2
        obtain ⟨Vt, hVt⟩ : ∃ V, V = blkV (T.t k) := ⟨_, rfl⟩
        obtain ⟨V1, hV1⟩ : ∃ V, V = specV (T.B k) (.slice A1 n1 c1) := ⟨_, rfl⟩
        obtain ⟨V2, hV2⟩ : ∃ V, V = specV (T.B (2 + k)) (.slice A2 n2 c2) := ⟨_, rfl⟩
        have HF := Lib.hid (And.intro (And.intro hst (And.intro hsb1 hsb2)) (And.intro (And.intro ia1 ia2) (And.intro (And.intro hf1 hf2) (And.intro (And.intro ex1 ex2) (And.intro hVt (And.intro hV1 hV2))))))
        have hkn' : (k : Int) < 2 := by omega
        have hk2 : (k : Int) < 2 := by omega
        have q1 : 128 + k * 17 = 128 + 17 * k := by omega
        have q2 : 162 + k * 17 = 128 + 17 * (2 + k) := by omega
        have q3 : k * 64 = 64 * k := by omega
        have HL1 := Lib.hid (fun (w' : World) (h : Tst w w' T X gt k (.slice Aq nq cq) (.slice Ah nh ch) nq nh) => (show (Instr.loadAt 23 (.pointer (some ⟨gt, 64 * k, none⟩))).run Tryd.prog w' = .ok Vt w' by rw [HF.out.2.2.2.2.1]; exact (h.box.tb).loadT HT.out.1 (by omega)))
        have HL2 := Lib.hid (fun (w' : World) (h : Tst w w' T X gt k (.slice Aq nq cq) (.slice Ah nh ch) nq nh) => (show (Instr.loadAt 28 (.pointer (some ⟨gt, 128 + 17 * k, none⟩))).run Tryd.prog w' = .ok V1 w' by rw [HF.out.2.2.2.2.2.1, ← HF.out.2.2.2.1.1]; exact (h.box.tb).loadS HT.out.1 (by omega)))
        have HL3 := Lib.hid (fun (w' : World) (h : Tst w w' T X gt k (.slice Aq nq cq) (.slice Ah nh ch) nq nh) => (show (Instr.loadAt 28 (.pointer (some ⟨gt, 128 + 17 * (2 + k), none⟩))).run Tryd.prog w' = .ok V2 w' by rw [HF.out.2.2.2.2.2.2, ← HF.out.2.2.2.1.2]; exact (h.box.tb).loadS HT.out.1 (by omega)))
        have hr1 := qright_any wr (T.t k) hst
        rw [← hVt] at hr1
        have HR1 := Lib.hid hr1
        clear hst hsb1 hsb2 ex1 ex2 ia1 ia2 hf1 hf2 hVt hV1 hV2 hr1
        go_wp2_with (first
          | (with_reducible refine wpList_load_to (op := ⟨some 19, _, _, _, _, _⟩) rfl 23 (.tmp 18) rfl (.pointer (some ⟨gt, 64 * k, none⟩)) rfl Vt (HL1.out _ HS.out) ?_)
          | fail)
        refine Calls.mono HR1.out ?_
        rintro e w2 ⟨rfl, b2⟩
        have S2 := Lib.hid (HS.out.on b2)
        clear b2 HR1
        by_cases hok : ¬ Wi (T.t k) 1 255
        · rw [decide_eq_false hok]
          have HRn := Lib.hid (show R = ([], 1) by rw [HT.out.2.2.2.2.1]; exact tablesF_no (fun h => hok (h k hkn).1))
          go_wp2_with fail
          go_ret2
          rw [HRn.out]
          exact ⟨none, 0, rfl, sl_nil _ _, S2.out.bel⟩
        have hok' : Wi (T.t k) 1 255 := by simpa using hok
        rw [decide_eq_true hok']
        have Hok := Lib.hid hok'
        clear hok hok'
        go_wp2_with (first
          | (refine wpList_load_when (op := ⟨some 26, _, _, _, _, _⟩) (by rfl) 28 (.tmp 25) rfl (.pointer (some ⟨gt, 128 + 17 * k, none⟩)) rfl V1 (HL2.out _ S2.out) ?_)
          | fail)
        have hr2 := hright_any w2 (T.B k) (T.V k) A1 n1 c1 HF.out.1.2.1 (HF.out.2.1.1.on S2.out.bel) HF.out.2.2.1.1
        rw [← HF.out.2.2.2.2.2.1] at hr2
        refine Calls.mono hr2 ?_
        rintro e w3 ⟨vb, rfl, hv, b3⟩
        have S3 := Lib.hid (S2.out.on b3)
        have Hv := Lib.hid hv
        clear b3 hr2 hv
        cases vb with
        | false =>
          have HRn := Lib.hid (show R = ([], 1) by rw [HT.out.2.2.2.2.1]; exact tablesF_no (fun h => by have := Hv.out.2 (h k hkn).2.1; cases this))
          go_wp2_with fail
          go_ret2
          rw [HRn.out]
          exact ⟨none, 0, rfl, sl_nil _ _, S3.out.bel⟩
        | true =>
        go_wp2_with (first
          | (refine wpList_load_when (op := ⟨some 34, _, _, _, _, _⟩) (by rfl) 28 (.tmp 33) rfl (.pointer (some ⟨gt, 128 + 17 * (2 + k), none⟩)) rfl V2 (HL3.out _ S3.out) ?_)
          | fail)
        have hr3 := hright_any w3 (T.B (2 + k)) (T.V (2 + k)) A2 n2 c2 HF.out.1.2.2 (HF.out.2.1.2.on S3.out.bel) HF.out.2.2.1.2
        rw [← HF.out.2.2.2.2.2.2] at hr3
        refine Calls.mono hr3 ?_
        rintro e w4 ⟨vb, rfl, hv, b4⟩
        have S4 := Lib.hid (S3.out.on b4)
        have Hv2 := Lib.hid hv
        clear b4 hr3 hv
        cases vb with
        | false =>
          have HRn := Lib.hid (show R = ([], 1) by rw [HT.out.2.2.2.2.1]; exact tablesF_no (fun h => by have := Hv2.out.2 (h k hkn).2.2; cases this))
          go_wp2_with fail
          go_ret2
          rw [HRn.out]
          exact ⟨none, 0, rfl, sl_nil _ _, S4.out.bel⟩
        | true =>
        have hz := HT.out.2.2.2.2.2
        have hbs : w.heap.size ≤ w4.heap.size := S4.out.bel.size
        have had := addSteps_any w4 w.heap.size (.slice Aq nq cq) nq (qB T k) S4.out.q hbs hz (by have := S4.out.bq; omega) (k : Int) (T.t k) (by omega) (by omega) HF.out.1.1 (HT.out.2.2.2.1.bel S4.out.bel hz)
        rw [← HF.out.2.2.2.2.1] at had
        have HAd := Lib.hid had
        clear had
        go_wp2_with (first
          | (with_reducible refine wpList_load_to (op := ⟨some 43, _, _, _, _, _⟩) rfl 23 (.tmp 42) rfl (.pointer (some ⟨gt, 64 * k, none⟩)) rfl Vt (HL1.out _ S4.out) ?_)
          | fail)
        refine Calls.mono HAd.out ?_
        rintro e w5 ⟨v5, rfl, g5⟩
        obtain ⟨h5, a5⟩ := g5.pair S4.out.h S4.out.ap
        obtain ⟨A5, c5, rfl⟩ := g5.val
        have bel5 : Below w.heap.size w w5 := S4.out.bel.trans (g5.lo S4.out.q hbs)
        have box5 := g5.box S4.out.q S4.out.box (by decide)
        have own5 := g5.own
        rw [← qB_more] at own5
        have H5 := Lib.hid (And.intro own5 (And.intro h5 (And.intro a5 (And.intro bel5 box5))))
        have hA1 : 0 < n1 → ∀ b off, A1 = some ⟨b, off, none⟩ → b < w.heap.size := fun h0 b off e => by
          obtain ⟨b', off', e', hb, _⟩ := HF.out.2.1.1.at_ h0
          rw [e] at e'
          cases e'
          exact hb
        have hA2 : 0 < n2 → ∀ b off, A2 = some ⟨b, off, none⟩ → b < w.heap.size := fun h0 b off e => by
          obtain ⟨b', off', e', hb, _⟩ := HF.out.2.1.2.at_ h0
          rw [e] at e'
          cases e'
          exact hb
        have HAA := Lib.hid (And.intro hA1 hA2)
        have hat := addTable_any w5 w.heap.size (.slice Ah nh ch) nh (hB T k) h5 bel5.size (by have := S4.out.bh; omega) 0 (k : Int) (k : Int) ⟨by omega, by omega⟩ ⟨by omega, by omega⟩ (by omega) (T.B k) (T.V k) A1 n1 c1 HF.out.1.2.1 (HF.out.2.1.1.on bel5) (by have := HF.out.2.2.1.1; omega) hA1
        rw [← HF.out.2.2.2.2.2.1] at hat
        have HAt := Lib.hid hat
        have hld5 : (Instr.loadAt 28 (.pointer (some ⟨gt, 128 + 17 * k, none⟩))).run Tryd.prog w5 = .ok V1 w5 := by rw [HF.out.2.2.2.2.2.1, ← HF.out.2.2.2.1.1]; exact (box5.tb).loadS HT.out.1 (by omega)
        have HLd5 := Lib.hid hld5
        clear hA1 hA2 hat hld5 own5 h5 a5 bel5 box5 g5 HAd
        go_wp2_with (first
          | (with_reducible refine wpList_load_to (op := ⟨some 50, _, _, _, _, _⟩) rfl 28 (.tmp 49) rfl (.pointer (some ⟨gt, 128 + 17 * k, none⟩)) rfl V1 HLd5.out ?_)
          | fail)
        refine Calls.mono HAt.out ?_
        rintro e w6 ⟨v6, rfl, g6⟩
        obtain ⟨q6, a6⟩ := g6.pair H5.out.1 H5.out.2.2.1.symm
        obtain ⟨A6, c6, rfl⟩ := g6.val
        have bel6 : Below w.heap.size w w6 := H5.out.2.2.2.1.trans (g6.lo H5.out.2.1 H5.out.2.2.2.1.size)
        have box6 := g6.box H5.out.2.1 H5.out.2.2.2.2 (by decide)
        have H6 := Lib.hid (And.intro q6 (And.intro g6.own (And.intro a6 (And.intro bel6 box6))))
        have hat := addTable_any w6 w.heap.size (.slice A6 (nh + 1 + 16 + n1) c6) (nh + 1 + 16 + n1) _ g6.own bel6.size (by have := S4.out.bh; have := HF.out.2.2.1.1; omega) 1 (k : Int) (16 + (k : Int)) ⟨by omega, by omega⟩ ⟨by omega, by omega⟩ (by omega) (T.B (2 + k)) (T.V (2 + k)) A2 n2 c2 HF.out.1.2.2 (HF.out.2.1.2.on bel6) (by have := HF.out.2.2.1.2; omega) HAA.out.2
        rw [← HF.out.2.2.2.2.2.2] at hat
        have HAt2 := Lib.hid hat
        have hld6 : (Instr.loadAt 28 (.pointer (some ⟨gt, 128 + 17 * (2 + k), none⟩))).run Tryd.prog w6 = .ok V2 w6 := by rw [HF.out.2.2.2.2.2.2, ← HF.out.2.2.2.1.2]; exact (box6.tb).loadS HT.out.1 (by omega)
        have HLd6 := Lib.hid hld6
        clear hat hld6 q6 a6 bel6 box6 g6 HAt
        go_wp2_with (first
          | (with_reducible refine wpList_load_to (op := ⟨some 57, _, _, _, _, _⟩) rfl 28 (.tmp 56) rfl (.pointer (some ⟨gt, 128 + 17 * (2 + k), none⟩)) rfl V2 HLd6.out ?_)
          | fail)
        refine Calls.mono HAt2.out ?_
        rintro e w7 ⟨v7, rfl, g7⟩
        obtain ⟨q7, a7⟩ := g7.pair H6.out.1 H6.out.2.2.1
        obtain ⟨A7, c7, rfl⟩ := g7.val
        have own7 := g7.own
        rw [List.append_assoc, ← hB_more] at own7
        have H7 := Lib.hid (show Tst w w7 T X gt (k + 1) (.slice A5 (nq + 65) c5) (.slice A7 (nh + 1 + 16 + n1 + 1 + 16 + n2) c7) (nq + 65) (nh + 1 + 16 + n1 + 1 + 16 + n2) from
          ⟨q7, own7, a7.symm, g7.box H6.out.2.1 H6.out.2.2.2.2 (by decide), H6.out.2.2.2.1.trans (g7.lo H6.out.2.1 H6.out.2.2.2.1.size), S4.out.ok.more Hok.out (Hv.out.1 (by simp)) (Hv2.out.1 (by simp)), by have := S4.out.bq; omega, by have := S4.out.bh; have := HF.out.2.2.1; omega⟩)
        clear g7 q7 a7 own7 HAt2 hz hbs
        go_wp2_with fail
        go_roundw
        case rel => exact ⟨k + 1, _, _, _, _, _, _, by omega, rfl, rfl, by go_num, H7.out⟩
        case measure => simp [intOf]; omega
      · have ek : k = 2 := by omega
        have hS := HS.out
        rw [ek] at hS
        have HE := Lib.hid hS
        have hRn : R = (tablesB T 2, 0) := by rw [HT.out.2.2.2.2.1]; exact tablesF_yes hS.ok
        have HRn := Lib.hid hRn
        have hnq := own_len hS.q
        have hnh := own_len hS.h
        obtain ⟨Aq', cq', eq', sq⟩ := sl_of_own' hS.q (qB_fit T 2 (by omega))
        obtain ⟨Ah', ch', eh', sh⟩ := sl_of_own' hS.h (hB_fit T 2 (by omega))
        cases eq'
        cases eh'
        obtain ⟨gl, hgl⟩ : ∃ gl, gl = wr.heap.size := ⟨_, rfl⟩
        obtain ⟨w2, hw2⟩ : ∃ x, wr.alloc (.cells #[.int .u8 255, .int .u8 216] 5) = x := ⟨_, rfl⟩
        have bl : Box w2 gl 5 (cellsOf [255, 216]).toArray := by rw [hgl, ← hw2]; exact Box.made _ _ _
        have k2 : Below wr.heap.size wr w2 := by rw [← hw2]; exact on_alloc _ _
        have hS2 := hS.on k2
        have ol : w2.ownsRow w.heap.size 5 1 (.slice (some ⟨gl, 0, none⟩) 2 2) 2 (cellsOf [255, 216]) := own_of_box bl rfl (by rw [hgl]; exact hS.bel.size) (by decide)
        have hq2 : nq ≤ 200 := by have := hS.bq; omega
        have hh2 : nh ≤ 50000 := by have := hS.bh; omega
        have ad1 := addSegment_any w2 w.heap.size (.slice (some ⟨gl, 0, none⟩) 2 2) 2 [255, 216] ol hS2.bel.size (by omega) 219 (by omega) (by omega) (by unfold Fit; decide) _ Aq nq cq (qB T 2) (sq.kept (Kept.of_below k2 (fun _ => False)) (fun _ _ e => e)) (by omega) (fun i hi e => by
          have h1 := (own_block3 hS.q hi)
          obtain ⟨_, cs, hh⟩ := h1
          have := (Array.getElem?_eq_some_iff.1 hh).1
          have h3 : gl = i := by injection e
          omega)
        have HA1 := Lib.hid ad1
        have H2 := Lib.hid (And.intro hw2 (And.intro hgl (And.intro hS2 (And.intro ol (And.intro (sh.kept (Kept.of_below k2 (fun _ => False)) (fun _ _ e => e)) (And.intro hnq hnh))))))
        clear ek hS hRn hnq hnh sq sh hgl hw2 bl k2 hS2 ol ad1
        go_wp2_with fail
        rw [H2.out.1, ← H2.out.2.1]
        refine Calls.mono HA1.out ?_
        rintro e w3 ⟨v3, rfl, g3, f3⟩
        obtain ⟨A3, c3, rfl⟩ := g3.val
        obtain ⟨m3, hm3⟩ : ∃ m, m = 2 + 2 + 2 + nq := ⟨_, rfl⟩
        rw [← hm3] at g3 f3 ⊢
        have Hm3 := Lib.hid hm3
        have bel3 : Below w.heap.size w w3 := H2.out.2.2.1.bel.trans (g3.lo H2.out.2.2.2.1 H2.out.2.2.1.bel.size)
        have hapl : ∀ i, (Value.slice (some ⟨gl, 0, none⟩) 2 2).ownBlock = some i → (Value.slice Ah nh ch).ownBlock ≠ some i := fun i hi e => by
          obtain ⟨_, cs, hh⟩ := own_block3 HE.out.h e
          have := (Array.getElem?_eq_some_iff.1 hh).1
          have h3 : gl = i := by injection hi
          have := H2.out.2.1
          omega
        have sh3 := (H2.out.2.2.2.2.1).kept g3.kep (fun b hb e => hapl b e hb)
        have hf3 : Fit ([255, 216] ++ segB 219 (qB T 2)) := fit_app (by unfold Fit; decide) (fit_seg (by omega) (by omega) (qB_fit T 2 (by omega)))
        have ad2 := addSegment_any w3 w.heap.size (.slice A3 m3 c3) m3 _ g3.own bel3.size (by omega) 196 (by omega) (by omega) hf3 _ Ah nh ch (hB T 2) sh3 (by omega) (fun i hi e => by
          have h1 := f3 i e
          obtain ⟨_, cs, hh⟩ := own_block3 H2.out.2.2.1.h hi
          have := (Array.getElem?_eq_some_iff.1 hh).1
          omega)
        have HA2 := Lib.hid ad2
        have H3 := Lib.hid (And.intro bel3 (And.intro g3.own hf3))
        clear hm3 HA1 g3 f3 bel3 hapl sh3 hf3 ad2
        go_wp2_with fail
        refine Calls.mono HA2.out ?_
        rintro e w4 ⟨v4, rfl, g4, f4⟩
        obtain ⟨A4, c4, rfl⟩ := g4.val
        obtain ⟨m4, hm4⟩ : ∃ m, m = m3 + 2 + 2 + nh := ⟨_, rfl⟩
        rw [← hm4] at g4 f4 ⊢
        have hm4b : m4 + 2 ≤ 140737488351232 := by have := Hm3.out; omega
        have Hm4 := Lib.hid hm4
        have bel4 : Below w.heap.size w w4 := H3.out.1.trans (g4.lo H3.out.2.1 H3.out.1.size)
        have hf4 := fit_app H3.out.2.2 (fit_seg (m := 196) (by omega) (by omega) (hB_fit T 2 (by omega)))
        obtain ⟨w5, hw5⟩ : ∃ x, w4.alloc (.cells #[.int .u8 255, .int .u8 217] 5) = x := ⟨_, rfl⟩
        have s5 : Sl w5 (fun b => b = w4.heap.size) (some ⟨w4.heap.size, 0, none⟩) 2 2 [255, 217] := by rw [← hw5]; exact sl_lit w4 [255, 217] (by unfold Fit; decide) (by decide)
        have k5 : Below w4.heap.size w4 w5 := by rw [← hw5]; exact on_alloc _ _
        have H5 := Lib.hid (And.intro hw5 (And.intro s5 (And.intro (bel4.trans (k5.mono bel4.size)) (And.intro (own_on g4.own k5) (And.intro hf4 (show w.heap.size ≤ w5.heap.size from Nat.le_trans bel4.size k5.size))))))
        clear hm4 HA2 g4 f4 bel4 hf4 hw5 s5 k5
        go_wp2_with (first
          | ((with_reducible refine wpList_append_z (o := ⟨some 69, _, _, _, _, _⟩) rfl (.tmp 67) (.tmp 68) rfl w.heap.size (.slice A4 m4 c4) m4 ([255, 216] ++ segB 219 (qB T 2) ++ segB 196 (hB T 2)) rfl ?hown (fun b => b = w4.heap.size) (some ⟨w4.heap.size, 0, none⟩) 2 2 [255, 217] rfl ?hr ?hs ?hb ?_)
             case hown => rw [H5.out.1]; exact H5.out.2.2.2.1
             case hr => rw [H5.out.1]; exact H5.out.2.1
             case hs => exact hm4b
             case hb => rw [H5.out.1]; exact H5.out.2.2.2.2.2
             intro v6 w6 hg6
             rw [H5.out.1] at hg6
             obtain ⟨A6, c6, hv6⟩ := hg6.val
             subst hv6
             have H6 := Lib.hid hg6
             clear hg6)
          | fail)
        go_ret2
        rw [HRn.out]
        obtain ⟨Af, cf, ef, sf⟩ := sl_of_own H6.out.own (fit_app H5.out.2.2.2.2.1 (by unfold Fit; decide))
        cases ef
        have el : ([255, 216] ++ segB 219 (qB T 2) ++ segB 196 (hB T 2) ++ [255, 217]).length = m4 + 2 := by
          rw [List.length_append, List.length_append, List.length_append, segB_len, segB_len, H2.out.2.2.2.2.2.1, H2.out.2.2.2.2.2.2]
          show 2 + (nq + 4) + (nh + 4) + 2 = _
          have := Hm3.out
          have := Hm4.out
          omega
        refine ⟨A6, c6, ?_, ?_, H5.out.2.2.1.trans (H6.out.lo H5.out.2.2.2.1 H5.out.2.2.2.2.2)⟩
        · show _ = Ending.returned (.tuple #[.slice A6 (tablesB T 2).length c6, .int .i64 0])
          rw [show (tablesB T 2).length = m4 + 2 from el]
          rfl
        · show Sl w6 _ A6 (tablesB T 2).length c6 (tablesB T 2)
          rw [show (tablesB T 2).length = m4 + 2 from el]
          exact sf
  · clear hnn hc6 hnn2
    go_wp2_with fail
    rw [H1.out.1, ← H1.out.2.1]
    go_loopw [7, 8, 13] (fun uq uh i wr => ∃ (k nq nh : Nat) (Aq Ah : Option Addr) (cq ch : Nat), k ≤ 1 ∧ uq = .slice Aq nq cq ∧ uh = .slice Ah nh ch ∧ i = .int .i64 ((k : Nat) : Int) ∧ Tst w wr T X gt k (.slice Aq nq cq) (.slice Ah nh ch) nq nh) (fun _ _ i _ => 1 - (intOf i).toNat)
    case atStart => exact ⟨0, 0, 0, none, none, 0, 0, by omega, rfl, rfl, rfl, H1.out.2.2⟩
    case round =>
      obtain ⟨k, nq, nh, Aq, Ah, cq, ch, hk, rfl, rfl, rfl, hS⟩ := hrel
      have HS := Lib.hid hS
      clear hS
      by_cases hkn : k < 1
      · have hst := HT.out.1.st k (by omega)
        have hsb1 := HT.out.1.sb k (by omega)
        have hsb2 := HT.out.1.sb (2 + k) (by omega)
        obtain ⟨A1, n1, c1, ex1, ia1⟩ := HT.out.2.1 k (by omega)
        obtain ⟨A2, n2, c2, ex2, ia2⟩ := HT.out.2.1 (2 + k) (by omega)
        have hf1 := HT.out.2.2.1 k (by omega)
        have hf2 := HT.out.2.2.1 (2 + k) (by omega)
        rw [ia1.len] at hf1
        rw [ia2.len] at hf2
        obtain ⟨Vt, hVt⟩ : ∃ V, V = blkV (T.t k) := ⟨_, rfl⟩
        obtain ⟨V1, hV1⟩ : ∃ V, V = specV (T.B k) (.slice A1 n1 c1) := ⟨_, rfl⟩
        obtain ⟨V2, hV2⟩ : ∃ V, V = specV (T.B (2 + k)) (.slice A2 n2 c2) := ⟨_, rfl⟩
        have HF := Lib.hid (And.intro (And.intro hst (And.intro hsb1 hsb2)) (And.intro (And.intro ia1 ia2) (And.intro (And.intro hf1 hf2) (And.intro (And.intro ex1 ex2) (And.intro hVt (And.intro hV1 hV2))))))
        have hkn' : (k : Int) < 1 := by omega
        have hk2 : (k : Int) < 2 := by omega
        have q1 : 128 + k * 17 = 128 + 17 * k := by omega
        have q2 : 162 + k * 17 = 128 + 17 * (2 + k) := by omega
        have q3 : k * 64 = 64 * k := by omega
        have HL1 := Lib.hid (fun (w' : World) (h : Tst w w' T X gt k (.slice Aq nq cq) (.slice Ah nh ch) nq nh) => (show (Instr.loadAt 23 (.pointer (some ⟨gt, 64 * k, none⟩))).run Tryd.prog w' = .ok Vt w' by rw [HF.out.2.2.2.2.1]; exact (h.box.tb).loadT HT.out.1 (by omega)))
        have HL2 := Lib.hid (fun (w' : World) (h : Tst w w' T X gt k (.slice Aq nq cq) (.slice Ah nh ch) nq nh) => (show (Instr.loadAt 28 (.pointer (some ⟨gt, 128 + 17 * k, none⟩))).run Tryd.prog w' = .ok V1 w' by rw [HF.out.2.2.2.2.2.1, ← HF.out.2.2.2.1.1]; exact (h.box.tb).loadS HT.out.1 (by omega)))
        have HL3 := Lib.hid (fun (w' : World) (h : Tst w w' T X gt k (.slice Aq nq cq) (.slice Ah nh ch) nq nh) => (show (Instr.loadAt 28 (.pointer (some ⟨gt, 128 + 17 * (2 + k), none⟩))).run Tryd.prog w' = .ok V2 w' by rw [HF.out.2.2.2.2.2.2, ← HF.out.2.2.2.1.2]; exact (h.box.tb).loadS HT.out.1 (by omega)))
        have hr1 := qright_any wr (T.t k) hst
        rw [← hVt] at hr1
        have HR1 := Lib.hid hr1
        clear hst hsb1 hsb2 ex1 ex2 ia1 ia2 hf1 hf2 hVt hV1 hV2 hr1
        go_wp2_with (first
          | (with_reducible refine wpList_load_to (op := ⟨some 19, _, _, _, _, _⟩) rfl 23 (.tmp 18) rfl (.pointer (some ⟨gt, 64 * k, none⟩)) rfl Vt (HL1.out _ HS.out) ?_)
          | fail)
        refine Calls.mono HR1.out ?_
        rintro e w2 ⟨rfl, b2⟩
        have S2 := Lib.hid (HS.out.on b2)
        clear b2 HR1
        by_cases hok : ¬ Wi (T.t k) 1 255
        · rw [decide_eq_false hok]
          have HRn := Lib.hid (show R = ([], 1) by rw [HT.out.2.2.2.2.1]; exact tablesF_no (fun h => hok (h k hkn).1))
          go_wp2_with fail
          go_ret2
          rw [HRn.out]
          exact ⟨none, 0, rfl, sl_nil _ _, S2.out.bel⟩
        have hok' : Wi (T.t k) 1 255 := by simpa using hok
        rw [decide_eq_true hok']
        have Hok := Lib.hid hok'
        clear hok hok'
        go_wp2_with (first
          | (refine wpList_load_when (op := ⟨some 26, _, _, _, _, _⟩) (by rfl) 28 (.tmp 25) rfl (.pointer (some ⟨gt, 128 + 17 * k, none⟩)) rfl V1 (HL2.out _ S2.out) ?_)
          | fail)
        have hr2 := hright_any w2 (T.B k) (T.V k) A1 n1 c1 HF.out.1.2.1 (HF.out.2.1.1.on S2.out.bel) HF.out.2.2.1.1
        rw [← HF.out.2.2.2.2.2.1] at hr2
        refine Calls.mono hr2 ?_
        rintro e w3 ⟨vb, rfl, hv, b3⟩
        have S3 := Lib.hid (S2.out.on b3)
        have Hv := Lib.hid hv
        clear b3 hr2 hv
        cases vb with
        | false =>
          have HRn := Lib.hid (show R = ([], 1) by rw [HT.out.2.2.2.2.1]; exact tablesF_no (fun h => by have := Hv.out.2 (h k hkn).2.1; cases this))
          go_wp2_with fail
          go_ret2
          rw [HRn.out]
          exact ⟨none, 0, rfl, sl_nil _ _, S3.out.bel⟩
        | true =>
        go_wp2_with (first
          | (refine wpList_load_when (op := ⟨some 34, _, _, _, _, _⟩) (by rfl) 28 (.tmp 33) rfl (.pointer (some ⟨gt, 128 + 17 * (2 + k), none⟩)) rfl V2 (HL3.out _ S3.out) ?_)
          | fail)
        have hr3 := hright_any w3 (T.B (2 + k)) (T.V (2 + k)) A2 n2 c2 HF.out.1.2.2 (HF.out.2.1.2.on S3.out.bel) HF.out.2.2.1.2
        rw [← HF.out.2.2.2.2.2.2] at hr3
        refine Calls.mono hr3 ?_
        rintro e w4 ⟨vb, rfl, hv, b4⟩
        have S4 := Lib.hid (S3.out.on b4)
        have Hv2 := Lib.hid hv
        clear b4 hr3 hv
        cases vb with
        | false =>
          have HRn := Lib.hid (show R = ([], 1) by rw [HT.out.2.2.2.2.1]; exact tablesF_no (fun h => by have := Hv2.out.2 (h k hkn).2.2; cases this))
          go_wp2_with fail
          go_ret2
          rw [HRn.out]
          exact ⟨none, 0, rfl, sl_nil _ _, S4.out.bel⟩
        | true =>
        have hz := HT.out.2.2.2.2.2
        have hbs : w.heap.size ≤ w4.heap.size := S4.out.bel.size
        have had := addSteps_any w4 w.heap.size (.slice Aq nq cq) nq (qB T k) S4.out.q hbs hz (by have := S4.out.bq; omega) (k : Int) (T.t k) (by omega) (by omega) HF.out.1.1 (HT.out.2.2.2.1.bel S4.out.bel hz)
        rw [← HF.out.2.2.2.2.1] at had
        have HAd := Lib.hid had
        clear had
        go_wp2_with (first
          | (with_reducible refine wpList_load_to (op := ⟨some 43, _, _, _, _, _⟩) rfl 23 (.tmp 42) rfl (.pointer (some ⟨gt, 64 * k, none⟩)) rfl Vt (HL1.out _ S4.out) ?_)
          | fail)
        refine Calls.mono HAd.out ?_
        rintro e w5 ⟨v5, rfl, g5⟩
        obtain ⟨h5, a5⟩ := g5.pair S4.out.h S4.out.ap
        obtain ⟨A5, c5, rfl⟩ := g5.val
        have bel5 : Below w.heap.size w w5 := S4.out.bel.trans (g5.lo S4.out.q hbs)
        have box5 := g5.box S4.out.q S4.out.box (by decide)
        have own5 := g5.own
        rw [← qB_more] at own5
        have H5 := Lib.hid (And.intro own5 (And.intro h5 (And.intro a5 (And.intro bel5 box5))))
        have hA1 : 0 < n1 → ∀ b off, A1 = some ⟨b, off, none⟩ → b < w.heap.size := fun h0 b off e => by
          obtain ⟨b', off', e', hb, _⟩ := HF.out.2.1.1.at_ h0
          rw [e] at e'
          cases e'
          exact hb
        have hA2 : 0 < n2 → ∀ b off, A2 = some ⟨b, off, none⟩ → b < w.heap.size := fun h0 b off e => by
          obtain ⟨b', off', e', hb, _⟩ := HF.out.2.1.2.at_ h0
          rw [e] at e'
          cases e'
          exact hb
        have HAA := Lib.hid (And.intro hA1 hA2)
        have hat := addTable_any w5 w.heap.size (.slice Ah nh ch) nh (hB T k) h5 bel5.size (by have := S4.out.bh; omega) 0 (k : Int) (k : Int) ⟨by omega, by omega⟩ ⟨by omega, by omega⟩ (by omega) (T.B k) (T.V k) A1 n1 c1 HF.out.1.2.1 (HF.out.2.1.1.on bel5) (by have := HF.out.2.2.1.1; omega) hA1
        rw [← HF.out.2.2.2.2.2.1] at hat
        have HAt := Lib.hid hat
        have hld5 : (Instr.loadAt 28 (.pointer (some ⟨gt, 128 + 17 * k, none⟩))).run Tryd.prog w5 = .ok V1 w5 := by rw [HF.out.2.2.2.2.2.1, ← HF.out.2.2.2.1.1]; exact (box5.tb).loadS HT.out.1 (by omega)
        have HLd5 := Lib.hid hld5
        clear hA1 hA2 hat hld5 own5 h5 a5 bel5 box5 g5 HAd
        go_wp2_with (first
          | (with_reducible refine wpList_load_to (op := ⟨some 50, _, _, _, _, _⟩) rfl 28 (.tmp 49) rfl (.pointer (some ⟨gt, 128 + 17 * k, none⟩)) rfl V1 HLd5.out ?_)
          | fail)
        refine Calls.mono HAt.out ?_
        rintro e w6 ⟨v6, rfl, g6⟩
        obtain ⟨q6, a6⟩ := g6.pair H5.out.1 H5.out.2.2.1.symm
        obtain ⟨A6, c6, rfl⟩ := g6.val
        have bel6 : Below w.heap.size w w6 := H5.out.2.2.2.1.trans (g6.lo H5.out.2.1 H5.out.2.2.2.1.size)
        have box6 := g6.box H5.out.2.1 H5.out.2.2.2.2 (by decide)
        have H6 := Lib.hid (And.intro q6 (And.intro g6.own (And.intro a6 (And.intro bel6 box6))))
        have hat := addTable_any w6 w.heap.size (.slice A6 (nh + 1 + 16 + n1) c6) (nh + 1 + 16 + n1) _ g6.own bel6.size (by have := S4.out.bh; have := HF.out.2.2.1.1; omega) 1 (k : Int) (16 + (k : Int)) ⟨by omega, by omega⟩ ⟨by omega, by omega⟩ (by omega) (T.B (2 + k)) (T.V (2 + k)) A2 n2 c2 HF.out.1.2.2 (HF.out.2.1.2.on bel6) (by have := HF.out.2.2.1.2; omega) HAA.out.2
        rw [← HF.out.2.2.2.2.2.2] at hat
        have HAt2 := Lib.hid hat
        have hld6 : (Instr.loadAt 28 (.pointer (some ⟨gt, 128 + 17 * (2 + k), none⟩))).run Tryd.prog w6 = .ok V2 w6 := by rw [HF.out.2.2.2.2.2.2, ← HF.out.2.2.2.1.2]; exact (box6.tb).loadS HT.out.1 (by omega)
        have HLd6 := Lib.hid hld6
        clear hat hld6 q6 a6 bel6 box6 g6 HAt
        go_wp2_with (first
          | (with_reducible refine wpList_load_to (op := ⟨some 57, _, _, _, _, _⟩) rfl 28 (.tmp 56) rfl (.pointer (some ⟨gt, 128 + 17 * (2 + k), none⟩)) rfl V2 HLd6.out ?_)
          | fail)
        refine Calls.mono HAt2.out ?_
        rintro e w7 ⟨v7, rfl, g7⟩
        obtain ⟨q7, a7⟩ := g7.pair H6.out.1 H6.out.2.2.1
        obtain ⟨A7, c7, rfl⟩ := g7.val
        have own7 := g7.own
        rw [List.append_assoc, ← hB_more] at own7
        have H7 := Lib.hid (show Tst w w7 T X gt (k + 1) (.slice A5 (nq + 65) c5) (.slice A7 (nh + 1 + 16 + n1 + 1 + 16 + n2) c7) (nq + 65) (nh + 1 + 16 + n1 + 1 + 16 + n2) from
          ⟨q7, own7, a7.symm, g7.box H6.out.2.1 H6.out.2.2.2.2 (by decide), H6.out.2.2.2.1.trans (g7.lo H6.out.2.1 H6.out.2.2.2.1.size), S4.out.ok.more Hok.out (Hv.out.1 (by simp)) (Hv2.out.1 (by simp)), by have := S4.out.bq; omega, by have := S4.out.bh; have := HF.out.2.2.1; omega⟩)
        clear g7 q7 a7 own7 HAt2 hz hbs
        go_wp2_with fail
        go_roundw
        case rel => exact ⟨k + 1, _, _, _, _, _, _, by omega, rfl, rfl, by go_num, H7.out⟩
        case measure => simp [intOf]; omega
      · have ek : k = 1 := by omega
        have hS := HS.out
        rw [ek] at hS
        have HE := Lib.hid hS
        have hRn : R = (tablesB T 1, 0) := by rw [HT.out.2.2.2.2.1]; exact tablesF_yes hS.ok
        have HRn := Lib.hid hRn
        have hnq := own_len hS.q
        have hnh := own_len hS.h
        obtain ⟨Aq', cq', eq', sq⟩ := sl_of_own' hS.q (qB_fit T 1 (by omega))
        obtain ⟨Ah', ch', eh', sh⟩ := sl_of_own' hS.h (hB_fit T 1 (by omega))
        cases eq'
        cases eh'
        obtain ⟨gl, hgl⟩ : ∃ gl, gl = wr.heap.size := ⟨_, rfl⟩
        obtain ⟨w2, hw2⟩ : ∃ x, wr.alloc (.cells #[.int .u8 255, .int .u8 216] 5) = x := ⟨_, rfl⟩
        have bl : Box w2 gl 5 (cellsOf [255, 216]).toArray := by rw [hgl, ← hw2]; exact Box.made _ _ _
        have k2 : Below wr.heap.size wr w2 := by rw [← hw2]; exact on_alloc _ _
        have hS2 := hS.on k2
        have ol : w2.ownsRow w.heap.size 5 1 (.slice (some ⟨gl, 0, none⟩) 2 2) 2 (cellsOf [255, 216]) := own_of_box bl rfl (by rw [hgl]; exact hS.bel.size) (by decide)
        have hq2 : nq ≤ 200 := by have := hS.bq; omega
        have hh2 : nh ≤ 50000 := by have := hS.bh; omega
        have ad1 := addSegment_any w2 w.heap.size (.slice (some ⟨gl, 0, none⟩) 2 2) 2 [255, 216] ol hS2.bel.size (by omega) 219 (by omega) (by omega) (by unfold Fit; decide) _ Aq nq cq (qB T 1) (sq.kept (Kept.of_below k2 (fun _ => False)) (fun _ _ e => e)) (by omega) (fun i hi e => by
          have h1 := (own_block3 hS.q hi)
          obtain ⟨_, cs, hh⟩ := h1
          have := (Array.getElem?_eq_some_iff.1 hh).1
          have h3 : gl = i := by injection e
          omega)
        have HA1 := Lib.hid ad1
        have H2 := Lib.hid (And.intro hw2 (And.intro hgl (And.intro hS2 (And.intro ol (And.intro (sh.kept (Kept.of_below k2 (fun _ => False)) (fun _ _ e => e)) (And.intro hnq hnh))))))
        clear ek hS hRn hnq hnh sq sh hgl hw2 bl k2 hS2 ol ad1
        go_wp2_with fail
        rw [H2.out.1, ← H2.out.2.1]
        refine Calls.mono HA1.out ?_
        rintro e w3 ⟨v3, rfl, g3, f3⟩
        obtain ⟨A3, c3, rfl⟩ := g3.val
        obtain ⟨m3, hm3⟩ : ∃ m, m = 2 + 2 + 2 + nq := ⟨_, rfl⟩
        rw [← hm3] at g3 f3 ⊢
        have Hm3 := Lib.hid hm3
        have bel3 : Below w.heap.size w w3 := H2.out.2.2.1.bel.trans (g3.lo H2.out.2.2.2.1 H2.out.2.2.1.bel.size)
        have hapl : ∀ i, (Value.slice (some ⟨gl, 0, none⟩) 2 2).ownBlock = some i → (Value.slice Ah nh ch).ownBlock ≠ some i := fun i hi e => by
          obtain ⟨_, cs, hh⟩ := own_block3 HE.out.h e
          have := (Array.getElem?_eq_some_iff.1 hh).1
          have h3 : gl = i := by injection hi
          have := H2.out.2.1
          omega
        have sh3 := (H2.out.2.2.2.2.1).kept g3.kep (fun b hb e => hapl b e hb)
        have hf3 : Fit ([255, 216] ++ segB 219 (qB T 1)) := fit_app (by unfold Fit; decide) (fit_seg (by omega) (by omega) (qB_fit T 1 (by omega)))
        have ad2 := addSegment_any w3 w.heap.size (.slice A3 m3 c3) m3 _ g3.own bel3.size (by omega) 196 (by omega) (by omega) hf3 _ Ah nh ch (hB T 1) sh3 (by omega) (fun i hi e => by
          have h1 := f3 i e
          obtain ⟨_, cs, hh⟩ := own_block3 H2.out.2.2.1.h hi
          have := (Array.getElem?_eq_some_iff.1 hh).1
          omega)
        have HA2 := Lib.hid ad2
        have H3 := Lib.hid (And.intro bel3 (And.intro g3.own hf3))
        clear hm3 HA1 g3 f3 bel3 hapl sh3 hf3 ad2
        go_wp2_with fail
        refine Calls.mono HA2.out ?_
        rintro e w4 ⟨v4, rfl, g4, f4⟩
        obtain ⟨A4, c4, rfl⟩ := g4.val
        obtain ⟨m4, hm4⟩ : ∃ m, m = m3 + 2 + 2 + nh := ⟨_, rfl⟩
        rw [← hm4] at g4 f4 ⊢
        have hm4b : m4 + 2 ≤ 140737488351232 := by have := Hm3.out; omega
        have Hm4 := Lib.hid hm4
        have bel4 : Below w.heap.size w w4 := H3.out.1.trans (g4.lo H3.out.2.1 H3.out.1.size)
        have hf4 := fit_app H3.out.2.2 (fit_seg (m := 196) (by omega) (by omega) (hB_fit T 1 (by omega)))
        obtain ⟨w5, hw5⟩ : ∃ x, w4.alloc (.cells #[.int .u8 255, .int .u8 217] 5) = x := ⟨_, rfl⟩
        have s5 : Sl w5 (fun b => b = w4.heap.size) (some ⟨w4.heap.size, 0, none⟩) 2 2 [255, 217] := by rw [← hw5]; exact sl_lit w4 [255, 217] (by unfold Fit; decide) (by decide)
        have k5 : Below w4.heap.size w4 w5 := by rw [← hw5]; exact on_alloc _ _
        have H5 := Lib.hid (And.intro hw5 (And.intro s5 (And.intro (bel4.trans (k5.mono bel4.size)) (And.intro (own_on g4.own k5) (And.intro hf4 (show w.heap.size ≤ w5.heap.size from Nat.le_trans bel4.size k5.size))))))
        clear hm4 HA2 g4 f4 bel4 hf4 hw5 s5 k5
        go_wp2_with (first
          | ((with_reducible refine wpList_append_z (o := ⟨some 69, _, _, _, _, _⟩) rfl (.tmp 67) (.tmp 68) rfl w.heap.size (.slice A4 m4 c4) m4 ([255, 216] ++ segB 219 (qB T 1) ++ segB 196 (hB T 1)) rfl ?hown (fun b => b = w4.heap.size) (some ⟨w4.heap.size, 0, none⟩) 2 2 [255, 217] rfl ?hr ?hs ?hb ?_)
             case hown => rw [H5.out.1]; exact H5.out.2.2.2.1
             case hr => rw [H5.out.1]; exact H5.out.2.1
             case hs => exact hm4b
             case hb => rw [H5.out.1]; exact H5.out.2.2.2.2.2
             intro v6 w6 hg6
             rw [H5.out.1] at hg6
             obtain ⟨A6, c6, hv6⟩ := hg6.val
             subst hv6
             have H6 := Lib.hid hg6
             clear hg6)
          | fail)
        go_ret2
        rw [HRn.out]
        obtain ⟨Af, cf, ef, sf⟩ := sl_of_own H6.out.own (fit_app H5.out.2.2.2.2.1 (by unfold Fit; decide))
        cases ef
        have el : ([255, 216] ++ segB 219 (qB T 1) ++ segB 196 (hB T 1) ++ [255, 217]).length = m4 + 2 := by
          rw [List.length_append, List.length_append, List.length_append, segB_len, segB_len, H2.out.2.2.2.2.2.1, H2.out.2.2.2.2.2.2]
          show 2 + (nq + 4) + (nh + 4) + 2 = _
          have := Hm3.out
          have := Hm4.out
          omega
        refine ⟨A6, c6, ?_, ?_, H5.out.2.2.1.trans (H6.out.lo H5.out.2.2.2.1 H5.out.2.2.2.2.2)⟩
        · show _ = Ending.returned (.tuple #[.slice A6 (tablesB T 1).length c6, .int .i64 0])
          rw [show (tablesB T 1).length = m4 + 2 from el]
          rfl
        · show Sl w6 _ A6 (tablesB T 1).length c6 (tablesB T 1)
          rw [show (tablesB T 1).length = m4 + 2 from el]
          exact sf
end Go.Proofs.YtgipngedmblnmaaDoor
