/-
  Put's second function: the contract of Put$2 (a restart).
-/
import Derived.Test.YtdnjnbfmmgkpjaaDoorPD
import Derived.Test.YtdnjnbfmmgkpjaaDoorSW
namespace Go.Proofs.YtdnjnbfmmgkpjaaDoor
open Go.RowKit

theorem run_append_sk (w : World) (ty : TypeId) (base : Nat) (v : Value) (n : Nat) (l : List Int) (hown : w.ownsRow base 5 1 v n (cellsOf l)) (A : Option Addr) (m c : Nat) (r : List Int) (hr : Sl w (fun _ => True) A m c r) (h63 : n + m ≤ 1000000) (hbase : base ≤ w.heap.size) :
    ∃ v' w', (Builtin.append_ #[41, 41] ty #[v, .slice A m c]).run Tryd.prog w = .ok v' w' ∧ w'.ownsRow base 5 1 v' (n + m) (cellsOf (l ++ r)) ∧ Kept (fun i => v.ownBlock = some i) w w' := by
  obtain ⟨i0, hi0, hz0, hz1, hz2⟩ := info_parts byte_info
  cases A with
  | none =>
    obtain rfl : c = 0 := hr.nil rfl
    obtain rfl : m = 0 := by have := hr.cap; omega
    have hl : r = [] := List.eq_nil_of_length_eq_zero hr.len
    subst hl
    exact ⟨v, w, run_append_owned_none (P := Tryd.prog) (w := w) base 41 ty 5 i0 1 Tryd.underlying41 hi0 v n (cellsOf l) hown, by simpa using hown, Kept.refl _ _⟩
  | some ad =>
    obtain ⟨v', w', h0, h1, h2, _⟩ := run_append_own (P := Tryd.prog) w base 41 ty 5 i0 (.int .u8 0) 1 1 Tryd.underlying41 hi0 hz0 hz1 hz2 rfl (by omega) v n (cellsOf l) hown ad m c (cellsOf r) (by rw [cellsOf_len, hr.len, Nat.mul_one]) hr.bts.read (cellsOf_one r) (by simp only [maxLen]; omega) (by omega) hbase
    have e : cellsOf l ++ cellsOf r = cellsOf (l ++ r) := by simp [cellsOf]
    rw [e] at h1
    exact ⟨v', w', h0, h1, ⟨h2.os, h2.tape, h2.output, h2.size, fun k hk hn => h2.block k hk (fun e => hn e.symm)⟩⟩
theorem step_append_sk {ops : Array Oper} {o : Oper} {a : Act} {w : World} {K : Act → World → Prop} {Q : Exit → Act → World → Prop} {E : Prop} (hgd : o.guard = none) (s x : Operand)
    (ho : o.op = .call { callee := .builtin .append, args := #[s, x], argTypes := #[41, 41] })
    (base : Nat) (v : Value) (n : Nat) (l : List Int) (hs : a.eval s = v) (hown : w.ownsRow base 5 1 v n (cellsOf l))
    (A : Option Addr) (m c : Nat) (r : List Int) (hx : a.eval x = .slice A m c) (hr : Sl w (fun _ => True) A m c r) (h63 : n + m ≤ 1000000) (hbase : base ≤ w.heap.size) (d : Option Tmp) (hd : o.dst = d)
    (h : ∀ v' w', w'.ownsRow base 5 1 v' (n + m) (cellsOf (l ++ r)) → Kept (fun i => v.ownBlock = some i) w w' → K (a.put d v') w') :
    if Region.wanted o (yielded ops a.tmps) = true then Oper.wp Tryd.prog o a w K Q else E := by
  have hw : Region.wanted o (yielded ops a.tmps) = true := by simp [Region.wanted, hgd]
  rw [if_pos hw]
  subst hd
  obtain ⟨v', w', h0, h1, h2⟩ := run_append_sk w o.type base v n l hown A m c r hr h63 hbase
  unfold Oper.wp
  simp [execOp, ho, resolve, invoke, builtin, hs, hx, h0, Result.andThen]
  exact h v' w' h1 h2

theorem own_on {w w' : World} {base e size n : Nat} {v : Value} {xs : List Value} (h : w.ownsRow base e size v n xs) (k : Below w.heap.size w w') : w'.ownsRow base e size v n xs :=
  ownsRow_block h fun g _ _ hb => k.block g (Array.getElem?_eq_some_iff.1 hb).1
theorem own_box {w w' : World} {base e size n g t : Nat} {v : Value} {xs : List Value} {cs : Array Value} (h : w.ownsRow base e size v n xs) (k : Kept (fun i => v.ownBlock = some i) w w') (hb : Box w g t cs) (hne : t ≠ e) : Box w' g t cs :=
  k.box hb (fun e' => by
    obtain ⟨_, cs', h2⟩ := own_block3 h e'
    exact hb.apart (show Box w g e cs' from h2) hne rfl)
theorem own_new {w0 w1 w2 : World} {base e size n g t : Nat} {v : Value} {xs : List Value} {cs : Array Value} (h : w0.ownsRow base e size v n xs) (hg : w0.heap.size ≤ g) (k : Kept (fun i => v.ownBlock = some i) w1 w2) (hb : Box w1 g t cs) : Box w2 g t cs :=
  k.box hb (fun e' => by
    obtain ⟨_, cs', h2⟩ := own_block3 h e'
    have := (Array.getElem?_eq_some_iff.1 h2).1
    omega)
theorem two_sl {w : World} {gb : Nat} {code : Int} (h : Box w gb 5 #[.int .u8 255, .int .u8 code]) (hc : 0 ≤ code ∧ code ≤ 255) : Sl w (fun _ => True) (some ⟨gb, 0, none⟩) 2 2 [255, code] := by
  refine ⟨⟨fun z hz => ?_, fun _ => ⟨gb, 0, rfl, h.lt, trivial, fun i hi => ?_⟩⟩, rfl, Nat.le_refl _, by unfold maxLen; omega, fun e => by cases e⟩
  · simp only [List.mem_cons, List.mem_nil_iff, or_false] at hz
    rcases hz with rfl | rfl <;> omega
  · have hi2 : i < 2 := hi
    rw [Nat.zero_add, h.cell]
    rcases (show i = 0 ∨ i = 1 by omega) with rfl | rfl <;> rfl
/-- what a restart may turn -/
def RestT (w : World) (base go gw : Nat) (i : Nat) : Prop := i = go ∨ i = gw ∨ (base ≤ i ∧ ∃ cs, w.heap[i]? = some (.cells cs 5 (0, 0)))
theorem Kept.app {w u u' : World} {base go gw n : Nat} {v : Value} {xs : List Value} (h : Kept (RestT w base go gw) w u) (ho : u.ownsRow base 5 1 v n xs) (k : Kept (fun i => v.ownBlock = some i) u u') : Kept (RestT w base go gw) w u' :=
  h.trans k (fun i hi e => by
    by_cases hr : RestT w base go gw i
    · exact hr
    · obtain ⟨h1, cs, h2⟩ := own_block3 ho e
      refine .inr (.inr ⟨h1, cs, ?_⟩)
      rw [← h2]
      exact (h.block i hi hr).symm)
theorem Kept.on {S : Nat → Prop} {w u u' : World} (h : Kept S w u) (b : Below u.heap.size u u') : Kept S w u' := h.trans (Kept.of_below b S) (fun _ _ h => h)
theorem fin8 {w u : World} {base go gw n d : Nat} {v0 v9 : Value} {xs : List Value} (hb : Box u go 41 #[v0]) (ho : u.ownsRow base 5 1 v9 n xs) (k : Kept (RestT w base go gw) w u) (hs : Box (u.setCell ⟨go, 0, none⟩ v9) gw 72 #[.pointer (some ⟨d, 0, none⟩)]) :
    Box (u.setCell ⟨go, 0, none⟩ v9) gw 72 #[.pointer (some ⟨d, 0, none⟩)] ∧ Box (u.setCell ⟨go, 0, none⟩ v9) go 41 #[v9] ∧ (u.setCell ⟨go, 0, none⟩ v9).ownsRow base 5 1 v9 n xs ∧ Kept (RestT w base go gw) w (u.setCell ⟨go, 0, none⟩ v9) := by
  refine ⟨hs, hb.put 0 v9, ownsRow_block ho fun g cs hg hh => ?_, k.setCell (p := ⟨go, 0, none⟩) (fun _ => .inl rfl) v9⟩
  have hne : g ≠ go := fun e => by subst e; exact (show Box u g 5 cs from hh).apart hb (by decide) rfl
  exact Below.heap_setCell u ⟨go, 0, none⟩ v9 g hne

theorem fin9 {w u w9 : World} {base go gw n m d d9 : Nat} {v9 : Value} {xs : List Value} (hm : m = n) (h : Box u gw 72 #[.pointer (some ⟨d, 0, none⟩)] ∧ Box u go 41 #[v9] ∧ u.ownsRow base 5 1 v9 n xs ∧ Kept (RestT w base go gw) w u) (h9 : u.heap.size ≤ d9 ∧ Wx w9 d9 [] ∧ Below u.heap.size u w9) (hgg : gw ≠ go) :
    ∃ v' d', Box (w9.setCell ⟨gw, 0, none⟩ (.pointer (some ⟨d9, 0, none⟩))) go 41 #[v'] ∧ (w9.setCell ⟨gw, 0, none⟩ (.pointer (some ⟨d9, 0, none⟩))).ownsRow base 5 1 v' m xs ∧
      Box (w9.setCell ⟨gw, 0, none⟩ (.pointer (some ⟨d9, 0, none⟩))) gw 72 #[.pointer (some ⟨d', 0, none⟩)] ∧ Wx (w9.setCell ⟨gw, 0, none⟩ (.pointer (some ⟨d9, 0, none⟩))) d' [] ∧ w.heap.size ≤ d' ∧ Kept (RestT w base go gw) w (w9.setCell ⟨gw, 0, none⟩ (.pointer (some ⟨d9, 0, none⟩))) := by
  subst hm
  obtain ⟨h1, h2, h3, h4⟩ := h
  obtain ⟨g1, g2, g3⟩ := h9
  have b1 := h1.on g3
  have hk : Kept (fun i => i = gw) w9 (w9.setCell ⟨gw, 0, none⟩ (.pointer (some ⟨d9, 0, none⟩))) := (Kept.refl (fun i => i = gw) w9).setCell (p := ⟨gw, 0, none⟩) (fun _ => rfl) _
  refine ⟨v9, d9, (h2.on g3).beside (p := ⟨gw, 0, none⟩) (fun e => hgg e.symm) _, ownsRow_block (own_on h3 g3) (fun g cs hg hh => ?_), b1.put 0 _, g2.kept hk (fun e => ?_) (fun i cs e hh => ?_), Nat.le_trans h4.size g1, (h4.on g3).setCell (p := ⟨gw, 0, none⟩) (fun _ => .inr (.inl rfl)) _⟩
  · have hne : g ≠ gw := fun e => by subst e; exact (show Box w9 g 5 cs from hh).apart b1 (by decide) rfl
    exact Below.heap_setCell w9 ⟨gw, 0, none⟩ _ g hne
  · have := h1.lt
    omega
  · subst e
    exact (show Box w9 i 163 cs from hh).apart b1 (by decide) rfl

section
variable (w : World) (go gw d base n : Nat) (code : Int) (v0 : Value) (out bs l : List Int)
set_option maxRecDepth 10000 in
set_option maxHeartbeats 6400000 in
theorem putRest_any (hcode : 0 ≤ code ∧ code ≤ 255) (hgo : Box w go 41 #[v0]) (hgw : Box w gw 72 #[.pointer (some ⟨d, 0, none⟩)]) (hx : Wx w d bs) (hl : bs.length ≤ 158000) (hS : Scan bs l) (hown : w.ownsRow base 5 1 v0 n (cellsOf out)) (hbs : base ≤ w.heap.size) (hn : n + l.length ≤ 900000) :
    Calls Tryd.prog 27 #[.int .i64 code, .pointer (some ⟨go, 0, none⟩), .pointer (some ⟨gw, 0, none⟩)] w fun e w' => e = .returned (.int .i64 0) ∧ ∃ v' d', Box w' go 41 #[v'] ∧ w'.ownsRow base 5 1 v' (n + l.length + 2) (cellsOf (out ++ l ++ [255, code])) ∧
      Box w' gw 72 #[.pointer (some ⟨d', 0, none⟩)] ∧ Wx w' d' [] ∧ w.heap.size ≤ d' ∧ Kept (RestT w base go gw) w w' := by
  have hgg : gw ≠ go := hgw.apart hgo (by decide)
  have hk0 : Kept (RestT w base go gw) w w.drew := Kept.of_below (on_drew w) _
  have hconv : IntKind.u8.wrap code = code := by
    have : (0 : Int) ≤ code := hcode.1
    unfold IntKind.wrap
    simp [IntKind.signed, IntKind.bits]
    omega
  have go0 := Lib.hid (hgo.on (on_drew w))
  have wx0 := Lib.hid (hx.on (on_drew w))
  have own0 := Lib.hid (own_on hown (on_drew w))
  have k0 := Lib.hid hk0
  have hml : Hid (∀ m3 : Nat, l.length = m3 → n + m3 ≤ 900000) := Lib.hid (fun m3 e => by omega)
  have sg := Lib.hid (hgw.on (on_drew w))
  clear hgw hgo hx hk0
  go_enter Tryd.func27, Tryd.ntmps27
  go_upto_region 1 with fail
  refine wp_region_held_drew (S := fun w' => Hid (Box w' gw 72 #[.pointer (some ⟨d, 0, none⟩)])) (by kernel_rfl) sg fun s0 => ?_
  obtain ⟨wd, hwd⟩ : ∃ x, x = w.drew := ⟨_, rfl⟩
  rw [← hwd] at go0 wx0 own0 k0 s0 ⊢
  clear hwd sg
  refine take_to (i := 1) (v := .pointer (some ⟨d, 0, none⟩)) rfl (by kernel_rfl) (by kernel_rfl) (by kernel_rfl) (fun _ _ _ h => h) (Or.inl ⟨by rfl, fun w' hS => by have := hS.out.cell 0; go_simp⟩) s0 (some 6) rfl ?_
  try simp only [Act.put, List.setIfInBounds_toArray, List.set_cons_zero, List.set_cons_succ]
  refine take_to (i := 4) (v := .int .i64 code) rfl (by kernel_rfl) (by kernel_rfl) (by kernel_rfl) (fun _ _ _ h => h) (Or.inl ⟨by rfl, fun w' hS => by go_simp⟩) s0 (some 9) rfl ?_
  try simp only [Act.put, List.setIfInBounds_toArray, List.set_cons_zero, List.set_cons_succ]
  refine take_to (i := 5) (v := .int .u8 code) rfl (by kernel_rfl) (by kernel_rfl) (by kernel_rfl) (fun _ _ _ h => h) (Or.inl ⟨by rfl, fun w' hS => by go_simp⟩) s0 (some 10) rfl ?_
  try simp only [Act.put, List.setIfInBounds_toArray, List.set_cons_zero, List.set_cons_succ]
  refine wpAnyH_ready (rs := [0, 2, 6]) (by kernel_rfl) (by simp) ?_
  refine AllReadyH.cons rfl (fun Kq hKq => ?_) (AllReadyH.cons rfl (fun Kq hKq => ?_) (AllReadyH.cons rfl (fun Kq hKq => ?_) AllReadyH.nil))
  · have r1 : wd.cell? ⟨go, 0, none⟩ = some v0 := go0.out.cell 0
    go_simp
    refine hKq.out _ _ s0 fun _ => ?_
    clear r1 hKq Kq
    refine wpAnyH_ready (rs := [2, 6]) (by kernel_rfl) (by simp) ?_
    refine AllReadyH.cons rfl (fun Kq hKq => ?_) (AllReadyH.cons rfl (fun Kq hKq => ?_) AllReadyH.nil)
    · go_simp
      refine Calls.mono (bytesX_any _ d bs wx0.out (Nat.le_trans hl (by omega))) ?_
      rintro e u2 ⟨A3, m3, c3, l3, rfl, hsc, hsl, bq⟩
      obtain rfl : l3 = l := Scan.same hsc hS
      have z2 := Lib.hid hsl
      have ln := Lib.hid hsl.len
      have s2 := Lib.hid (s0.out.on bq)
      have go_2 := Lib.hid (go0.out.on bq)
      have wx_2 := Lib.hid (wx0.out.on bq)
      have own_2 := Lib.hid (own_on own0.out bq)
      have k_2 := Lib.hid (k0.out.on bq)
      refine hKq.out _ _ s2 fun _ => ?_
      clear hKq Kq bq hsl hsc
      refine wpAnyH_ready (rs := [3, 6]) (by kernel_rfl) (by simp) ?_
      refine AllReadyH.cons rfl (fun Kq hKq => ?_) (AllReadyH.cons rfl (fun Kq hKq => ?_) AllReadyH.nil)
      · refine step_append_sk rfl (.tmp 5) (.tmp 7) rfl base v0 n out rfl own_2.out A3 m3 c3 l3 rfl z2.out (by have := z2.out.len; omega) (Nat.le_trans hbs k_2.out.size) (some 8) rfl ?_
        intro v5 u3 hown5 k5
        try simp only [Act.put, List.setIfInBounds_toArray, List.set_cons_zero, List.set_cons_succ]
        have on3 := Lib.hid hown5
        have s3 := Lib.hid (own_box own_2.out k5 s2.out (by decide))
        have go_3 := Lib.hid (own_box own_2.out k5 go_2.out (by decide))
        have k_3 := Lib.hid (k_2.out.app own_2.out k5)
        refine hKq.out _ _ s3 fun _ => ?_
        clear hKq Kq k5 hown5
        refine wpAnyH_ready (rs := [6]) (by kernel_rfl) (by simp) ?_
        refine AllReadyH.cons rfl (fun Kq hKq => ?_) AllReadyH.nil
        go_simp
        have kb4 : Below u3.heap.size u3 (u3.alloc (.cells #[.int .u8 255, .int .u8 code] 5)) := on_alloc _ _
        have bb4 : Box (u3.alloc (.cells #[.int .u8 255, .int .u8 code] 5)) u3.heap.size 5 #[.int .u8 255, .int .u8 code] := Box.made _ _ _
        obtain ⟨gb, hgb⟩ : ∃ gb, gb = u3.heap.size := ⟨_, rfl⟩
        obtain ⟨u4, hu4⟩ : ∃ x, x = u3.alloc (.cells #[.int .u8 255, .int .u8 code] 5) := ⟨_, rfl⟩
        simp only [← hgb, ← hu4] at bb4 ⊢
        rw [← hu4] at kb4
        have y4 := Lib.hid (And.intro bb4 (show w.heap.size ≤ gb by rw [hgb]; exact k_3.out.size))
        have s4 := Lib.hid (s3.out.on kb4)
        have own_4 := Lib.hid (own_on on3.out kb4)
        have go_4 := Lib.hid (go_3.out.on kb4)
        have k_4 := Lib.hid (k_3.out.on kb4)
        refine hKq.out _ _ s4 fun _ => ?_
        clear hKq Kq kb4 bb4 hu4 hgb
        refine wpAnyH_ready (rs := [7]) (by kernel_rfl) (by simp) ?_
        refine AllReadyH.cons rfl (fun Kq hKq => ?_) AllReadyH.nil
        refine step_append_sk rfl (.tmp 8) (.tmp 11) rfl base v5 (n + m3) (out ++ l3) rfl own_4.out (some ⟨gb, 0, none⟩) 2 2 [255, code] rfl (two_sl y4.out.1 hcode) (by have := hml.out m3 ln.out; omega) (Nat.le_trans hbs k_4.out.size) (some 12) rfl ?_
        intro v9 u5 hown9 k9
        try simp only [Act.put, List.setIfInBounds_toArray, List.set_cons_zero, List.set_cons_succ]
        obtain ⟨A9, c9, hv9⟩ := own_slice hown9
        obtain ⟨n9, hn9⟩ : ∃ n9, n9 = n + m3 + 2 := ⟨_, rfl⟩
        rw [← hn9] at hown9 hv9
        subst hv9
        have HN9 := Lib.hid hn9
        have on5 := Lib.hid hown9
        have s5 := Lib.hid (own_box own_4.out k9 s4.out (by decide))
        have go_5 := Lib.hid (own_box own_4.out k9 go_4.out (by decide))
        have k_5 := Lib.hid (k_4.out.app own_4.out k9)
        refine hKq.out _ _ s5 fun _ => ?_
        clear hKq Kq k9 hown9 hn9
        refine wpAnyH_ready (rs := [8]) (by kernel_rfl) (by simp) ?_
        refine AllReadyH.cons rfl (fun Kq hKq => ?_) AllReadyH.nil
        have r6 : u5.cell? ⟨go, 0, none⟩ = some v0 := go_5.out.cell 0
        have f6 : u5.frozen? ⟨go, 0, none⟩ = false := go_5.out.free 0
        go_simp
        have s6 := Lib.hid (s5.out.beside (p := ⟨go, 0, none⟩) hgg (.slice A9 n9 c9))
        refine hKq.out _ _ s6 fun _ => ?_
        have HF := Lib.hid (fin8 go_5.out on5.out k_5.out s6.out)
        clear r6 f6 hKq Kq
        refine wpAnyH_done (by kernel_rfl) ?_ _
        go_wp2_with fail
        refine Calls.mono (newWriterX _) ?_
        rintro e w9 ⟨d9, rfl, hd9, hx9, b9⟩
        have HN := Lib.hid (And.intro hd9 (And.intro hx9 b9))
        have r9 : w9.cell? ⟨gw, 0, none⟩ = some (.pointer (some ⟨d, 0, none⟩)) := (HF.out.1.on b9).cell 0
        have f9 : w9.frozen? ⟨gw, 0, none⟩ = false := (HF.out.1.on b9).free 0
        clear hd9 hx9 b9
        go_wp2_with fail
        go_ret
        exact ⟨rfl, fin9 (by have := ln.out; have := HN9.out; omega) HF.out HN.out hgg⟩
      · go_simp
        have kb7 : Below u2.heap.size u2 (u2.alloc (.cells #[.int .u8 255, .int .u8 code] 5)) := on_alloc _ _
        have bb7 : Box (u2.alloc (.cells #[.int .u8 255, .int .u8 code] 5)) u2.heap.size 5 #[.int .u8 255, .int .u8 code] := Box.made _ _ _
        obtain ⟨gb, hgb⟩ : ∃ gb, gb = u2.heap.size := ⟨_, rfl⟩
        obtain ⟨u7, hu7⟩ : ∃ x, x = u2.alloc (.cells #[.int .u8 255, .int .u8 code] 5) := ⟨_, rfl⟩
        simp only [← hgb, ← hu7] at bb7 ⊢
        rw [← hu7] at kb7
        have y7 := Lib.hid (And.intro bb7 (show w.heap.size ≤ gb by rw [hgb]; exact k_2.out.size))
        have s7 := Lib.hid (s2.out.on kb7)
        have sl_7 := Lib.hid (z2.out.on kb7)
        have go_7 := Lib.hid (go_2.out.on kb7)
        have wx_7 := Lib.hid (wx_2.out.on kb7)
        have own_7 := Lib.hid (own_on own_2.out kb7)
        have k_7 := Lib.hid (k_2.out.on kb7)
        refine hKq.out _ _ s7 fun _ => ?_
        clear hKq Kq kb7 bb7 hu7 hgb
        refine wpAnyH_ready (rs := [3]) (by kernel_rfl) (by simp) ?_
        refine AllReadyH.cons rfl (fun Kq hKq => ?_) AllReadyH.nil
        refine step_append_sk rfl (.tmp 5) (.tmp 7) rfl base v0 n out rfl own_7.out A3 m3 c3 l3 rfl sl_7.out (by have := sl_7.out.len; omega) (Nat.le_trans hbs k_7.out.size) (some 8) rfl ?_
        intro v5 u8 hown5 k5
        try simp only [Act.put, List.setIfInBounds_toArray, List.set_cons_zero, List.set_cons_succ]
        have on8 := Lib.hid hown5
        have s8 := Lib.hid (own_box own_7.out k5 s7.out (by decide))
        have gb_8 := Lib.hid (And.intro (own_new hown (show w.heap.size ≤ gb from y7.out.2) k5 y7.out.1) y7.out.2)
        have go_8 := Lib.hid (own_box own_7.out k5 go_7.out (by decide))
        have k_8 := Lib.hid (k_7.out.app own_7.out k5)
        refine hKq.out _ _ s8 fun _ => ?_
        clear hKq Kq k5 hown5
        refine wpAnyH_ready (rs := [7]) (by kernel_rfl) (by simp) ?_
        refine AllReadyH.cons rfl (fun Kq hKq => ?_) AllReadyH.nil
        refine step_append_sk rfl (.tmp 8) (.tmp 11) rfl base v5 (n + m3) (out ++ l3) rfl on8.out (some ⟨gb, 0, none⟩) 2 2 [255, code] rfl (two_sl gb_8.out.1 hcode) (by have := hml.out m3 ln.out; omega) (Nat.le_trans hbs k_8.out.size) (some 12) rfl ?_
        intro v9 u9 hown9 k9
        try simp only [Act.put, List.setIfInBounds_toArray, List.set_cons_zero, List.set_cons_succ]
        obtain ⟨A9, c9, hv9⟩ := own_slice hown9
        obtain ⟨n9, hn9⟩ : ∃ n9, n9 = n + m3 + 2 := ⟨_, rfl⟩
        rw [← hn9] at hown9 hv9
        subst hv9
        have HN9 := Lib.hid hn9
        have on9 := Lib.hid hown9
        have s9 := Lib.hid (own_box on8.out k9 s8.out (by decide))
        have go_9 := Lib.hid (own_box on8.out k9 go_8.out (by decide))
        have k_9 := Lib.hid (k_8.out.app on8.out k9)
        refine hKq.out _ _ s9 fun _ => ?_
        clear hKq Kq k9 hown9 hn9
        refine wpAnyH_ready (rs := [8]) (by kernel_rfl) (by simp) ?_
        refine AllReadyH.cons rfl (fun Kq hKq => ?_) AllReadyH.nil
        have r10 : u9.cell? ⟨go, 0, none⟩ = some v0 := go_9.out.cell 0
        have f10 : u9.frozen? ⟨go, 0, none⟩ = false := go_9.out.free 0
        go_simp
        have s10 := Lib.hid (s9.out.beside (p := ⟨go, 0, none⟩) hgg (.slice A9 n9 c9))
        refine hKq.out _ _ s10 fun _ => ?_
        have HF := Lib.hid (fin8 go_9.out on9.out k_9.out s10.out)
        clear r10 f10 hKq Kq
        refine wpAnyH_done (by kernel_rfl) ?_ _
        go_wp2_with fail
        refine Calls.mono (newWriterX _) ?_
        rintro e w9 ⟨d9, rfl, hd9, hx9, b9⟩
        have HN := Lib.hid (And.intro hd9 (And.intro hx9 b9))
        have r9 : w9.cell? ⟨gw, 0, none⟩ = some (.pointer (some ⟨d, 0, none⟩)) := (HF.out.1.on b9).cell 0
        have f9 : w9.frozen? ⟨gw, 0, none⟩ = false := (HF.out.1.on b9).free 0
        clear hd9 hx9 b9
        go_wp2_with fail
        go_ret
        exact ⟨rfl, fin9 (by have := ln.out; have := HN9.out; omega) HF.out HN.out hgg⟩
    · go_simp
      have kb11 : Below wd.heap.size wd (wd.alloc (.cells #[.int .u8 255, .int .u8 code] 5)) := on_alloc _ _
      have bb11 : Box (wd.alloc (.cells #[.int .u8 255, .int .u8 code] 5)) wd.heap.size 5 #[.int .u8 255, .int .u8 code] := Box.made _ _ _
      obtain ⟨gb, hgb⟩ : ∃ gb, gb = wd.heap.size := ⟨_, rfl⟩
      obtain ⟨u11, hu11⟩ : ∃ x, x = wd.alloc (.cells #[.int .u8 255, .int .u8 code] 5) := ⟨_, rfl⟩
      simp only [← hgb, ← hu11] at bb11 ⊢
      rw [← hu11] at kb11
      have y11 := Lib.hid (And.intro bb11 (show w.heap.size ≤ gb by rw [hgb]; exact k0.out.size))
      have s11 := Lib.hid (s0.out.on kb11)
      have go_11 := Lib.hid (go0.out.on kb11)
      have wx_11 := Lib.hid (wx0.out.on kb11)
      have own_11 := Lib.hid (own_on own0.out kb11)
      have k_11 := Lib.hid (k0.out.on kb11)
      refine hKq.out _ _ s11 fun _ => ?_
      clear hKq Kq kb11 bb11 hu11 hgb
      refine wpAnyH_ready (rs := [2]) (by kernel_rfl) (by simp) ?_
      refine AllReadyH.cons rfl (fun Kq hKq => ?_) AllReadyH.nil
      go_simp
      refine Calls.mono (bytesX_any _ d bs wx_11.out (Nat.le_trans hl (by omega))) ?_
      rintro e u12 ⟨A3, m3, c3, l3, rfl, hsc, hsl, bq⟩
      obtain rfl : l3 = l := Scan.same hsc hS
      have z12 := Lib.hid hsl
      have ln := Lib.hid hsl.len
      have s12 := Lib.hid (s11.out.on bq)
      have gb_12 := Lib.hid (And.intro (y11.out.1.on bq) y11.out.2)
      have go_12 := Lib.hid (go_11.out.on bq)
      have wx_12 := Lib.hid (wx_11.out.on bq)
      have own_12 := Lib.hid (own_on own_11.out bq)
      have k_12 := Lib.hid (k_11.out.on bq)
      refine hKq.out _ _ s12 fun _ => ?_
      clear hKq Kq bq hsl hsc
      refine wpAnyH_ready (rs := [3]) (by kernel_rfl) (by simp) ?_
      refine AllReadyH.cons rfl (fun Kq hKq => ?_) AllReadyH.nil
      refine step_append_sk rfl (.tmp 5) (.tmp 7) rfl base v0 n out rfl own_12.out A3 m3 c3 l3 rfl z12.out (by have := z12.out.len; omega) (Nat.le_trans hbs k_12.out.size) (some 8) rfl ?_
      intro v5 u13 hown5 k5
      try simp only [Act.put, List.setIfInBounds_toArray, List.set_cons_zero, List.set_cons_succ]
      have on13 := Lib.hid hown5
      have s13 := Lib.hid (own_box own_12.out k5 s12.out (by decide))
      have gb_13 := Lib.hid (And.intro (own_new hown (show w.heap.size ≤ gb from gb_12.out.2) k5 gb_12.out.1) gb_12.out.2)
      have go_13 := Lib.hid (own_box own_12.out k5 go_12.out (by decide))
      have k_13 := Lib.hid (k_12.out.app own_12.out k5)
      refine hKq.out _ _ s13 fun _ => ?_
      clear hKq Kq k5 hown5
      refine wpAnyH_ready (rs := [7]) (by kernel_rfl) (by simp) ?_
      refine AllReadyH.cons rfl (fun Kq hKq => ?_) AllReadyH.nil
      refine step_append_sk rfl (.tmp 8) (.tmp 11) rfl base v5 (n + m3) (out ++ l3) rfl on13.out (some ⟨gb, 0, none⟩) 2 2 [255, code] rfl (two_sl gb_13.out.1 hcode) (by have := hml.out m3 ln.out; omega) (Nat.le_trans hbs k_13.out.size) (some 12) rfl ?_
      intro v9 u14 hown9 k9
      try simp only [Act.put, List.setIfInBounds_toArray, List.set_cons_zero, List.set_cons_succ]
      obtain ⟨A9, c9, hv9⟩ := own_slice hown9
      obtain ⟨n9, hn9⟩ : ∃ n9, n9 = n + m3 + 2 := ⟨_, rfl⟩
      rw [← hn9] at hown9 hv9
      subst hv9
      have HN9 := Lib.hid hn9
      have on14 := Lib.hid hown9
      have s14 := Lib.hid (own_box on13.out k9 s13.out (by decide))
      have go_14 := Lib.hid (own_box on13.out k9 go_13.out (by decide))
      have k_14 := Lib.hid (k_13.out.app on13.out k9)
      refine hKq.out _ _ s14 fun _ => ?_
      clear hKq Kq k9 hown9 hn9
      refine wpAnyH_ready (rs := [8]) (by kernel_rfl) (by simp) ?_
      refine AllReadyH.cons rfl (fun Kq hKq => ?_) AllReadyH.nil
      have r15 : u14.cell? ⟨go, 0, none⟩ = some v0 := go_14.out.cell 0
      have f15 : u14.frozen? ⟨go, 0, none⟩ = false := go_14.out.free 0
      go_simp
      have s15 := Lib.hid (s14.out.beside (p := ⟨go, 0, none⟩) hgg (.slice A9 n9 c9))
      refine hKq.out _ _ s15 fun _ => ?_
      have HF := Lib.hid (fin8 go_14.out on14.out k_14.out s15.out)
      clear r15 f15 hKq Kq
      refine wpAnyH_done (by kernel_rfl) ?_ _
      go_wp2_with fail
      refine Calls.mono (newWriterX _) ?_
      rintro e w9 ⟨d9, rfl, hd9, hx9, b9⟩
      have HN := Lib.hid (And.intro hd9 (And.intro hx9 b9))
      have r9 : w9.cell? ⟨gw, 0, none⟩ = some (.pointer (some ⟨d, 0, none⟩)) := (HF.out.1.on b9).cell 0
      have f9 : w9.frozen? ⟨gw, 0, none⟩ = false := (HF.out.1.on b9).free 0
      clear hd9 hx9 b9
      go_wp2_with fail
      go_ret
      exact ⟨rfl, fin9 (by have := ln.out; have := HN9.out; omega) HF.out HN.out hgg⟩
  · go_simp
    refine Calls.mono (bytesX_any _ d bs wx0.out (Nat.le_trans hl (by omega))) ?_
    rintro e u16 ⟨A3, m3, c3, l3, rfl, hsc, hsl, bq⟩
    obtain rfl : l3 = l := Scan.same hsc hS
    have z16 := Lib.hid hsl
    have ln := Lib.hid hsl.len
    have s16 := Lib.hid (s0.out.on bq)
    have go_16 := Lib.hid (go0.out.on bq)
    have wx_16 := Lib.hid (wx0.out.on bq)
    have own_16 := Lib.hid (own_on own0.out bq)
    have k_16 := Lib.hid (k0.out.on bq)
    refine hKq.out _ _ s16 fun _ => ?_
    clear hKq Kq bq hsl hsc
    refine wpAnyH_ready (rs := [0, 6]) (by kernel_rfl) (by simp) ?_
    refine AllReadyH.cons rfl (fun Kq hKq => ?_) (AllReadyH.cons rfl (fun Kq hKq => ?_) AllReadyH.nil)
    · have r17 : u16.cell? ⟨go, 0, none⟩ = some v0 := go_16.out.cell 0
      go_simp
      refine hKq.out _ _ s16 fun _ => ?_
      clear r17 hKq Kq
      refine wpAnyH_ready (rs := [3, 6]) (by kernel_rfl) (by simp) ?_
      refine AllReadyH.cons rfl (fun Kq hKq => ?_) (AllReadyH.cons rfl (fun Kq hKq => ?_) AllReadyH.nil)
      · refine step_append_sk rfl (.tmp 5) (.tmp 7) rfl base v0 n out rfl own_16.out A3 m3 c3 l3 rfl z16.out (by have := z16.out.len; omega) (Nat.le_trans hbs k_16.out.size) (some 8) rfl ?_
        intro v5 u18 hown5 k5
        try simp only [Act.put, List.setIfInBounds_toArray, List.set_cons_zero, List.set_cons_succ]
        have on18 := Lib.hid hown5
        have s18 := Lib.hid (own_box own_16.out k5 s16.out (by decide))
        have go_18 := Lib.hid (own_box own_16.out k5 go_16.out (by decide))
        have k_18 := Lib.hid (k_16.out.app own_16.out k5)
        refine hKq.out _ _ s18 fun _ => ?_
        clear hKq Kq k5 hown5
        refine wpAnyH_ready (rs := [6]) (by kernel_rfl) (by simp) ?_
        refine AllReadyH.cons rfl (fun Kq hKq => ?_) AllReadyH.nil
        go_simp
        have kb19 : Below u18.heap.size u18 (u18.alloc (.cells #[.int .u8 255, .int .u8 code] 5)) := on_alloc _ _
        have bb19 : Box (u18.alloc (.cells #[.int .u8 255, .int .u8 code] 5)) u18.heap.size 5 #[.int .u8 255, .int .u8 code] := Box.made _ _ _
        obtain ⟨gb, hgb⟩ : ∃ gb, gb = u18.heap.size := ⟨_, rfl⟩
        obtain ⟨u19, hu19⟩ : ∃ x, x = u18.alloc (.cells #[.int .u8 255, .int .u8 code] 5) := ⟨_, rfl⟩
        simp only [← hgb, ← hu19] at bb19 ⊢
        rw [← hu19] at kb19
        have y19 := Lib.hid (And.intro bb19 (show w.heap.size ≤ gb by rw [hgb]; exact k_18.out.size))
        have s19 := Lib.hid (s18.out.on kb19)
        have own_19 := Lib.hid (own_on on18.out kb19)
        have go_19 := Lib.hid (go_18.out.on kb19)
        have k_19 := Lib.hid (k_18.out.on kb19)
        refine hKq.out _ _ s19 fun _ => ?_
        clear hKq Kq kb19 bb19 hu19 hgb
        refine wpAnyH_ready (rs := [7]) (by kernel_rfl) (by simp) ?_
        refine AllReadyH.cons rfl (fun Kq hKq => ?_) AllReadyH.nil
        refine step_append_sk rfl (.tmp 8) (.tmp 11) rfl base v5 (n + m3) (out ++ l3) rfl own_19.out (some ⟨gb, 0, none⟩) 2 2 [255, code] rfl (two_sl y19.out.1 hcode) (by have := hml.out m3 ln.out; omega) (Nat.le_trans hbs k_19.out.size) (some 12) rfl ?_
        intro v9 u20 hown9 k9
        try simp only [Act.put, List.setIfInBounds_toArray, List.set_cons_zero, List.set_cons_succ]
        obtain ⟨A9, c9, hv9⟩ := own_slice hown9
        obtain ⟨n9, hn9⟩ : ∃ n9, n9 = n + m3 + 2 := ⟨_, rfl⟩
        rw [← hn9] at hown9 hv9
        subst hv9
        have HN9 := Lib.hid hn9
        have on20 := Lib.hid hown9
        have s20 := Lib.hid (own_box own_19.out k9 s19.out (by decide))
        have go_20 := Lib.hid (own_box own_19.out k9 go_19.out (by decide))
        have k_20 := Lib.hid (k_19.out.app own_19.out k9)
        refine hKq.out _ _ s20 fun _ => ?_
        clear hKq Kq k9 hown9 hn9
        refine wpAnyH_ready (rs := [8]) (by kernel_rfl) (by simp) ?_
        refine AllReadyH.cons rfl (fun Kq hKq => ?_) AllReadyH.nil
        have r21 : u20.cell? ⟨go, 0, none⟩ = some v0 := go_20.out.cell 0
        have f21 : u20.frozen? ⟨go, 0, none⟩ = false := go_20.out.free 0
        go_simp
        have s21 := Lib.hid (s20.out.beside (p := ⟨go, 0, none⟩) hgg (.slice A9 n9 c9))
        refine hKq.out _ _ s21 fun _ => ?_
        have HF := Lib.hid (fin8 go_20.out on20.out k_20.out s21.out)
        clear r21 f21 hKq Kq
        refine wpAnyH_done (by kernel_rfl) ?_ _
        go_wp2_with fail
        refine Calls.mono (newWriterX _) ?_
        rintro e w9 ⟨d9, rfl, hd9, hx9, b9⟩
        have HN := Lib.hid (And.intro hd9 (And.intro hx9 b9))
        have r9 : w9.cell? ⟨gw, 0, none⟩ = some (.pointer (some ⟨d, 0, none⟩)) := (HF.out.1.on b9).cell 0
        have f9 : w9.frozen? ⟨gw, 0, none⟩ = false := (HF.out.1.on b9).free 0
        clear hd9 hx9 b9
        go_wp2_with fail
        go_ret
        exact ⟨rfl, fin9 (by have := ln.out; have := HN9.out; omega) HF.out HN.out hgg⟩
      · go_simp
        have kb22 : Below u16.heap.size u16 (u16.alloc (.cells #[.int .u8 255, .int .u8 code] 5)) := on_alloc _ _
        have bb22 : Box (u16.alloc (.cells #[.int .u8 255, .int .u8 code] 5)) u16.heap.size 5 #[.int .u8 255, .int .u8 code] := Box.made _ _ _
        obtain ⟨gb, hgb⟩ : ∃ gb, gb = u16.heap.size := ⟨_, rfl⟩
        obtain ⟨u22, hu22⟩ : ∃ x, x = u16.alloc (.cells #[.int .u8 255, .int .u8 code] 5) := ⟨_, rfl⟩
        simp only [← hgb, ← hu22] at bb22 ⊢
        rw [← hu22] at kb22
        have y22 := Lib.hid (And.intro bb22 (show w.heap.size ≤ gb by rw [hgb]; exact k_16.out.size))
        have s22 := Lib.hid (s16.out.on kb22)
        have sl_22 := Lib.hid (z16.out.on kb22)
        have go_22 := Lib.hid (go_16.out.on kb22)
        have wx_22 := Lib.hid (wx_16.out.on kb22)
        have own_22 := Lib.hid (own_on own_16.out kb22)
        have k_22 := Lib.hid (k_16.out.on kb22)
        refine hKq.out _ _ s22 fun _ => ?_
        clear hKq Kq kb22 bb22 hu22 hgb
        refine wpAnyH_ready (rs := [3]) (by kernel_rfl) (by simp) ?_
        refine AllReadyH.cons rfl (fun Kq hKq => ?_) AllReadyH.nil
        refine step_append_sk rfl (.tmp 5) (.tmp 7) rfl base v0 n out rfl own_22.out A3 m3 c3 l3 rfl sl_22.out (by have := sl_22.out.len; omega) (Nat.le_trans hbs k_22.out.size) (some 8) rfl ?_
        intro v5 u23 hown5 k5
        try simp only [Act.put, List.setIfInBounds_toArray, List.set_cons_zero, List.set_cons_succ]
        have on23 := Lib.hid hown5
        have s23 := Lib.hid (own_box own_22.out k5 s22.out (by decide))
        have gb_23 := Lib.hid (And.intro (own_new hown (show w.heap.size ≤ gb from y22.out.2) k5 y22.out.1) y22.out.2)
        have go_23 := Lib.hid (own_box own_22.out k5 go_22.out (by decide))
        have k_23 := Lib.hid (k_22.out.app own_22.out k5)
        refine hKq.out _ _ s23 fun _ => ?_
        clear hKq Kq k5 hown5
        refine wpAnyH_ready (rs := [7]) (by kernel_rfl) (by simp) ?_
        refine AllReadyH.cons rfl (fun Kq hKq => ?_) AllReadyH.nil
        refine step_append_sk rfl (.tmp 8) (.tmp 11) rfl base v5 (n + m3) (out ++ l3) rfl on23.out (some ⟨gb, 0, none⟩) 2 2 [255, code] rfl (two_sl gb_23.out.1 hcode) (by have := hml.out m3 ln.out; omega) (Nat.le_trans hbs k_23.out.size) (some 12) rfl ?_
        intro v9 u24 hown9 k9
        try simp only [Act.put, List.setIfInBounds_toArray, List.set_cons_zero, List.set_cons_succ]
        obtain ⟨A9, c9, hv9⟩ := own_slice hown9
        obtain ⟨n9, hn9⟩ : ∃ n9, n9 = n + m3 + 2 := ⟨_, rfl⟩
        rw [← hn9] at hown9 hv9
        subst hv9
        have HN9 := Lib.hid hn9
        have on24 := Lib.hid hown9
        have s24 := Lib.hid (own_box on23.out k9 s23.out (by decide))
        have go_24 := Lib.hid (own_box on23.out k9 go_23.out (by decide))
        have k_24 := Lib.hid (k_23.out.app on23.out k9)
        refine hKq.out _ _ s24 fun _ => ?_
        clear hKq Kq k9 hown9 hn9
        refine wpAnyH_ready (rs := [8]) (by kernel_rfl) (by simp) ?_
        refine AllReadyH.cons rfl (fun Kq hKq => ?_) AllReadyH.nil
        have r25 : u24.cell? ⟨go, 0, none⟩ = some v0 := go_24.out.cell 0
        have f25 : u24.frozen? ⟨go, 0, none⟩ = false := go_24.out.free 0
        go_simp
        have s25 := Lib.hid (s24.out.beside (p := ⟨go, 0, none⟩) hgg (.slice A9 n9 c9))
        refine hKq.out _ _ s25 fun _ => ?_
        have HF := Lib.hid (fin8 go_24.out on24.out k_24.out s25.out)
        clear r25 f25 hKq Kq
        refine wpAnyH_done (by kernel_rfl) ?_ _
        go_wp2_with fail
        refine Calls.mono (newWriterX _) ?_
        rintro e w9 ⟨d9, rfl, hd9, hx9, b9⟩
        have HN := Lib.hid (And.intro hd9 (And.intro hx9 b9))
        have r9 : w9.cell? ⟨gw, 0, none⟩ = some (.pointer (some ⟨d, 0, none⟩)) := (HF.out.1.on b9).cell 0
        have f9 : w9.frozen? ⟨gw, 0, none⟩ = false := (HF.out.1.on b9).free 0
        clear hd9 hx9 b9
        go_wp2_with fail
        go_ret
        exact ⟨rfl, fin9 (by have := ln.out; have := HN9.out; omega) HF.out HN.out hgg⟩
    · go_simp
      have kb26 : Below u16.heap.size u16 (u16.alloc (.cells #[.int .u8 255, .int .u8 code] 5)) := on_alloc _ _
      have bb26 : Box (u16.alloc (.cells #[.int .u8 255, .int .u8 code] 5)) u16.heap.size 5 #[.int .u8 255, .int .u8 code] := Box.made _ _ _
      obtain ⟨gb, hgb⟩ : ∃ gb, gb = u16.heap.size := ⟨_, rfl⟩
      obtain ⟨u26, hu26⟩ : ∃ x, x = u16.alloc (.cells #[.int .u8 255, .int .u8 code] 5) := ⟨_, rfl⟩
      simp only [← hgb, ← hu26] at bb26 ⊢
      rw [← hu26] at kb26
      have y26 := Lib.hid (And.intro bb26 (show w.heap.size ≤ gb by rw [hgb]; exact k_16.out.size))
      have s26 := Lib.hid (s16.out.on kb26)
      have sl_26 := Lib.hid (z16.out.on kb26)
      have go_26 := Lib.hid (go_16.out.on kb26)
      have wx_26 := Lib.hid (wx_16.out.on kb26)
      have own_26 := Lib.hid (own_on own_16.out kb26)
      have k_26 := Lib.hid (k_16.out.on kb26)
      refine hKq.out _ _ s26 fun _ => ?_
      clear hKq Kq kb26 bb26 hu26 hgb
      refine wpAnyH_ready (rs := [0]) (by kernel_rfl) (by simp) ?_
      refine AllReadyH.cons rfl (fun Kq hKq => ?_) AllReadyH.nil
      have r27 : u26.cell? ⟨go, 0, none⟩ = some v0 := go_26.out.cell 0
      go_simp
      refine hKq.out _ _ s26 fun _ => ?_
      clear r27 hKq Kq
      refine wpAnyH_ready (rs := [3]) (by kernel_rfl) (by simp) ?_
      refine AllReadyH.cons rfl (fun Kq hKq => ?_) AllReadyH.nil
      refine step_append_sk rfl (.tmp 5) (.tmp 7) rfl base v0 n out rfl own_26.out A3 m3 c3 l3 rfl sl_26.out (by have := sl_26.out.len; omega) (Nat.le_trans hbs k_26.out.size) (some 8) rfl ?_
      intro v5 u28 hown5 k5
      try simp only [Act.put, List.setIfInBounds_toArray, List.set_cons_zero, List.set_cons_succ]
      have on28 := Lib.hid hown5
      have s28 := Lib.hid (own_box own_26.out k5 s26.out (by decide))
      have gb_28 := Lib.hid (And.intro (own_new hown (show w.heap.size ≤ gb from y26.out.2) k5 y26.out.1) y26.out.2)
      have go_28 := Lib.hid (own_box own_26.out k5 go_26.out (by decide))
      have k_28 := Lib.hid (k_26.out.app own_26.out k5)
      refine hKq.out _ _ s28 fun _ => ?_
      clear hKq Kq k5 hown5
      refine wpAnyH_ready (rs := [7]) (by kernel_rfl) (by simp) ?_
      refine AllReadyH.cons rfl (fun Kq hKq => ?_) AllReadyH.nil
      refine step_append_sk rfl (.tmp 8) (.tmp 11) rfl base v5 (n + m3) (out ++ l3) rfl on28.out (some ⟨gb, 0, none⟩) 2 2 [255, code] rfl (two_sl gb_28.out.1 hcode) (by have := hml.out m3 ln.out; omega) (Nat.le_trans hbs k_28.out.size) (some 12) rfl ?_
      intro v9 u29 hown9 k9
      try simp only [Act.put, List.setIfInBounds_toArray, List.set_cons_zero, List.set_cons_succ]
      obtain ⟨A9, c9, hv9⟩ := own_slice hown9
      obtain ⟨n9, hn9⟩ : ∃ n9, n9 = n + m3 + 2 := ⟨_, rfl⟩
      rw [← hn9] at hown9 hv9
      subst hv9
      have HN9 := Lib.hid hn9
      have on29 := Lib.hid hown9
      have s29 := Lib.hid (own_box on28.out k9 s28.out (by decide))
      have go_29 := Lib.hid (own_box on28.out k9 go_28.out (by decide))
      have k_29 := Lib.hid (k_28.out.app on28.out k9)
      refine hKq.out _ _ s29 fun _ => ?_
      clear hKq Kq k9 hown9 hn9
      refine wpAnyH_ready (rs := [8]) (by kernel_rfl) (by simp) ?_
      refine AllReadyH.cons rfl (fun Kq hKq => ?_) AllReadyH.nil
      have r30 : u29.cell? ⟨go, 0, none⟩ = some v0 := go_29.out.cell 0
      have f30 : u29.frozen? ⟨go, 0, none⟩ = false := go_29.out.free 0
      go_simp
      have s30 := Lib.hid (s29.out.beside (p := ⟨go, 0, none⟩) hgg (.slice A9 n9 c9))
      refine hKq.out _ _ s30 fun _ => ?_
      have HF := Lib.hid (fin8 go_29.out on29.out k_29.out s30.out)
      clear r30 f30 hKq Kq
      refine wpAnyH_done (by kernel_rfl) ?_ _
      go_wp2_with fail
      refine Calls.mono (newWriterX _) ?_
      rintro e w9 ⟨d9, rfl, hd9, hx9, b9⟩
      have HN := Lib.hid (And.intro hd9 (And.intro hx9 b9))
      have r9 : w9.cell? ⟨gw, 0, none⟩ = some (.pointer (some ⟨d, 0, none⟩)) := (HF.out.1.on b9).cell 0
      have f9 : w9.frozen? ⟨gw, 0, none⟩ = false := (HF.out.1.on b9).free 0
      clear hd9 hx9 b9
      go_wp2_with fail
      go_ret
      exact ⟨rfl, fin9 (by have := ln.out; have := HN9.out; omega) HF.out HN.out hgg⟩
  · go_simp
    have kb31 : Below wd.heap.size wd (wd.alloc (.cells #[.int .u8 255, .int .u8 code] 5)) := on_alloc _ _
    have bb31 : Box (wd.alloc (.cells #[.int .u8 255, .int .u8 code] 5)) wd.heap.size 5 #[.int .u8 255, .int .u8 code] := Box.made _ _ _
    obtain ⟨gb, hgb⟩ : ∃ gb, gb = wd.heap.size := ⟨_, rfl⟩
    obtain ⟨u31, hu31⟩ : ∃ x, x = wd.alloc (.cells #[.int .u8 255, .int .u8 code] 5) := ⟨_, rfl⟩
    simp only [← hgb, ← hu31] at bb31 ⊢
    rw [← hu31] at kb31
    have y31 := Lib.hid (And.intro bb31 (show w.heap.size ≤ gb by rw [hgb]; exact k0.out.size))
    have s31 := Lib.hid (s0.out.on kb31)
    have go_31 := Lib.hid (go0.out.on kb31)
    have wx_31 := Lib.hid (wx0.out.on kb31)
    have own_31 := Lib.hid (own_on own0.out kb31)
    have k_31 := Lib.hid (k0.out.on kb31)
    refine hKq.out _ _ s31 fun _ => ?_
    clear hKq Kq kb31 bb31 hu31 hgb
    refine wpAnyH_ready (rs := [0, 2]) (by kernel_rfl) (by simp) ?_
    refine AllReadyH.cons rfl (fun Kq hKq => ?_) (AllReadyH.cons rfl (fun Kq hKq => ?_) AllReadyH.nil)
    · have r32 : u31.cell? ⟨go, 0, none⟩ = some v0 := go_31.out.cell 0
      go_simp
      refine hKq.out _ _ s31 fun _ => ?_
      clear r32 hKq Kq
      refine wpAnyH_ready (rs := [2]) (by kernel_rfl) (by simp) ?_
      refine AllReadyH.cons rfl (fun Kq hKq => ?_) AllReadyH.nil
      go_simp
      refine Calls.mono (bytesX_any _ d bs wx_31.out (Nat.le_trans hl (by omega))) ?_
      rintro e u33 ⟨A3, m3, c3, l3, rfl, hsc, hsl, bq⟩
      obtain rfl : l3 = l := Scan.same hsc hS
      have z33 := Lib.hid hsl
      have ln := Lib.hid hsl.len
      have s33 := Lib.hid (s31.out.on bq)
      have gb_33 := Lib.hid (And.intro (y31.out.1.on bq) y31.out.2)
      have go_33 := Lib.hid (go_31.out.on bq)
      have wx_33 := Lib.hid (wx_31.out.on bq)
      have own_33 := Lib.hid (own_on own_31.out bq)
      have k_33 := Lib.hid (k_31.out.on bq)
      refine hKq.out _ _ s33 fun _ => ?_
      clear hKq Kq bq hsl hsc
      refine wpAnyH_ready (rs := [3]) (by kernel_rfl) (by simp) ?_
      refine AllReadyH.cons rfl (fun Kq hKq => ?_) AllReadyH.nil
      refine step_append_sk rfl (.tmp 5) (.tmp 7) rfl base v0 n out rfl own_33.out A3 m3 c3 l3 rfl z33.out (by have := z33.out.len; omega) (Nat.le_trans hbs k_33.out.size) (some 8) rfl ?_
      intro v5 u34 hown5 k5
      try simp only [Act.put, List.setIfInBounds_toArray, List.set_cons_zero, List.set_cons_succ]
      have on34 := Lib.hid hown5
      have s34 := Lib.hid (own_box own_33.out k5 s33.out (by decide))
      have gb_34 := Lib.hid (And.intro (own_new hown (show w.heap.size ≤ gb from gb_33.out.2) k5 gb_33.out.1) gb_33.out.2)
      have go_34 := Lib.hid (own_box own_33.out k5 go_33.out (by decide))
      have k_34 := Lib.hid (k_33.out.app own_33.out k5)
      refine hKq.out _ _ s34 fun _ => ?_
      clear hKq Kq k5 hown5
      refine wpAnyH_ready (rs := [7]) (by kernel_rfl) (by simp) ?_
      refine AllReadyH.cons rfl (fun Kq hKq => ?_) AllReadyH.nil
      refine step_append_sk rfl (.tmp 8) (.tmp 11) rfl base v5 (n + m3) (out ++ l3) rfl on34.out (some ⟨gb, 0, none⟩) 2 2 [255, code] rfl (two_sl gb_34.out.1 hcode) (by have := hml.out m3 ln.out; omega) (Nat.le_trans hbs k_34.out.size) (some 12) rfl ?_
      intro v9 u35 hown9 k9
      try simp only [Act.put, List.setIfInBounds_toArray, List.set_cons_zero, List.set_cons_succ]
      obtain ⟨A9, c9, hv9⟩ := own_slice hown9
      obtain ⟨n9, hn9⟩ : ∃ n9, n9 = n + m3 + 2 := ⟨_, rfl⟩
      rw [← hn9] at hown9 hv9
      subst hv9
      have HN9 := Lib.hid hn9
      have on35 := Lib.hid hown9
      have s35 := Lib.hid (own_box on34.out k9 s34.out (by decide))
      have go_35 := Lib.hid (own_box on34.out k9 go_34.out (by decide))
      have k_35 := Lib.hid (k_34.out.app on34.out k9)
      refine hKq.out _ _ s35 fun _ => ?_
      clear hKq Kq k9 hown9 hn9
      refine wpAnyH_ready (rs := [8]) (by kernel_rfl) (by simp) ?_
      refine AllReadyH.cons rfl (fun Kq hKq => ?_) AllReadyH.nil
      have r36 : u35.cell? ⟨go, 0, none⟩ = some v0 := go_35.out.cell 0
      have f36 : u35.frozen? ⟨go, 0, none⟩ = false := go_35.out.free 0
      go_simp
      have s36 := Lib.hid (s35.out.beside (p := ⟨go, 0, none⟩) hgg (.slice A9 n9 c9))
      refine hKq.out _ _ s36 fun _ => ?_
      have HF := Lib.hid (fin8 go_35.out on35.out k_35.out s36.out)
      clear r36 f36 hKq Kq
      refine wpAnyH_done (by kernel_rfl) ?_ _
      go_wp2_with fail
      refine Calls.mono (newWriterX _) ?_
      rintro e w9 ⟨d9, rfl, hd9, hx9, b9⟩
      have HN := Lib.hid (And.intro hd9 (And.intro hx9 b9))
      have r9 : w9.cell? ⟨gw, 0, none⟩ = some (.pointer (some ⟨d, 0, none⟩)) := (HF.out.1.on b9).cell 0
      have f9 : w9.frozen? ⟨gw, 0, none⟩ = false := (HF.out.1.on b9).free 0
      clear hd9 hx9 b9
      go_wp2_with fail
      go_ret
      exact ⟨rfl, fin9 (by have := ln.out; have := HN9.out; omega) HF.out HN.out hgg⟩
    · go_simp
      refine Calls.mono (bytesX_any _ d bs wx_31.out (Nat.le_trans hl (by omega))) ?_
      rintro e u37 ⟨A3, m3, c3, l3, rfl, hsc, hsl, bq⟩
      obtain rfl : l3 = l := Scan.same hsc hS
      have z37 := Lib.hid hsl
      have ln := Lib.hid hsl.len
      have s37 := Lib.hid (s31.out.on bq)
      have gb_37 := Lib.hid (And.intro (y31.out.1.on bq) y31.out.2)
      have go_37 := Lib.hid (go_31.out.on bq)
      have wx_37 := Lib.hid (wx_31.out.on bq)
      have own_37 := Lib.hid (own_on own_31.out bq)
      have k_37 := Lib.hid (k_31.out.on bq)
      refine hKq.out _ _ s37 fun _ => ?_
      clear hKq Kq bq hsl hsc
      refine wpAnyH_ready (rs := [0]) (by kernel_rfl) (by simp) ?_
      refine AllReadyH.cons rfl (fun Kq hKq => ?_) AllReadyH.nil
      have r38 : u37.cell? ⟨go, 0, none⟩ = some v0 := go_37.out.cell 0
      go_simp
      refine hKq.out _ _ s37 fun _ => ?_
      clear r38 hKq Kq
      refine wpAnyH_ready (rs := [3]) (by kernel_rfl) (by simp) ?_
      refine AllReadyH.cons rfl (fun Kq hKq => ?_) AllReadyH.nil
      refine step_append_sk rfl (.tmp 5) (.tmp 7) rfl base v0 n out rfl own_37.out A3 m3 c3 l3 rfl z37.out (by have := z37.out.len; omega) (Nat.le_trans hbs k_37.out.size) (some 8) rfl ?_
      intro v5 u39 hown5 k5
      try simp only [Act.put, List.setIfInBounds_toArray, List.set_cons_zero, List.set_cons_succ]
      have on39 := Lib.hid hown5
      have s39 := Lib.hid (own_box own_37.out k5 s37.out (by decide))
      have gb_39 := Lib.hid (And.intro (own_new hown (show w.heap.size ≤ gb from gb_37.out.2) k5 gb_37.out.1) gb_37.out.2)
      have go_39 := Lib.hid (own_box own_37.out k5 go_37.out (by decide))
      have k_39 := Lib.hid (k_37.out.app own_37.out k5)
      refine hKq.out _ _ s39 fun _ => ?_
      clear hKq Kq k5 hown5
      refine wpAnyH_ready (rs := [7]) (by kernel_rfl) (by simp) ?_
      refine AllReadyH.cons rfl (fun Kq hKq => ?_) AllReadyH.nil
      refine step_append_sk rfl (.tmp 8) (.tmp 11) rfl base v5 (n + m3) (out ++ l3) rfl on39.out (some ⟨gb, 0, none⟩) 2 2 [255, code] rfl (two_sl gb_39.out.1 hcode) (by have := hml.out m3 ln.out; omega) (Nat.le_trans hbs k_39.out.size) (some 12) rfl ?_
      intro v9 u40 hown9 k9
      try simp only [Act.put, List.setIfInBounds_toArray, List.set_cons_zero, List.set_cons_succ]
      obtain ⟨A9, c9, hv9⟩ := own_slice hown9
      obtain ⟨n9, hn9⟩ : ∃ n9, n9 = n + m3 + 2 := ⟨_, rfl⟩
      rw [← hn9] at hown9 hv9
      subst hv9
      have HN9 := Lib.hid hn9
      have on40 := Lib.hid hown9
      have s40 := Lib.hid (own_box on39.out k9 s39.out (by decide))
      have go_40 := Lib.hid (own_box on39.out k9 go_39.out (by decide))
      have k_40 := Lib.hid (k_39.out.app on39.out k9)
      refine hKq.out _ _ s40 fun _ => ?_
      clear hKq Kq k9 hown9 hn9
      refine wpAnyH_ready (rs := [8]) (by kernel_rfl) (by simp) ?_
      refine AllReadyH.cons rfl (fun Kq hKq => ?_) AllReadyH.nil
      have r41 : u40.cell? ⟨go, 0, none⟩ = some v0 := go_40.out.cell 0
      have f41 : u40.frozen? ⟨go, 0, none⟩ = false := go_40.out.free 0
      go_simp
      have s41 := Lib.hid (s40.out.beside (p := ⟨go, 0, none⟩) hgg (.slice A9 n9 c9))
      refine hKq.out _ _ s41 fun _ => ?_
      have HF := Lib.hid (fin8 go_40.out on40.out k_40.out s41.out)
      clear r41 f41 hKq Kq
      refine wpAnyH_done (by kernel_rfl) ?_ _
      go_wp2_with fail
      refine Calls.mono (newWriterX _) ?_
      rintro e w9 ⟨d9, rfl, hd9, hx9, b9⟩
      have HN := Lib.hid (And.intro hd9 (And.intro hx9 b9))
      have r9 : w9.cell? ⟨gw, 0, none⟩ = some (.pointer (some ⟨d, 0, none⟩)) := (HF.out.1.on b9).cell 0
      have f9 : w9.frozen? ⟨gw, 0, none⟩ = false := (HF.out.1.on b9).free 0
      clear hd9 hx9 b9
      go_wp2_with fail
      go_ret
      exact ⟨rfl, fin9 (by have := ln.out; have := HN9.out; omega) HF.out HN.out hgg⟩

end
end Go.Proofs.YtdnjnbfmmgkpjaaDoor
