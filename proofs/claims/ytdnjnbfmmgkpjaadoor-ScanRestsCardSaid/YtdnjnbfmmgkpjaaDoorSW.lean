/-
  Tiles of one's own: rows of blocks, each a row of one's own. The law's own.
-/
import Derived.Test.YtdnjnbfmmgkpjaaDoorSV
namespace Go.Proofs.YtdnjnbfmmgkpjaaDoor
open Go.RowKit

theorem el_blk : Elems 61 25 (blkV (List.replicate 64 0)) 64 512 := ⟨Tryd.underlying61, blk_info, rfl, by omega, by omega⟩
/-- blocks as what an append reads -/
theorem Bs.read {w : World} {b off m : Nat} {t : List (List Int)} (h : Bs w (some ⟨b, off, none⟩) m t) : ∀ j u, (blocksC t)[j]? = some u → w.cell? ((⟨b, off, none⟩ : Addr).add j) = some u := by
  intro j u hu
  have hj := (List.getElem?_eq_some_iff.1 hu).1
  rw [blocksC_len h.wide, h.len] at hj
  obtain ⟨x, hx⟩ : ∃ x, t[j / 64]? = some x := ⟨_, List.getElem?_eq_getElem (by rw [h.len]; omega)⟩
  obtain ⟨b', off', e, _, hc⟩ := h.at_ (by omega)
  cases e
  have h1 := hc (j / 64) x hx (j % 64) (by omega)
  have h2 := blocksC_at h.wide hx (show j % 64 < 64 by omega)
  rw [show j / 64 * 64 + j % 64 = j by omega] at h2
  rw [h2] at hu
  cases hu
  rw [plain_add, ← h1]
  congr 2
  omega
theorem blocksC_one (t : List (List Int)) : ∀ u ∈ blocksC t, u.oneCell' = true := by
  intro u hu
  obtain ⟨x, _, hx⟩ := List.mem_flatMap.1 hu
  exact cellsI_one x u hx
/-- an append of blocks to an empty row of one's own -/
theorem run_append_bs (w : World) (t0 : TypeId) (base : Nat) (v : Value) (hown : w.ownsRow base 25 64 v 0 []) (A : Option Addr) (m c : Nat) (t : List (List Int)) (hb : Bs w A m t) (hc : m ≤ c) (hn : A = none → c = 0) (h63 : m ≤ 1000000) (hbase : base ≤ w.heap.size) :
    ∃ v' w', (Builtin.append_ #[61, 61] t0 #[v, .slice A m c]).run Tryd.prog w = .ok v' w' ∧ w'.ownsRow base 25 64 v' m (blocksC t) ∧ Kept (fun i => v.ownBlock = some i) w w' := by
  cases A with
  | none =>
    obtain rfl := hn rfl
    obtain rfl : m = 0 := by omega
    obtain rfl : t = [] := List.eq_nil_of_length_eq_zero hb.len
    obtain ⟨i0, hi0, _⟩ := Option.map_eq_some_iff.1 blk_info
    exact ⟨v, w, run_append_owned_none (P := Tryd.prog) (w := w) base 61 t0 25 i0 64 Tryd.underlying61 hi0 v 0 [] hown, hown, Kept.refl _ _⟩
  | some ad =>
    obtain ⟨b, off, sp⟩ := ad
    by_cases h0 : 0 < m
    · obtain ⟨b', off', e, _, _⟩ := hb.at_ h0
      cases e
      obtain ⟨v', w', h1, h2, h3⟩ := run_append_gk el_blk w t0 base v 0 [] hown ⟨b, off, none⟩ m c (blocksC t) (by rw [blocksC_len hb.wide, hb.len, Nat.mul_comm]) hb.read (blocksC_one t) (by omega) hbase
      rw [Nat.zero_add, List.nil_append] at h2
      exact ⟨v', w', h1, h2, h3⟩
    · obtain rfl : m = 0 := by omega
      obtain rfl : t = [] := List.eq_nil_of_length_eq_zero hb.len
      obtain ⟨v', w', h1, h2, h3⟩ := run_append_gk el_blk w t0 base v 0 [] hown ⟨b, off, sp⟩ 0 c [] rfl (fun j u hu => by simp at hu) (fun u hu => by simp at hu) (by omega) hbase
      exact ⟨v', w', h1, h2, h3⟩
theorem step_append_bs {ops : Array Oper} {o : Oper} {a : Act} {w : World} {K : Act → World → Prop} {Q : Exit → Act → World → Prop} {F : Prop} (hgd : o.guard = none) (s x : Operand)
    (ho : o.op = .call { callee := .builtin .append, args := #[s, x], argTypes := #[61, 61] }) (base : Nat) (v : Value) (hs : a.eval s = v) (hown : w.ownsRow base 25 64 v 0 []) (A : Option Addr) (m c : Nat) (t : List (List Int))
    (hx : a.eval x = .slice A m c) (hb : Bs w A m t) (hc : m ≤ c) (hn : A = none → c = 0) (h63 : m ≤ 1000000) (hbase : base ≤ w.heap.size) (d : Option Tmp) (hd : o.dst = d)
    (h : ∀ v' w', w'.ownsRow base 25 64 v' m (blocksC t) → Kept (fun i => v.ownBlock = some i) w w' → K (a.put d v') w') :
    if Region.wanted o (yielded ops a.tmps) = true then Oper.wp Tryd.prog o a w K Q else F := by
  have hw : Region.wanted o (yielded ops a.tmps) = true := by simp [Region.wanted, hgd]
  rw [if_pos hw]
  subst hd
  obtain ⟨v', w', h0, h1, h2⟩ := run_append_bs w o.type base v hown A m c t hb hc hn h63 hbase
  unfold Oper.wp
  simp [execOp, ho, resolve, invoke, builtin, hs, hx, h0, Result.andThen]
  exact h v' w' h1 h2
/-- rows of blocks in a row of one's own -/
structure Rows4 (w : World) (base : Nat) (v : Value) (n : Nat) (T : List (List (List Int))) (vs : List Value) : Prop where
  own : w.ownsRow base 61 1 v n vs
  len : T.length = n
  rows : ∀ (p : Nat) (t : List (List Int)), T[p]? = some t → ∃ vp, vs[p]? = some vp ∧ w.ownsRow base 25 64 vp t.length (blocksC t) ∧ ∀ b ∈ t, b.length = 64
theorem ownsRow_on {w w' : World} {base e size n : Nat} {v : Value} {xs : List Value} (h : w.ownsRow base e size v n xs) (k : Below w.heap.size w w') : w'.ownsRow base e size v n xs :=
  ownsRow_block h fun _ _ _ hb => k.block _ (Array.getElem?_eq_some_iff.1 hb).1
theorem Rows4.on {w w' : World} {base n : Nat} {v : Value} {T : List (List (List Int))} {vs : List Value} (h : Rows4 w base v n T vs) (k : Below w.heap.size w w') : Rows4 w' base v n T vs :=
  ⟨ownsRow_on h.own k, h.len, fun p t ht => by
    obtain ⟨vp, h1, h2, h3⟩ := h.rows p t ht
    exact ⟨vp, h1, ownsRow_on h2 k, h3⟩⟩
theorem Rows4.kept {S : Nat → Prop} {w w' : World} {base n : Nat} {v : Value} {T : List (List (List Int))} {vs : List Value} (h : Rows4 w base v n T vs) (k : Kept S w w') (hS : ∀ i, S i → i < base) : Rows4 w' base v n T vs :=
  ⟨ownsRow_block h.own fun g _ hg hb => k.block g (Array.getElem?_eq_some_iff.1 hb).1 (fun e => by have := hS g e; have := (own_block3 h.own hg).1; omega), h.len, fun p t ht => by
    obtain ⟨vp, h1, h2, h3⟩ := h.rows p t ht
    exact ⟨vp, h1, ownsRow_block h2 fun g _ hg hb => k.block g (Array.getElem?_eq_some_iff.1 hb).1 (fun e => by have := hS g e; have := (own_block3 h2 hg).1; omega), h3⟩⟩
theorem results_c {fn : Func} {p : Tmp} {ty : TypeId} (h : fn.results = #[.cell p ty]) (tmps : Array Value) (w : World) (g : Nat) (x : Value)
    (hp : tmps.getD p undef = .pointer (some ⟨g, 0, none⟩)) (hl : (loadVar ty ⟨g, 0, none⟩).run Tryd.prog w = .ok x w) : (results fn tmps).run Tryd.prog w = .ok x w := by
  have hp' : tmps[p]?.getD undef = .pointer (some ⟨g, 0, none⟩) := by simpa using hp
  simp [results, h, hp', asAddr, hl]
theorem tile_size : (Tryd.prog.info? 36).map (·.size) = some 1 := by kernel_rfl
theorem loadVar_tile {w : World} {g : Nat} {v : Value} (h : Box w g 36 #[v]) : (loadVar 36 ⟨g, 0, none⟩).run Tryd.prog w = .ok (.agg #[v]) w :=
  run_loadVar_row w g 36 36 _ (0, 0) _ h Tryd.underlying36 rfl (by rw [tile_size]; rfl)
/-- a row's own block: of its type -/
theorem own_typ {w : World} {base e size n g : Nat} {v : Value} {xs : List Value} (h : w.ownsRow base e size v n xs) (hg : v.ownBlock = some g) : base ≤ g ∧ g < w.heap.size ∧ ∃ cs, w.heap[g]? = some (.cells cs e (0, 0)) := by
  obtain ⟨h1, cs, h2⟩ := own_block3 h hg
  exact ⟨h1, (Array.getElem?_eq_some_iff.1 h2).1, cs, h2⟩
theorem Rows4.more {w w' : World} {base n : Nat} {v v' vp : Value} {T : List (List (List Int))} {vs : List Value} {t : List (List Int)} (h : Rows4 w base v n T vs) (hown : w'.ownsRow base 61 1 v' (n + 1) (vs ++ [vp])) (k : Kept (fun i => v.ownBlock = some i) w w')
    (hp : w.ownsRow base 25 64 vp t.length (blocksC t)) (ht : ∀ b ∈ t, b.length = 64) : Rows4 w' base v' (n + 1) (T ++ [t]) (vs ++ [vp]) := by
  have hlen : vs.length = T.length := by have := h.own.1; have := h.len; omega
  have keep : ∀ {u : Value} {n : Nat} {xs : List Value}, w.ownsRow base 25 64 u n xs → w'.ownsRow base 25 64 u n xs := fun hu => ownsRow_block hu fun g cs hg hb => k.block g (Array.getElem?_eq_some_iff.1 hb).1 (fun e => by
    obtain ⟨_, _, cs2, h2⟩ := own_typ h.own e
    rw [hb] at h2
    cases h2)
  refine ⟨hown, by rw [List.length_append, h.len]; rfl, fun p t' ht' => ?_⟩
  rcases Nat.lt_or_ge p T.length with hl | hl
  · rw [List.getElem?_append_left hl] at ht'
    obtain ⟨vq, h1, h2, h3⟩ := h.rows p t' ht'
    exact ⟨vq, by rw [List.getElem?_append_left (by omega)]; exact h1, keep h2, h3⟩
  · rw [List.getElem?_append_right hl] at ht'
    have hpl : p - T.length = 0 := by have := (List.getElem?_eq_some_iff.1 ht').1; simp at this; omega
    rw [hpl] at ht'
    simp at ht'
    subst ht'
    exact ⟨vp, by rw [List.getElem?_append_right (by omega), hlen, hpl]; rfl, keep hp, ht⟩
/-- how the rows of a tile of one's own lie -/
def rowsL (vs : List Value) : List (Option Addr × Nat × Nat) := vs.map fun v => match v with | .slice A n c => (A, n, c) | _ => (none, 0, 0)
theorem Rows4.ti {w : World} {base n c : Nat} {A : Option Addr} {T : List (List (List Int))} {vs : List Value} (h : Rows4 w base (.slice A n c) n T vs) : Ti w A n (rowsL vs) T := by
  have hn := h.len
  have hlen : vs.length = T.length := by have := h.own.1; omega
  have each : ∀ (p : Nat) (x : Option Addr × Nat × Nat), (rowsL vs)[p]? = some x → ∃ t vp, T[p]? = some t ∧ vs[p]? = some vp ∧ w.ownsRow base 25 64 vp t.length (blocksC t) ∧ (∀ b ∈ t, b.length = 64) ∧ vp = .slice x.1 x.2.1 x.2.2 := by
    intro p x hx
    have hp : p < vs.length := by have := (List.getElem?_eq_some_iff.1 hx).1; simpa [rowsL] using this
    obtain ⟨t, ht⟩ : ∃ t, T[p]? = some t := ⟨_, List.getElem?_eq_getElem (by omega)⟩
    obtain ⟨vp, h1, h2, h3⟩ := h.rows p t ht
    obtain ⟨A', c', rfl⟩ := own_slice h2
    rw [rowsL, List.getElem?_map, h1] at hx
    simp at hx
    subst hx
    exact ⟨t, _, ht, h1, h2, h3, rfl⟩
  refine ⟨⟨by rw [rowsL, List.length_map]; omega, fun h0 => ?_⟩, hn, fun p x t hx ht => ?_⟩
  · have hown := h.own
    rcases h.own.2 with ⟨e, _⟩ | ⟨g, cap, cur, e, hg, hh, _⟩
    · cases e; omega
    · cases e
      refine ⟨g, 0, rfl, (Array.getElem?_eq_some_iff.1 hh).1, fun p x hx => ?_⟩
      obtain ⟨t, vp, ht, h1, _, _, e⟩ := each p x hx
      have hp := (List.getElem?_eq_some_iff.1 h1).1
      rw [Nat.zero_add, hown.cellAt p (by omega), h1, e]
  · obtain ⟨t', vp, ht', h1, h2, h3, e⟩ := each p x hx
    rw [ht] at ht'
    cases ht'
    obtain ⟨A', c', e', hbs, _⟩ := bs_of_own h2 h3
    rw [e'] at e
    injection e with e1 e2 e3
    rw [← e1, ← e2, ← e3]
    refine ⟨hbs, ?_⟩
    subst e'
    rcases h2.2 with ⟨e, h0⟩ | ⟨g, cap, cur, e, hg, hh, hn, hm, _⟩
    · injection e with e1 e2 e3
      exact ⟨by omega, by omega, fun _ => e3⟩
    · injection e with e1 e2 e3
      exact ⟨by omega, by omega, fun e => by rw [e1] at e; cases e⟩
section
variable (w : World) (A : Option Addr) (n c : Nat) (L : List (Option Addr × Nat × Nat)) (T : List (List (List Int)))
def OwnT (w : World) (n : Nat) (T : List (List (List Int))) (e : Ending) (w' : World) : Prop := ∃ A' c' L', e = .returned (tileV A' n c') ∧ Ti w' A' n L' T ∧ Below w.heap.size w w'
set_option maxRecDepth 10000 in
set_option maxHeartbeats 3200000 in
theorem own_any (hT : Ti w A n L T) (hn : n ≤ 4) (hlen : ∀ t ∈ T, t.length ≤ 100) : Calls Tryd.prog 10 #[tileV A n c] w (OwnT w n T) := by
  obtain ⟨w1, hw1⟩ : ∃ w1, ((w.alloc (.cells #[.slice A n c] 36)).alloc (.cells #[.slice none 0 0] 36)).alloc (.cells #[.slice none 0 0] 36) = w1 := ⟨_, rfl⟩
  obtain ⟨g1, hg1⟩ : ∃ g1, g1 = w.heap.size := ⟨_, rfl⟩
  have b1 : Box w1 g1 36 #[.slice A n c] := by rw [← hw1, hg1]; exact ((Box.made _ _ _).alloc _).alloc _
  have b2 : Box w1 (g1 + 1) 36 #[.slice none 0 0] := by
    rw [← hw1, hg1]; have := (Box.made (w.alloc (.cells #[.slice A n c] 36)) 36 #[.slice none 0 0]).alloc (.cells #[.slice none 0 0] 36); simpa using this
  have b3 : Box w1 (g1 + 1 + 1) 36 #[.slice none 0 0] := by
    rw [← hw1, hg1]; have := Box.made ((w.alloc (.cells #[.slice A n c] 36)).alloc (.cells #[.slice none 0 0] 36)) 36 #[.slice none 0 0]; simpa using this
  have k1 : Below w.heap.size w w1 := by rw [← hw1]; exact on_trans (on_trans (on_alloc _ _) (on_alloc _ _)) (on_alloc _ _)
  have hs1 : w1.heap.size = g1 + 1 + 1 + 1 := by rw [← hw1, hg1]; simp
  have r0 : w1.cell? ⟨w.heap.size, 0, none⟩ = some (.slice A n c) := by rw [← hg1]; exact b1.cell 0
  have HB := Lib.hid (And.intro k1 (And.intro (hT.on k1) (And.intro hg1 (And.intro b2 (And.intro b3 hs1)))))
  have hz36 : ∀ w, (zeroValue 36).run Tryd.prog w = .ok (.agg #[.slice none 0 0]) w := fun w => by kernel_rfl
  have HL := Lib.hid hlen
  have HT := Lib.hid hT
  clear b1 b2 b3 k1 hT hs1 hlen hg1
  unfold tileV
  go_enter Tryd.func10, Tryd.ntmps10
  go_wp2_with fail
  clear hw1 r0
  rw [← HB.out.2.2.1]
  go_loopw [9] (fun i wr => ∃ (k : Nat) (v : Value) (vs : List Value), k ≤ n ∧ i = .int .i64 (k : Int) ∧ Box wr (g1 + 1 + 1) 36 #[v] ∧ Rows4 wr (g1 + 1 + 1 + 1) v k (T.take k) vs ∧ Kept (fun i => i = g1 + 1 + 1) w1 wr) (fun i _ => n - (intOf i).toNat)
  case atStart => exact ⟨0, _, [], Nat.zero_le _, rfl, HB.out.2.2.2.2.1, ⟨⟨rfl, .inl ⟨rfl, rfl⟩⟩, rfl, fun p t ht => by simp at ht⟩, Kept.refl _ _⟩
  case round =>
    obtain ⟨k, v, vs, hk, rfl, hbx, hrw, hkp⟩ := hrel
    obtain ⟨Ao, co, rfl⟩ := own_slice hrw.own
    have hww : Below w.heap.size w wr := HB.out.1.trans (hkp.below HB.out.1.size (fun i hi e => by have := HB.out.2.2.1; omega))
    have r0 : wr.cell? ⟨g1 + 1 + 1, 0, none⟩ = some (.slice Ao k co) := hbx.cell 0
    have f0 : wr.frozen? ⟨g1 + 1 + 1, 0, none⟩ = false := hbx.free 0
    have HR := Lib.hid (And.intro hbx (And.intro hrw (And.intro hkp hww)))
    by_cases hlt : k < n
    · have hTi := HT.out.on hww
      obtain ⟨t, ht⟩ : ∃ t, T[k]? = some t := ⟨_, List.getElem?_eq_getElem (by rw [hTi.len]; exact hlt)⟩
      obtain ⟨x, hx⟩ : ∃ x, L[k]? = some x := ⟨_, List.getElem?_eq_getElem (by rw [hTi.pt.len]; exact hlt)⟩
      obtain ⟨x1, x2, x3⟩ := x
      obtain ⟨bb, off, rfl, hbb, hcell⟩ := hTi.pt.at_ (by omega)
      obtain ⟨hbs, hx23, hxm, hxn⟩ := hTi.row k _ t hx ht
      have s1 := hcell k _ hx
      dsimp only at hbs hx23 hxm hxn s1
      have hx100 : x2 ≤ 100 := by rw [← hbs.len]; exact HL.out t (List.mem_of_getElem? ht)
      have htk : T.take (k + 1) = T.take k ++ [t] := by rw [List.take_add_one, ht]; rfl
      obtain ⟨w2, hw2⟩ : ∃ w2, (wr.alloc (.cells #[] 25)).drew = w2 := ⟨_, rfl⟩
      have k2 : Below wr.heap.size wr w2 := by rw [← hw2]; exact on_trans (on_alloc _ _) (on_drew _)
      have r2 : w2.cell? ⟨g1 + 1 + 1, 0, none⟩ = some (.slice Ao k co) := (hbx.on k2).cell 0
      have hsz := hww.size
      have hsb : g1 + 1 + 1 + 1 ≤ wr.heap.size := by have := hkp.size; have := HB.out.2.2.2.2.2; omega
      have hem : w2.ownsRow (g1 + 1 + 1 + 1) 25 64 (.slice (some ⟨wr.heap.size, 0, none⟩) 0 0) 0 [] := by rw [← hw2]; exact ownsRow_on (World.ownsRow_made wr #[] 0 (by omega) (by unfold maxLen; omega) rfl) (on_drew _)
      have HX := Lib.hid (And.intro ht (And.intro hx (And.intro (hbs.on k2) (And.intro htk (And.intro hx23 hxn)))))
      have H2 := Lib.hid (And.intro k2 (And.intro hsb hem))
      clear hTi hcell hbs hx ht htk hx23 hxn hww hrw hkp hbx k2 hem
      go_wp2_with fail
      clear s1
      go_region_law
        (first
          | ((refine step_append_bs rfl (.tmp 15) (.tmp 16) rfl (g1 + 1 + 1 + 1) (.slice (some ⟨wr.heap.size, 0, none⟩) 0 0) rfl H2.out.2.2 x1 x2 x3 t rfl HX.out.2.2.1 HX.out.2.2.2.2.1 HX.out.2.2.2.2.2 (by omega) (Nat.le_trans H2.out.2.1 H2.out.1.size) (some 17) rfl ?_)
             intro v3 w3 hown3 k3
             obtain ⟨A3, c3, hv3⟩ := own_slice hown3
             subst hv3
             have k23 : Below wr.heap.size wr w3 := H2.out.1.trans (k3.below H2.out.1.size (fun i hi e => by cases e; exact Nat.lt_irrefl _ hi))
             obtain ⟨w4, hw4⟩ : ∃ w4, w3.alloc (.cells #[.slice A3 x2 c3] 61) = w4 := ⟨_, rfl⟩
             have k34 : Below w3.heap.size w3 w4 := by rw [← hw4]; exact on_alloc _ _
             have k24 := on_trans k23 k34
             have b4 : Box w4 w3.heap.size 61 #[.slice A3 x2 c3] := by rw [← hw4]; exact Box.made _ _ _
             have r3 : w3.cell? ⟨g1 + 1 + 1, 0, none⟩ = some (.slice Ao k co) := (HR.out.1.on k23).cell 0
             have r4 : w4.cell? ⟨g1 + 1 + 1, 0, none⟩ = some (.slice Ao k co) := (HR.out.1.on k24).cell 0
             have H4 := Lib.hid (And.intro (ownsRow_on hown3 k34) (And.intro k24 (And.intro b4 (HR.out.2.1.on k24))))
             clear hown3 k3 k23 k34 k24 b4)
          | ((refine step_append_gk el_rows rfl (.tmp 14) (.tmp 18) rfl (g1 + 1 + 1 + 1) (.slice Ao k co) k vs rfl H4.out.2.2.2.own ⟨w3.heap.size, 0, none⟩ 1 1 [.slice A3 x2 c3] rfl rfl (box_read H4.out.2.2.1) (by intro u hu; simp at hu; subst hu; rfl) (by omega) (Nat.le_trans H2.out.2.1 H4.out.2.1.size) (some 19) rfl ?_)
             intro v5 w5 hown5 k5
             obtain ⟨A5, c5, hv5⟩ := own_slice hown5
             subst hv5
             have hRw := H4.out.2.2.2.more hown5 k5 (by rw [HX.out.2.2.1.len]; exact H4.out.1) HX.out.2.2.1.wide
             have b5 : Box w5 (g1 + 1 + 1) 36 #[.slice Ao k co] := (HR.out.1.on H4.out.2.1).bel (k5.below (B := g1 + 1 + 1 + 1) (Nat.le_trans H2.out.2.1 H4.out.2.1.size) (fun i hi e => by have := (own_block3 H4.out.2.2.2.own e).1; omega)) (by omega)
             have r5 : w5.cell? ⟨g1 + 1 + 1, 0, none⟩ = some (.slice Ao k co) := b5.cell 0
             have f5 : w5.frozen? ⟨g1 + 1 + 1, 0, none⟩ = false := b5.free 0
             have H5 := Lib.hid (And.intro hRw (And.intro b5 k5))
             clear hown5 k5 hRw b5))
      all_goals
        have HN := Lib.hid (show Box (w5.setCell ⟨g1 + 1 + 1, 0, none⟩ (.slice A5 (k + 1) c5)) (g1 + 1 + 1) 36 #[.slice A5 (k + 1) c5] ∧ Rows4 (w5.setCell ⟨g1 + 1 + 1, 0, none⟩ (.slice A5 (k + 1) c5)) (g1 + 1 + 1 + 1) (.slice A5 (k + 1) c5) (k + 1) (T.take (k + 1)) (vs ++ [.slice A3 x2 c3]) ∧ Kept (fun i => i = g1 + 1 + 1) w1 (w5.setCell ⟨g1 + 1 + 1, 0, none⟩ (.slice A5 (k + 1) c5)) from by
          have hK := (Kept.refl (fun i => i = g1 + 1 + 1) w5).setCell (p := ⟨g1 + 1 + 1, 0, none⟩) (fun _ => rfl) (.slice A5 (k + 1) c5)
          refine ⟨H5.out.2.1.put 0 _, ?_, ?_⟩
          · rw [HX.out.2.2.2.1]
            exact H5.out.1.kept hK (fun i hi => by omega)
          · refine ((HR.out.2.2.1.trans (Kept.of_below H4.out.2.1 (fun i => i = g1 + 1 + 1)) (fun _ _ h => h)).trans (Kept.mono (S' := fun i => g1 + 1 + 1 + 1 ≤ i) H5.out.2.2 (fun i _ e => (own_block3 H4.out.2.2.2.own e).1)) (fun i hi h => ?_)).trans hK (fun _ _ h => h)
            have := HB.out.2.2.2.2.2
            omega)
        go_wp2_with fail
        go_roundw
        case rel => exact ⟨k + 1, _, _, by omega, by go_num, HN.out⟩
        case measure => simp [intOf]; omega
    · obtain rfl : k = n := by omega
      clear hww hrw hkp hbx
      have q2 : wr.cell? ⟨g1 + 1, 0, none⟩ = some (.slice none 0 0) := (HR.out.2.2.1.box HB.out.2.2.2.1 (by omega)).cell 0
      have f2 : wr.frozen? ⟨g1 + 1, 0, none⟩ = false := (HR.out.2.2.1.box HB.out.2.2.2.1 (by omega)).free 0
      go_wp2_with fail
      have hB2 : Box wr (g1 + 1) 36 #[.slice none 0 0] := HR.out.2.2.1.box HB.out.2.2.2.1 (by omega)
      have hb2 : Box (wr.setCell ⟨g1 + 1, 0, none⟩ (.slice Ao k co)) (g1 + 1) 36 #[.slice Ao k co] := hB2.put 0 _
      have hK : Kept (fun i => i = g1 + 1) wr (wr.setCell ⟨g1 + 1, 0, none⟩ (.slice Ao k co)) := (Kept.refl (fun i => i = g1 + 1) wr).setCell (p := ⟨g1 + 1, 0, none⟩) (fun _ => rfl) _
      refine bodyPost_ret (v := tileV Ao k co) (results_c (fn := Tryd.f10) Tryd.results10 _ _ (g1 + 1) _ rfl (loadVar_tile hb2)) rfl ?_
      have hR4 := HR.out.2.1.kept hK (fun i hi => by omega)
      rw [List.take_of_length_le (by rw [HB.out.2.1.len]; exact Nat.le_refl _)] at hR4
      exact ⟨Ao, co, _, rfl, hR4.ti, HR.out.2.2.2.trans (hK.below HR.out.2.2.2.size (fun i hi e => by have := HB.out.2.2.1; omega))⟩
end
end Go.Proofs.YtdnjnbfmmgkpjaaDoor
