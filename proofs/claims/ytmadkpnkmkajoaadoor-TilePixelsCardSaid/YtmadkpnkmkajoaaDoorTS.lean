/-
  Tiles of one's own, the reference's Same, tiles that are made part by part (taken over from layer 14).
-/
import Derived.Test.YtmadkpnkmkajoaaDoorP12B
import Derived.ChangeKeysEq
import Derived.Laws.StructEq
import Derived.Deep.RegionLaw
import Derived.BigRegion
namespace Go.Proofs.YtmadkpnkmkajoaaDoor
open Go.RowKit
set_option maxRecDepth 20000



/-- the cells of bytes -/
def cellsOf (l : List Int) : List Value := l.map (Value.int .u8)

theorem Bts.read {w : World} {K : Nat → Prop} {ad : Addr} {l : List Int} (h : Bts w K (some ad) l) : ∀ j u, (cellsOf l)[j]? = some u → w.cell? (ad.add j) = some u := by
  intro j u hu
  have hj : j < l.length := by
    have := (List.getElem?_eq_some_iff.1 hu).1
    simpa [cellsOf] using this
  obtain ⟨b, off, e, _, _, hc⟩ := h.at_ (by omega)
  injection e with e
  subst e
  have h1 := hc j hj
  have h2 : (⟨b, off, none⟩ : Addr).add j = ⟨b, off + j, none⟩ := by
    unfold Addr.add
    split
    · next h => subst h; simp
    · rfl
  rw [h2, h1]
  simp only [cellsOf, List.getElem?_map, List.getElem?_eq_getElem hj, Option.map_some, Option.some.injEq] at hu
  subst hu
  simp [List.getD_eq_getElem?_getD, List.getElem?_eq_getElem hj]



section
variable (w : World) (A A' : Option Addr) (n c n' c' : Nat) (prev : Int) (b : List Int)

end
theorem yieldsIf_load7 {ops : Array Oper} {S : World → Prop} {op : Oper} {a : Act} (hw : Region.wanted op (yielded ops a.tmps) = true) (t : TypeId) (x : Operand) (ho : op.op = .load t x) (u : Value) (hx : a.eval x = u) (v : Value)
    (h : ∀ w, S w → (Instr.loadAt t u).run Tryd.prog w = .ok v w) : YieldsIf Tryd.prog ops S op v a :=
  .inl ⟨hw, fun w hS => by
    unfold execOp
    simp only [ho, hx, Sem.run_bind, h w hS, Result.andThen_ok, Sem.run_pure]⟩



theorem el_rows : Elems 33 54 (.slice none 0 0) 1 24 := ⟨Tryd.underlying33, by kernel_rfl, rfl, by omega, by omega⟩
theorem el_blk : Elems 54 29 (blkV (List.replicate 64 0)) 64 512 := ⟨Tryd.underlying54, blk_info, rfl, by omega, by omega⟩
/-- blocks as what an append reads -/
theorem Bs.read {w : World} {b off m : Nat} {t : List (List Int)} (h : Bs w (some ⟨b, off, none⟩) m t) : ∀ j u, (blocksC t)[j]? = some u → w.cell? ((⟨b, off, none⟩ : Addr).add j) = some u := by
  intro j u hu
  have hj := (List.getElem?_eq_some_iff.1 hu).1
  rw [blocksC_len h.wide, h.len] at hj
  obtain ⟨x, hx⟩ : ∃ x, t[j / 64]? = some x := ⟨_, List.getElem?_eq_getElem (by rw [h.len]; omega)⟩
  obtain ⟨b', off', e, _, hc⟩ := h.at_ (by omega)
  cases e
  have h1 := hc (j / 64) x hx (j % 64) (by omega)
  have h2 := blocksC_at h.wide hx (show j % 64 < 64 by omega)
  rw [show j / 64 * 64 + j % 64 = j by omega] at h2
  rw [h2] at hu
  cases hu
  rw [plain_add, ← h1]
  congr 2
  omega
theorem blocksC_one (t : List (List Int)) : ∀ u ∈ blocksC t, u.oneCell' = true := by
  intro u hu
  obtain ⟨x, _, hx⟩ := List.mem_flatMap.1 hu
  exact cellsI_one x u hx
/-- an append of blocks to an empty row of one's own -/
theorem run_append_bs (w : World) (t0 : TypeId) (base : Nat) (v : Value) (hown : w.ownsRow base 29 64 v 0 []) (A : Option Addr) (m c : Nat) (t : List (List Int)) (hb : Bs w A m t) (hc : m ≤ c) (hn : A = none → c = 0) (h63 : m ≤ 1000000) (hbase : base ≤ w.heap.size) :
    ∃ v' w', (Builtin.append_ #[54, 54] t0 #[v, .slice A m c]).run Tryd.prog w = .ok v' w' ∧ w'.ownsRow base 29 64 v' m (blocksC t) ∧ Kept (fun i => v.ownBlock = some i) w w' := by
  cases A with
  | none =>
    obtain rfl := hn rfl
    obtain rfl : m = 0 := by omega
    obtain rfl : t = [] := List.eq_nil_of_length_eq_zero hb.len
    obtain ⟨i0, hi0, _⟩ := Option.map_eq_some_iff.1 blk_info
    exact ⟨v, w, run_append_owned_none (P := Tryd.prog) (w := w) base 54 t0 29 i0 64 Tryd.underlying54 hi0 v 0 [] hown, hown, Kept.refl _ _⟩
  | some ad =>
    obtain ⟨b, off, sp⟩ := ad
    by_cases h0 : 0 < m
    · obtain ⟨b', off', e, _, _⟩ := hb.at_ h0
      cases e
      obtain ⟨v', w', h1, h2, h3⟩ := run_append_gk el_blk w t0 base v 0 [] hown ⟨b, off, none⟩ m c (blocksC t) (by rw [blocksC_len hb.wide, hb.len, Nat.mul_comm]) hb.read (blocksC_one t) (by omega) hbase
      rw [Nat.zero_add, List.nil_append] at h2
      exact ⟨v', w', h1, h2, h3⟩
    · obtain rfl : m = 0 := by omega
      obtain rfl : t = [] := List.eq_nil_of_length_eq_zero hb.len
      obtain ⟨v', w', h1, h2, h3⟩ := run_append_gk el_blk w t0 base v 0 [] hown ⟨b, off, sp⟩ 0 c [] rfl (fun j u hu => by simp at hu) (fun u hu => by simp at hu) (by omega) hbase
      exact ⟨v', w', h1, h2, h3⟩
theorem step_append_bs {ops : Array Oper} {o : Oper} {a : Act} {w : World} {K : Act → World → Prop} {Q : Exit → Act → World → Prop} {F : Prop} (hgd : o.guard = none) (s x : Operand)
    (ho : o.op = .call { callee := .builtin .append, args := #[s, x], argTypes := #[54, 54] }) (base : Nat) (v : Value) (hs : a.eval s = v) (hown : w.ownsRow base 29 64 v 0 []) (A : Option Addr) (m c : Nat) (t : List (List Int))
    (hx : a.eval x = .slice A m c) (hb : Bs w A m t) (hc : m ≤ c) (hn : A = none → c = 0) (h63 : m ≤ 1000000) (hbase : base ≤ w.heap.size) (d : Option Tmp) (hd : o.dst = d)
    (h : ∀ v' w', w'.ownsRow base 29 64 v' m (blocksC t) → Kept (fun i => v.ownBlock = some i) w w' → K (a.put d v') w') :
    if Region.wanted o (yielded ops a.tmps) = true then Oper.wp Tryd.prog o a w K Q else F := by
  have hw : Region.wanted o (yielded ops a.tmps) = true := by simp [Region.wanted, hgd]
  rw [if_pos hw]
  subst hd
  obtain ⟨v', w', h0, h1, h2⟩ := run_append_bs w o.type base v hown A m c t hb hc hn h63 hbase
  unfold Oper.wp
  simp [execOp, ho, resolve, invoke, builtin, hs, hx, h0, Result.andThen]
  exact h v' w' h1 h2
/-- rows of blocks in a row of one's own -/
structure Rows4 (w : World) (base : Nat) (v : Value) (n : Nat) (T : List (List (List Int))) (vs : List Value) : Prop where
  own : w.ownsRow base 54 1 v n vs
  len : T.length = n
  rows : ∀ (p : Nat) (t : List (List Int)), T[p]? = some t → ∃ vp, vs[p]? = some vp ∧ w.ownsRow base 29 64 vp t.length (blocksC t) ∧ ∀ b ∈ t, b.length = 64
theorem ownsRow_on {w w' : World} {base e size n : Nat} {v : Value} {xs : List Value} (h : w.ownsRow base e size v n xs) (k : Below w.heap.size w w') : w'.ownsRow base e size v n xs :=
  ownsRow_block h fun _ _ _ hb => k.block _ (Array.getElem?_eq_some_iff.1 hb).1
theorem Rows4.on {w w' : World} {base n : Nat} {v : Value} {T : List (List (List Int))} {vs : List Value} (h : Rows4 w base v n T vs) (k : Below w.heap.size w w') : Rows4 w' base v n T vs :=
  ⟨ownsRow_on h.own k, h.len, fun p t ht => by
    obtain ⟨vp, h1, h2, h3⟩ := h.rows p t ht
    exact ⟨vp, h1, ownsRow_on h2 k, h3⟩⟩
theorem Rows4.kept {S : Nat → Prop} {w w' : World} {base n : Nat} {v : Value} {T : List (List (List Int))} {vs : List Value} (h : Rows4 w base v n T vs) (k : Kept S w w') (hS : ∀ i, S i → i < base) : Rows4 w' base v n T vs :=
  ⟨ownsRow_block h.own fun g _ hg hb => k.block g (Array.getElem?_eq_some_iff.1 hb).1 (fun e => by have := hS g e; have := (own_block3 h.own hg).1; omega), h.len, fun p t ht => by
    obtain ⟨vp, h1, h2, h3⟩ := h.rows p t ht
    exact ⟨vp, h1, ownsRow_block h2 fun g _ hg hb => k.block g (Array.getElem?_eq_some_iff.1 hb).1 (fun e => by have := hS g e; have := (own_block3 h2 hg).1; omega), h3⟩⟩
theorem tile_size : (Tryd.prog.info? 35).map (·.size) = some 1 := by kernel_rfl
theorem loadVar_tile {w : World} {g : Nat} {v : Value} (h : Box w g 35 #[v]) : (loadVar 35 ⟨g, 0, none⟩).run Tryd.prog w = .ok (.agg #[v]) w :=
  run_loadVar_row w g 35 35 _ (0, 0) _ h Tryd.underlying35 rfl (by rw [tile_size]; rfl)
/-- a row's own block: of its type -/
theorem own_typ {w : World} {base e size n g : Nat} {v : Value} {xs : List Value} (h : w.ownsRow base e size v n xs) (hg : v.ownBlock = some g) : base ≤ g ∧ g < w.heap.size ∧ ∃ cs, w.heap[g]? = some (.cells cs e (0, 0)) := by
  obtain ⟨h1, cs, h2⟩ := own_block3 h hg
  exact ⟨h1, (Array.getElem?_eq_some_iff.1 h2).1, cs, h2⟩
theorem Rows4.more {w w' : World} {base n : Nat} {v v' vp : Value} {T : List (List (List Int))} {vs : List Value} {t : List (List Int)} (h : Rows4 w base v n T vs) (hown : w'.ownsRow base 54 1 v' (n + 1) (vs ++ [vp])) (k : Kept (fun i => v.ownBlock = some i) w w')
    (hp : w.ownsRow base 29 64 vp t.length (blocksC t)) (ht : ∀ b ∈ t, b.length = 64) : Rows4 w' base v' (n + 1) (T ++ [t]) (vs ++ [vp]) := by
  have hlen : vs.length = T.length := by have := h.own.1; have := h.len; omega
  have keep : ∀ {u : Value} {n : Nat} {xs : List Value}, w.ownsRow base 29 64 u n xs → w'.ownsRow base 29 64 u n xs := fun hu => ownsRow_block hu fun g cs hg hb => k.block g (Array.getElem?_eq_some_iff.1 hb).1 (fun e => by
    obtain ⟨_, _, cs2, h2⟩ := own_typ h.own e
    rw [hb] at h2
    cases h2)
  refine ⟨hown, by rw [List.length_append, h.len]; rfl, fun p t' ht' => ?_⟩
  rcases Nat.lt_or_ge p T.length with hl | hl
  · rw [List.getElem?_append_left hl] at ht'
    obtain ⟨vq, h1, h2, h3⟩ := h.rows p t' ht'
    exact ⟨vq, by rw [List.getElem?_append_left (by omega)]; exact h1, keep h2, h3⟩
  · rw [List.getElem?_append_right hl] at ht'
    have hpl : p - T.length = 0 := by have := (List.getElem?_eq_some_iff.1 ht').1; simp at this; omega
    rw [hpl] at ht'
    simp at ht'
    subst ht'
    exact ⟨vp, by rw [List.getElem?_append_right (by omega), hlen, hpl]; rfl, keep hp, ht⟩
/-- how the rows of a tile of one's own lie -/
def rowsL (vs : List Value) : List (Option Addr × Nat × Nat) := vs.map fun v => match v with | .slice A n c => (A, n, c) | _ => (none, 0, 0)
theorem Rows4.ti {w : World} {base n c : Nat} {A : Option Addr} {T : List (List (List Int))} {vs : List Value} (h : Rows4 w base (.slice A n c) n T vs) : Ti w A n (rowsL vs) T := by
  have hn := h.len
  have hlen : vs.length = T.length := by have := h.own.1; omega
  have each : ∀ (p : Nat) (x : Option Addr × Nat × Nat), (rowsL vs)[p]? = some x → ∃ t vp, T[p]? = some t ∧ vs[p]? = some vp ∧ w.ownsRow base 29 64 vp t.length (blocksC t) ∧ (∀ b ∈ t, b.length = 64) ∧ vp = .slice x.1 x.2.1 x.2.2 := by
    intro p x hx
    have hp : p < vs.length := by have := (List.getElem?_eq_some_iff.1 hx).1; simpa [rowsL] using this
    obtain ⟨t, ht⟩ : ∃ t, T[p]? = some t := ⟨_, List.getElem?_eq_getElem (by omega)⟩
    obtain ⟨vp, h1, h2, h3⟩ := h.rows p t ht
    obtain ⟨A', c', rfl⟩ := own_slice h2
    rw [rowsL, List.getElem?_map, h1] at hx
    simp at hx
    subst hx
    exact ⟨t, _, ht, h1, h2, h3, rfl⟩
  refine ⟨⟨by rw [rowsL, List.length_map]; omega, fun h0 => ?_⟩, hn, fun p x t hx ht => ?_⟩
  · have hown := h.own
    rcases h.own.2 with ⟨e, _⟩ | ⟨g, cap, cur, e, hg, hh, _⟩
    · cases e; omega
    · cases e
      refine ⟨g, 0, rfl, (Array.getElem?_eq_some_iff.1 hh).1, fun p x hx => ?_⟩
      obtain ⟨t, vp, ht, h1, _, _, e⟩ := each p x hx
      have hp := (List.getElem?_eq_some_iff.1 h1).1
      rw [Nat.zero_add, hown.cellAt p (by omega), h1, e]
  · obtain ⟨t', vp, ht', h1, h2, h3, e⟩ := each p x hx
    rw [ht] at ht'
    cases ht'
    obtain ⟨A', c', e', hbs, _⟩ := bs_of_own h2 h3
    rw [e'] at e
    injection e with e1 e2 e3
    rw [← e1, ← e2, ← e3]
    refine ⟨hbs, ?_⟩
    subst e'
    rcases h2.2 with ⟨e, h0⟩ | ⟨g, cap, cur, e, hg, hh, hn, hm, _⟩
    · injection e with e1 e2 e3
      exact ⟨by omega, by omega, fun _ => e3⟩
    · injection e with e1 e2 e3
      exact ⟨by omega, by omega, fun e => by rw [e1] at e; cases e⟩
section
variable (w : World) (A : Option Addr) (n c : Nat) (L : List (Option Addr × Nat × Nat)) (T : List (List (List Int)))
def OwnT (w : World) (n : Nat) (T : List (List (List Int))) (e : Ending) (w' : World) : Prop := ∃ A' c' L', e = .returned (tileV A' n c') ∧ Ti w' A' n L' T ∧ Below w.heap.size w w'
set_option maxRecDepth 10000 in
set_option maxHeartbeats 3200000 in
theorem own_any (hT : Ti w A n L T) (hn : n ≤ 4) (hlen : ∀ t ∈ T, t.length ≤ 100) : Calls Tryd.prog 19 #[tileV A n c] w (OwnT w n T) := by
  obtain ⟨w1, hw1⟩ : ∃ w1, ((w.alloc (.cells #[.slice A n c] 35)).alloc (.cells #[.slice none 0 0] 35)).alloc (.cells #[.slice none 0 0] 35) = w1 := ⟨_, rfl⟩
  obtain ⟨g1, hg1⟩ : ∃ g1, g1 = w.heap.size := ⟨_, rfl⟩
  have b1 : Box w1 g1 35 #[.slice A n c] := by rw [← hw1, hg1]; exact ((Box.made _ _ _).alloc _).alloc _
  have b2 : Box w1 (g1 + 1) 35 #[.slice none 0 0] := by
    rw [← hw1, hg1]; have := (Box.made (w.alloc (.cells #[.slice A n c] 35)) 35 #[.slice none 0 0]).alloc (.cells #[.slice none 0 0] 35); simpa using this
  have b3 : Box w1 (g1 + 1 + 1) 35 #[.slice none 0 0] := by
    rw [← hw1, hg1]; have := Box.made ((w.alloc (.cells #[.slice A n c] 35)).alloc (.cells #[.slice none 0 0] 35)) 35 #[.slice none 0 0]; simpa using this
  have k1 : Below w.heap.size w w1 := by rw [← hw1]; exact on_trans (on_trans (on_alloc _ _) (on_alloc _ _)) (on_alloc _ _)
  have hs1 : w1.heap.size = g1 + 1 + 1 + 1 := by rw [← hw1, hg1]; simp
  have r0 : w1.cell? ⟨w.heap.size, 0, none⟩ = some (.slice A n c) := by rw [← hg1]; exact b1.cell 0
  have HB := Lib.hid (And.intro k1 (And.intro (hT.on k1) (And.intro hg1 (And.intro b2 (And.intro b3 hs1)))))
  have hz36 : ∀ w, (zeroValue 35).run Tryd.prog w = .ok (.agg #[.slice none 0 0]) w := fun w => by kernel_rfl
  have HL := Lib.hid hlen
  have HT := Lib.hid hT
  clear b1 b2 b3 k1 hT hs1 hlen hg1
  unfold tileV
  go_enter Tryd.func19, Tryd.ntmps19
  go_wp2_with fail
  clear hw1 r0
  rw [← HB.out.2.2.1]
  go_loopw [9] (fun i wr => ∃ (k : Nat) (v : Value) (vs : List Value), k ≤ n ∧ i = .int .i64 (k : Int) ∧ Box wr (g1 + 1 + 1) 35 #[v] ∧ Rows4 wr (g1 + 1 + 1 + 1) v k (T.take k) vs ∧ Kept (fun i => i = g1 + 1 + 1) w1 wr) (fun i _ => n - (intOf i).toNat)
  case atStart => exact ⟨0, _, [], Nat.zero_le _, rfl, HB.out.2.2.2.2.1, ⟨⟨rfl, .inl ⟨rfl, rfl⟩⟩, rfl, fun p t ht => by simp at ht⟩, Kept.refl _ _⟩
  case round =>
    obtain ⟨k, v, vs, hk, rfl, hbx, hrw, hkp⟩ := hrel
    obtain ⟨Ao, co, rfl⟩ := own_slice hrw.own
    have hww : Below w.heap.size w wr := HB.out.1.trans (hkp.below HB.out.1.size (fun i hi e => by have := HB.out.2.2.1; omega))
    have r0 : wr.cell? ⟨g1 + 1 + 1, 0, none⟩ = some (.slice Ao k co) := hbx.cell 0
    have f0 : wr.frozen? ⟨g1 + 1 + 1, 0, none⟩ = false := hbx.free 0
    have HR := Lib.hid (And.intro hbx (And.intro hrw (And.intro hkp hww)))
    by_cases hlt : k < n
    · have hTi := HT.out.on hww
      obtain ⟨t, ht⟩ : ∃ t, T[k]? = some t := ⟨_, List.getElem?_eq_getElem (by rw [hTi.len]; exact hlt)⟩
      obtain ⟨x, hx⟩ : ∃ x, L[k]? = some x := ⟨_, List.getElem?_eq_getElem (by rw [hTi.pt.len]; exact hlt)⟩
      obtain ⟨x1, x2, x3⟩ := x
      obtain ⟨bb, off, rfl, hbb, hcell⟩ := hTi.pt.at_ (by omega)
      obtain ⟨hbs, hx23, hxm, hxn⟩ := hTi.row k _ t hx ht
      have s1 := hcell k _ hx
      dsimp only at hbs hx23 hxm hxn s1
      have hx100 : x2 ≤ 100 := by rw [← hbs.len]; exact HL.out t (List.mem_of_getElem? ht)
      have htk : T.take (k + 1) = T.take k ++ [t] := by rw [List.take_add_one, ht]; rfl
      obtain ⟨w2, hw2⟩ : ∃ w2, (wr.alloc (.cells #[] 29)).drew = w2 := ⟨_, rfl⟩
      have k2 : Below wr.heap.size wr w2 := by rw [← hw2]; exact on_trans (on_alloc _ _) (on_drew _)
      have r2 : w2.cell? ⟨g1 + 1 + 1, 0, none⟩ = some (.slice Ao k co) := (hbx.on k2).cell 0
      have hsz := hww.size
      have hsb : g1 + 1 + 1 + 1 ≤ wr.heap.size := by have := hkp.size; have := HB.out.2.2.2.2.2; omega
      have hem : w2.ownsRow (g1 + 1 + 1 + 1) 29 64 (.slice (some ⟨wr.heap.size, 0, none⟩) 0 0) 0 [] := by rw [← hw2]; exact ownsRow_on (World.ownsRow_made wr #[] 0 (by omega) (by unfold maxLen; omega) rfl) (on_drew _)
      have HX := Lib.hid (And.intro ht (And.intro hx (And.intro (hbs.on k2) (And.intro htk (And.intro hx23 hxn)))))
      have H2 := Lib.hid (And.intro k2 (And.intro hsb hem))
      clear hTi hcell hbs hx ht htk hx23 hxn hww hrw hkp hbx k2 hem
      go_wp2_with fail
      clear s1
      go_region_law
        (first
          | ((refine step_append_bs rfl (.tmp 15) (.tmp 16) rfl (g1 + 1 + 1 + 1) (.slice (some ⟨wr.heap.size, 0, none⟩) 0 0) rfl H2.out.2.2 x1 x2 x3 t rfl HX.out.2.2.1 HX.out.2.2.2.2.1 HX.out.2.2.2.2.2 (by omega) (Nat.le_trans H2.out.2.1 H2.out.1.size) (some 17) rfl ?_)
             intro v3 w3 hown3 k3
             obtain ⟨A3, c3, hv3⟩ := own_slice hown3
             subst hv3
             have k23 : Below wr.heap.size wr w3 := H2.out.1.trans (k3.below H2.out.1.size (fun i hi e => by cases e; exact Nat.lt_irrefl _ hi))
             obtain ⟨w4, hw4⟩ : ∃ w4, w3.alloc (.cells #[.slice A3 x2 c3] 54) = w4 := ⟨_, rfl⟩
             have k34 : Below w3.heap.size w3 w4 := by rw [← hw4]; exact on_alloc _ _
             have k24 := on_trans k23 k34
             have b4 : Box w4 w3.heap.size 54 #[.slice A3 x2 c3] := by rw [← hw4]; exact Box.made _ _ _
             have r3 : w3.cell? ⟨g1 + 1 + 1, 0, none⟩ = some (.slice Ao k co) := (HR.out.1.on k23).cell 0
             have r4 : w4.cell? ⟨g1 + 1 + 1, 0, none⟩ = some (.slice Ao k co) := (HR.out.1.on k24).cell 0
             have H4 := Lib.hid (And.intro (ownsRow_on hown3 k34) (And.intro k24 (And.intro b4 (HR.out.2.1.on k24))))
             clear hown3 k3 k23 k34 k24 b4)
          | ((refine step_append_gk el_rows rfl (.tmp 14) (.tmp 18) rfl (g1 + 1 + 1 + 1) (.slice Ao k co) k vs rfl H4.out.2.2.2.own ⟨w3.heap.size, 0, none⟩ 1 1 [.slice A3 x2 c3] rfl rfl (box_read H4.out.2.2.1) (by intro u hu; simp at hu; subst hu; rfl) (by omega) (Nat.le_trans H2.out.2.1 H4.out.2.1.size) (some 19) rfl ?_)
             intro v5 w5 hown5 k5
             obtain ⟨A5, c5, hv5⟩ := own_slice hown5
             subst hv5
             have hRw := H4.out.2.2.2.more hown5 k5 (by rw [HX.out.2.2.1.len]; exact H4.out.1) HX.out.2.2.1.wide
             have b5 : Box w5 (g1 + 1 + 1) 35 #[.slice Ao k co] := (HR.out.1.on H4.out.2.1).bel (k5.below (B := g1 + 1 + 1 + 1) (Nat.le_trans H2.out.2.1 H4.out.2.1.size) (fun i hi e => by have := (own_block3 H4.out.2.2.2.own e).1; omega)) (by omega)
             have r5 : w5.cell? ⟨g1 + 1 + 1, 0, none⟩ = some (.slice Ao k co) := b5.cell 0
             have f5 : w5.frozen? ⟨g1 + 1 + 1, 0, none⟩ = false := b5.free 0
             have H5 := Lib.hid (And.intro hRw (And.intro b5 k5))
             clear hown5 k5 hRw b5))
      all_goals
        have HN := Lib.hid (show Box (w5.setCell ⟨g1 + 1 + 1, 0, none⟩ (.slice A5 (k + 1) c5)) (g1 + 1 + 1) 35 #[.slice A5 (k + 1) c5] ∧ Rows4 (w5.setCell ⟨g1 + 1 + 1, 0, none⟩ (.slice A5 (k + 1) c5)) (g1 + 1 + 1 + 1) (.slice A5 (k + 1) c5) (k + 1) (T.take (k + 1)) (vs ++ [.slice A3 x2 c3]) ∧ Kept (fun i => i = g1 + 1 + 1) w1 (w5.setCell ⟨g1 + 1 + 1, 0, none⟩ (.slice A5 (k + 1) c5)) from by
          have hK := (Kept.refl (fun i => i = g1 + 1 + 1) w5).setCell (p := ⟨g1 + 1 + 1, 0, none⟩) (fun _ => rfl) (.slice A5 (k + 1) c5)
          refine ⟨H5.out.2.1.put 0 _, ?_, ?_⟩
          · rw [HX.out.2.2.2.1]
            exact H5.out.1.kept hK (fun i hi => by omega)
          · refine ((HR.out.2.2.1.trans (Kept.of_below H4.out.2.1 (fun i => i = g1 + 1 + 1)) (fun _ _ h => h)).trans (Kept.mono (S' := fun i => g1 + 1 + 1 + 1 ≤ i) H5.out.2.2 (fun i _ e => (own_block3 H4.out.2.2.2.own e).1)) (fun i hi h => ?_)).trans hK (fun _ _ h => h)
            have := HB.out.2.2.2.2.2
            omega)
        go_wp2_with fail
        go_roundw
        case rel => exact ⟨k + 1, _, _, by omega, by go_num, HN.out⟩
        case measure => simp [intOf]; omega
    · obtain rfl : k = n := by omega
      clear hww hrw hkp hbx
      have q2 : wr.cell? ⟨g1 + 1, 0, none⟩ = some (.slice none 0 0) := (HR.out.2.2.1.box HB.out.2.2.2.1 (by omega)).cell 0
      have f2 : wr.frozen? ⟨g1 + 1, 0, none⟩ = false := (HR.out.2.2.1.box HB.out.2.2.2.1 (by omega)).free 0
      go_wp2_with fail
      have hB2 : Box wr (g1 + 1) 35 #[.slice none 0 0] := HR.out.2.2.1.box HB.out.2.2.2.1 (by omega)
      have hb2 : Box (wr.setCell ⟨g1 + 1, 0, none⟩ (.slice Ao k co)) (g1 + 1) 35 #[.slice Ao k co] := hB2.put 0 _
      have hK : Kept (fun i => i = g1 + 1) wr (wr.setCell ⟨g1 + 1, 0, none⟩ (.slice Ao k co)) := (Kept.refl (fun i => i = g1 + 1) wr).setCell (p := ⟨g1 + 1, 0, none⟩) (fun _ => rfl) _
      refine bodyPost_ret (v := tileV Ao k co) (results_c (fn := Tryd.f19) Tryd.results19 _ _ (g1 + 1) _ rfl (loadVar_tile hb2)) rfl ?_
      have hR4 := HR.out.2.1.kept hK (fun i hi => by omega)
      rw [List.take_of_length_le (by rw [HB.out.2.1.len]; exact Nat.le_refl _)] at hR4
      exact ⟨Ao, co, _, rfl, hR4.ti, HR.out.2.2.2.trans (hK.below HR.out.2.2.2.size (fun i hi e => by have := HB.out.2.2.1; omega))⟩
end
/-- two equal blocks are not unlike: the operation may be taken first -/
theorem yieldsIf_neq25 {ops : Array Oper} {S : World → Prop} {op : Oper} {a : Act} (hw : Region.wanted op (yielded ops a.tmps) = true) (x y : Operand) (ho : op.op = .binOp .neq 29 x y 29)
    (B : List Int) (hB : B.length = 64) (hx : a.eval x = blkV B) (hy : a.eval y = blkV B) : YieldsIf Tryd.prog ops S op (.bool false) a :=
  .inl ⟨hw, fun w _ => by
    have hg : Tryd.prog.eqGuardType Tryd.prog.depth 29 = false := by kernel_rfl
    unfold execOp
    unfold blkV at hx hy
    have he := blk_equal w hB
    unfold blkV at he
    simp only [ho, hx, hy, Sem.run_bind, run_eqGuard_agg w .neq 29 x y _ _ hg, run_neq_struct, he, Result.andThen_ok]
    rfl⟩


section
variable (w : World) (A A' : Option Addr) (n c c' : Nat) (L L' : List (Option Addr × Nat × Nat)) (T : List (List (List Int)))
set_option maxRecDepth 10000 in
set_option maxHeartbeats 3200000 in
theorem same_any (hT : Ti w A n L T) (hT' : Ti w A' n L' T) (hn : n ≤ 4) (hlen : ∀ t ∈ T, t.length ≤ 100) : Calls Tryd.prog 14 #[tileV A n c, tileV A' n c'] w fun e w' => e = .returned (.bool true) ∧ Below w.heap.size w w' := by
  obtain ⟨w1, hw1⟩ : ∃ w1, (w.alloc (.cells #[.slice A n c] 35)).alloc (.cells #[.slice A' n c'] 35) = w1 := ⟨_, rfl⟩
  obtain ⟨g1, hg1⟩ : ∃ g1, g1 = w.heap.size := ⟨_, rfl⟩
  have b1 : Box w1 g1 35 #[.slice A n c] := by rw [← hw1, hg1]; exact (Box.made _ _ _).alloc _
  have b2 : Box w1 (g1 + 1) 35 #[.slice A' n c'] := by rw [← hw1, hg1]; have := Box.made (w.alloc (.cells #[.slice A n c] 35)) 35 #[.slice A' n c']; simpa using this
  have k1 : Below w.heap.size w w1 := by rw [← hw1]; exact on_trans (on_alloc _ _) (on_alloc _ _)
  have r1 : w1.cell? ⟨g1, 0, none⟩ = some (.slice A n c) := b1.cell 0
  have r2 : w1.cell? ⟨g1 + 1, 0, none⟩ = some (.slice A' n c') := b2.cell 0
  have HB := Lib.hid (And.intro b1 (And.intro b2 (And.intro k1 (And.intro (hT.on k1) (hT'.on k1)))))
  have HL := Lib.hid hlen
  have e0 : ((n : Int) != (n : Int)) = false := by simp
  rw [← hg1] at HB
  have hsz : w.heap.size = g1 := hg1.symm
  clear b1 b2 k1 hT hT' hlen hg1
  unfold tileV
  go_enter Tryd.func14, Tryd.ntmps14
  go_wp2_with fail
  have HG := Lib.hid hsz
  clear hw1 hsz
  go_loopw [5] (fun i wr => ∃ k : Nat, k ≤ n ∧ i = .int .i64 (k : Int) ∧ Below w1.heap.size w1 wr) (fun i _ => n - (intOf i).toNat)
  case atStart => exact ⟨0, Nat.zero_le _, rfl, Below.refl _ _⟩
  case round =>
    obtain ⟨wo, rfl⟩ : ∃ wo, wo = wr := ⟨_, rfl⟩
    obtain ⟨k, hk, rfl, hbl⟩ := hrel
    clear r1 r2
    have r1 : wo.cell? ⟨g1, 0, none⟩ = some (.slice A n c) := (HB.out.1.on hbl).cell 0
    have r2 : wo.cell? ⟨g1 + 1, 0, none⟩ = some (.slice A' n c') := (HB.out.2.1.on hbl).cell 0
    by_cases hlt : k < n
    · obtain ⟨t, ht⟩ : ∃ t, T[k]? = some t := ⟨_, List.getElem?_eq_getElem (by rw [HB.out.2.2.2.1.len]; exact hlt)⟩
      obtain ⟨x, hx⟩ : ∃ x, L[k]? = some x := ⟨_, List.getElem?_eq_getElem (by rw [HB.out.2.2.2.1.pt.len]; exact hlt)⟩
      obtain ⟨z, hz⟩ : ∃ z, L'[k]? = some z := ⟨_, List.getElem?_eq_getElem (by rw [HB.out.2.2.2.2.pt.len]; exact hlt)⟩
      obtain ⟨x1, m, xc⟩ := x
      obtain ⟨z1, m', zc⟩ := z
      obtain ⟨ba, oa, rfl, hba, hca⟩ := HB.out.2.2.2.1.pt.at_ (by omega)
      obtain ⟨bb, ob, rfl, hbb, hcb⟩ := HB.out.2.2.2.2.pt.at_ (by omega)
      obtain ⟨hbx, hxm, hxc, _⟩ := HB.out.2.2.2.1.row k _ t hx ht
      obtain ⟨hbz, hzm, hzc, _⟩ := HB.out.2.2.2.2.row k _ t hz ht
      dsimp only at hbx hbz hxm hxc hzm hzc
      obtain rfl : m = m' := by rw [← hbx.len, hbz.len]
      have s1 : wo.cell? ⟨ba, oa + k, none⟩ = some (.slice x1 m xc) := (hbl.cell hba).trans (hca k _ hx)
      have s2 : wo.cell? ⟨bb, ob + k, none⟩ = some (.slice z1 m zc) := (hbl.cell hbb).trans (hcb k _ hz)
      have hm100 : m ≤ 100 := by rw [← hbx.len]; exact HL.out t (List.mem_of_getElem? ht)
      have HX := Lib.hid (And.intro hbl (And.intro hbx (And.intro hbz ht)))
      have HF := Lib.hid (fun w' (h : Below wo.heap.size wo w') => (show w'.cell? ⟨g1, 0, none⟩ = some (.slice (some ⟨ba, oa, none⟩) n c) ∧ w'.cell? ⟨g1 + 1, 0, none⟩ = some (.slice (some ⟨bb, ob, none⟩) n c') ∧ w'.cell? ⟨ba, oa + k, none⟩ = some (.slice x1 m xc) ∧ w'.cell? ⟨bb, ob + k, none⟩ = some (.slice z1 m zc) from
        ⟨((HB.out.1.on hbl).on h).cell 0, ((HB.out.2.1.on hbl).on h).cell 0, (h.cell (World.block_lt_of_cell? _ _ s1)).trans s1, (h.cell (World.block_lt_of_cell? _ _ s2)).trans s2⟩))
      have e1 : ((m : Int) != (m : Int)) = false := by simp
      clear hca hcb hbx hbz hx hz ht hbl hba hbb
      go_wp2_with fail
      go_quiet (fail)
      obtain ⟨w3, hw3⟩ : ∃ w3, w3 = wo.drewN nq := ⟨_, rfl⟩
      have k3 : Below wo.heap.size wo w3 := by rw [hw3]; exact below_drewN_refl _ _
      rw [← hw3]
      have H3 := Lib.hid k3
      clear hw3 k3 r1 r2 s1 s2
      go_wp2_with fail
      go_loopw [6] (fun i wr => ∃ j : Nat, j ≤ m ∧ i = .int .i64 (j : Int) ∧ Below wo.heap.size wo wr) (fun i _ => m - (intOf i).toNat)
      case atStart => exact ⟨0, Nat.zero_le _, rfl, H3.out⟩
      case round =>
        obtain ⟨j, hj, rfl, hbl⟩ := hrel
        obtain ⟨r1, r2, s1, s2⟩ := HF.out wr hbl
        have HW := Lib.hid hbl
        by_cases hjl : j < m
        · have hbx := HX.out.2.1.on HX.out.1
          have hbz := HX.out.2.2.1.on HX.out.1
          obtain ⟨y, hy⟩ : ∃ y, t[j]? = some y := ⟨_, List.getElem?_eq_getElem (by rw [hbx.len]; exact hjl)⟩
          obtain ⟨bx, ox, rfl, _, _⟩ := hbx.at_ (by omega)
          obtain ⟨bz, oz, rfl, _, _⟩ := hbz.at_ (by omega)
          have HC := Lib.hid (fun w' (h : Below wr.heap.size wr w') => HF.out w' (hbl.trans (h.mono hbl.size)))
          have HY := Lib.hid (And.intro (fun w' (h : Below wr.heap.size wr w') => (hbx.on (hbl.trans (h.mono hbl.size)))) (And.intro (fun w' (h : Below wr.heap.size wr w') => (hbz.on (hbl.trans (h.mono hbl.size)))) (And.intro hy (hbx.wide y (List.mem_of_getElem? hy)))))
          have q0 : Hid (Below wr.heap.size wr wr.drew) := Lib.hid (on_drew wr)
          clear hbx hbz hy hbl
          go_wp2_with fail
          clear r1 r2 s1 s2
          refine wp_region_held_drew (S := fun w' => Hid (Below wr.heap.size wr w')) (by kernel_rfl) q0 fun q0 => ?_
          refine take_to (i := 0) (v := .pointer (some ⟨g1, 0, none⟩)) rfl (by kernel_rfl) (by kernel_rfl) (by kernel_rfl) (fun _ _ _ h => h) (Or.inl ⟨by rfl, fun w' hS => by go_simp⟩) q0 (some 44) rfl ?_
          try simp only [Act.put, List.setIfInBounds_toArray, List.set_cons_zero, List.set_cons_succ]
          refine take_to (i := 1) (v := .slice (some ⟨ba, oa, none⟩) n c) rfl (by kernel_rfl) (by kernel_rfl) (by kernel_rfl) (fun _ _ _ h => h) (Or.inl ⟨by rfl, fun w' hS => by have := (HC.out w' hS.out).1; go_simp⟩) q0 (some 45) rfl ?_
          try simp only [Act.put, List.setIfInBounds_toArray, List.set_cons_zero, List.set_cons_succ]
          refine take_to (i := 2) (v := .int .i64 (k : Int)) rfl (by kernel_rfl) (by kernel_rfl) (by kernel_rfl) (fun _ _ _ h => h) (Or.inl ⟨by rfl, fun w' hS => by go_simp⟩) q0 (some 46) rfl ?_
          try simp only [Act.put, List.setIfInBounds_toArray, List.set_cons_zero, List.set_cons_succ]
          refine take_to (i := 3) (v := .pointer (some ⟨ba, oa + k, none⟩)) rfl (by kernel_rfl) (by kernel_rfl) (by kernel_rfl) (fun _ _ _ h => h) (Or.inl ⟨by rfl, fun w' hS => by go_simp⟩) q0 (some 47) rfl ?_
          try simp only [Act.put, List.setIfInBounds_toArray, List.set_cons_zero, List.set_cons_succ]
          refine take_to (i := 4) (v := .slice (some ⟨bx, ox, none⟩) m xc) rfl (by kernel_rfl) (by kernel_rfl) (by kernel_rfl) (fun _ _ _ h => h) (Or.inl ⟨by rfl, fun w' hS => by have := (HC.out w' hS.out).2.2.1; go_simp⟩) q0 (some 48) rfl ?_
          try simp only [Act.put, List.setIfInBounds_toArray, List.set_cons_zero, List.set_cons_succ]
          refine take_to (i := 5) (v := .int .i64 (j : Int)) rfl (by kernel_rfl) (by kernel_rfl) (by kernel_rfl) (fun _ _ _ h => h) (Or.inl ⟨by rfl, fun w' hS => by go_simp⟩) q0 (some 49) rfl ?_
          try simp only [Act.put, List.setIfInBounds_toArray, List.set_cons_zero, List.set_cons_succ]
          refine take_to (i := 6) (v := .pointer (some ⟨bx, ox + j * 64, none⟩)) rfl (by kernel_rfl) (by kernel_rfl) (by kernel_rfl) (fun _ _ _ h => h) (Or.inl ⟨by rfl, fun w' hS => by go_simp⟩) q0 (some 50) rfl ?_
          try simp only [Act.put, List.setIfInBounds_toArray, List.set_cons_zero, List.set_cons_succ]
          refine take_to (i := 7) (v := blkV y) rfl (by kernel_rfl) (by kernel_rfl) (by kernel_rfl) (fun _ _ _ h => h) (yieldsIf_load7 (by rfl) 29 (.tmp 50) rfl (.pointer (some ⟨bx, ox + j * 64, none⟩)) rfl (blkV y) (fun w' hS => (HY.out.1 w' hS.out).load HY.out.2.2.1)) q0 (some 51) rfl ?_
          try simp only [Act.put, List.setIfInBounds_toArray, List.set_cons_zero, List.set_cons_succ]
          refine take_to (i := 8) (v := .pointer (some ⟨g1 + 1, 0, none⟩)) rfl (by kernel_rfl) (by kernel_rfl) (by kernel_rfl) (fun _ _ _ h => h) (Or.inl ⟨by rfl, fun w' hS => by go_simp⟩) q0 (some 52) rfl ?_
          try simp only [Act.put, List.setIfInBounds_toArray, List.set_cons_zero, List.set_cons_succ]
          refine take_to (i := 9) (v := .slice (some ⟨bb, ob, none⟩) n c') rfl (by kernel_rfl) (by kernel_rfl) (by kernel_rfl) (fun _ _ _ h => h) (Or.inl ⟨by rfl, fun w' hS => by have := (HC.out w' hS.out).2.1; go_simp⟩) q0 (some 53) rfl ?_
          try simp only [Act.put, List.setIfInBounds_toArray, List.set_cons_zero, List.set_cons_succ]
          refine take_to (i := 10) (v := .int .i64 (k : Int)) rfl (by kernel_rfl) (by kernel_rfl) (by kernel_rfl) (fun _ _ _ h => h) (Or.inl ⟨by rfl, fun w' hS => by go_simp⟩) q0 (some 54) rfl ?_
          try simp only [Act.put, List.setIfInBounds_toArray, List.set_cons_zero, List.set_cons_succ]
          refine take_to (i := 11) (v := .pointer (some ⟨bb, ob + k, none⟩)) rfl (by kernel_rfl) (by kernel_rfl) (by kernel_rfl) (fun _ _ _ h => h) (Or.inl ⟨by rfl, fun w' hS => by go_simp⟩) q0 (some 55) rfl ?_
          try simp only [Act.put, List.setIfInBounds_toArray, List.set_cons_zero, List.set_cons_succ]
          refine take_to (i := 12) (v := .slice (some ⟨bz, oz, none⟩) m zc) rfl (by kernel_rfl) (by kernel_rfl) (by kernel_rfl) (fun _ _ _ h => h) (Or.inl ⟨by rfl, fun w' hS => by have := (HC.out w' hS.out).2.2.2; go_simp⟩) q0 (some 56) rfl ?_
          try simp only [Act.put, List.setIfInBounds_toArray, List.set_cons_zero, List.set_cons_succ]
          refine take_to (i := 13) (v := .int .i64 (j : Int)) rfl (by kernel_rfl) (by kernel_rfl) (by kernel_rfl) (fun _ _ _ h => h) (Or.inl ⟨by rfl, fun w' hS => by go_simp⟩) q0 (some 57) rfl ?_
          try simp only [Act.put, List.setIfInBounds_toArray, List.set_cons_zero, List.set_cons_succ]
          refine take_to (i := 14) (v := .pointer (some ⟨bz, oz + j * 64, none⟩)) rfl (by kernel_rfl) (by kernel_rfl) (by kernel_rfl) (fun _ _ _ h => h) (Or.inl ⟨by rfl, fun w' hS => by go_simp⟩) q0 (some 58) rfl ?_
          try simp only [Act.put, List.setIfInBounds_toArray, List.set_cons_zero, List.set_cons_succ]
          refine take_to (i := 15) (v := blkV y) rfl (by kernel_rfl) (by kernel_rfl) (by kernel_rfl) (fun _ _ _ h => h) (yieldsIf_load7 (by rfl) 29 (.tmp 58) rfl (.pointer (some ⟨bz, oz + j * 64, none⟩)) rfl (blkV y) (fun w' hS => (HY.out.2.1 w' hS.out).load HY.out.2.2.1)) q0 (some 59) rfl ?_
          try simp only [Act.put, List.setIfInBounds_toArray, List.set_cons_zero, List.set_cons_succ]
          refine take_to (i := 16) (v := .bool false) rfl (by kernel_rfl) (by kernel_rfl) (by kernel_rfl) (fun _ _ _ h => h) (yieldsIf_neq25 (by rfl) (.tmp 51) (.tmp 59) rfl y HY.out.2.2.2 rfl rfl) q0 (some 60) rfl ?_
          try simp only [Act.put, List.setIfInBounds_toArray, List.set_cons_zero, List.set_cons_succ]
          refine wpAnyH_done (by kernel_rfl) ?_ _
          have HN := Lib.hid (HW.out.trans ((on_drew wr).mono HW.out.size))
          go_wp2_with fail
          go_roundw
          case rel => exact ⟨j + 1, by omega, by go_num, HN.out⟩
          case measure => simp [intOf]; omega
        · have HN := Lib.hid (HX.out.1.trans (HW.out.mono HX.out.1.size))
          clear hbl
          go_wp2_with fail
          go_roundw
          case rel => exact ⟨k + 1, by omega, by go_num, HN.out⟩
          case measure => simp [intOf]; omega
    · have HW := Lib.hid hbl
      clear hbl
      go_wp2_with fail
      go_ret
      exact ⟨rfl, by rw [HG.out]; exact HB.out.2.2.1.trans (HW.out.mono (by have := HB.out.2.2.1.size; have := HG.out; omega))⟩
end
theorem zero_cells (n : Nat) : blocksC (List.replicate n (List.replicate 64 0)) = List.replicate (n * 64) (.int .i64 0) := by
  induction n with
  | zero => rfl
  | succ n ih =>
    have e : List.replicate (n + 1) (List.replicate 64 (0 : Int)) = List.replicate n (List.replicate 64 0) ++ [List.replicate 64 0] := List.replicate_succ'
    rw [e, blocksC_app, ih]
    have e2 : blocksC [List.replicate 64 (0 : Int)] = List.replicate 64 (.int .i64 0) := by simp only [blocksC, List.flatMap_cons, List.flatMap_nil, List.append_nil, cellsI, List.map_replicate]
    rw [e2, List.replicate_append_replicate, Nat.add_mul, Nat.one_mul]
theorem madeCells_blk (n : Nat) : madeCells (blkV (List.replicate 64 0)).cells (n * 64) = (blocksC (List.replicate n (List.replicate 64 0))).toArray := by
  rw [zero_cells]
  apply Array.toList_inj.1
  apply List.ext_getElem?
  intro j
  obtain ⟨z, hz⟩ : ∃ z, z = (blkV (List.replicate 64 0)).cells := ⟨_, rfl⟩
  have hz2 : ∀ i, i < 64 → z[i]! = .int .i64 0 := by
    intro i hi
    rw [hz]
    have e : (blkV (List.replicate 64 0)).cells = (List.replicate 64 (Value.int .i64 0)).toArray := by
      show (cellsI (List.replicate 64 0)).toArray = _
      rw [cellsI, List.map_replicate]
    rw [e, getElem!_pos _ _ (by rw [List.size_toArray, List.length_replicate]; exact hi), List.getElem_toArray, List.getElem_replicate]
  have hzs : z.size = 64 := by rw [hz]; rfl
  rw [← hz]
  by_cases hj : j < n * 64
  · simp only [madeCells, Array.toList_map, Array.toList_range, List.getElem?_map, List.getElem?_range hj, hzs, Option.map_some, hz2 _ (Nat.mod_lt j (by omega : 0 < 64))]
    rw [List.getElem?_replicate, if_pos hj]
  · rw [List.getElem?_eq_none (by simp [madeCells]; omega), List.getElem?_eq_none (by simp; omega)]
theorem make_blksT (n : Nat) (hn : n ≤ 1100) : ∀ w, (Instr.makeSlice 54 (.int .i64 (n : Int)) (.int .i64 (n : Int))).run Tryd.prog w = .ok (.slice (some ⟨w.heap.size, 0, none⟩) n n) (w.alloc (.cells (blocksC (List.replicate n (List.replicate 64 0))).toArray 29)) := by
  obtain ⟨i0, hi0, h2⟩ := Option.map_eq_some_iff.1 blk_info
  simp only [Prod.mk.injEq] at h2
  obtain ⟨hz0, hz1, hz2⟩ := h2
  intro w
  have h := run_make (P := Tryd.prog) w 54 29 i0 _ Tryd.underlying54 hi0 hz0 .i64 .i64 (n : Int) (n : Int) (by omega) (Int.le_refl _) (by rw [hz2]; omega) (by omega)
  rw [hz1, Int.toNat_natCast, madeCells_blk] at h
  exact h
theorem Kept.on {S : Nat → Prop} {w u u' : World} (h : Kept S w u) (b : Below u.heap.size u u') : Kept S w u' := h.trans (Kept.of_below b S) (fun _ _ h => h)
theorem Box.setCells {g : Nat} {t : TypeId} : ∀ (vs : List Value) (o : Nat) {w : World} {cs : Array Value}, Box w g t cs → ∃ cs', Box (w.setCells g o vs) g t cs' ∧ cs'.size = cs.size
  | [], _, _, cs, h => ⟨cs, h, rfl⟩
  | v :: r, o, w, cs, h => by
    obtain ⟨cs', h1, h2⟩ := Box.setCells r (o + 1) (h.put o v)
    exact ⟨cs', h1, by rw [h2]; simp⟩
/-- noughts, of a shape -/
def zeroG (W H K : Int) : List (List (List Int)) := (List.range (nP K)).map fun p => List.replicate ((uW W K * uA K p) * (uH H K * uD K p)) zeros64
theorem zeroG_len (W H K : Int) : (zeroG W H K).length = nP K ∧ ∀ p, p < nP K → ((zeroG W H K).getD p []).length = (uW W K * uA K p) * (uH H K * uD K p) := by
  refine ⟨by simp [zeroG], fun p hp => ?_⟩
  rw [zeroG, List.getD_eq_getElem?_getD, List.getElem?_map, List.getElem?_range hp]
  simp
theorem box_setCells (b : Nat) (t : TypeId) : ∀ (vs : List Value) (o : Nat) (w : World) (cs : Array Value), Box w b t cs → ∃ cs', Box (w.setCells b o vs) b t cs'
  | [], _, _, cs, h => ⟨cs, h⟩
  | v :: r, o, _, _, h => box_setCells b t r (o + 1) _ _ (h.put o v)
/-- a row of n blocks in a block of memory of its own -/
structure Bk (w : World) (b n : Nat) (bl : List (List Int)) : Prop where
  len : bl.length = n
  wide : ∀ x ∈ bl, x.length = 64
  box : ∃ cs, Box w b 29 cs
  row : ∀ i x, bl[i]? = some x → w.rangeAt b (i * 64) (cellsI x)
  all : w.there b 0 (n * 64)
section
variable {w w' : World} {b n : Nat} {bl : List (List Int)}
theorem Bk.lt (h : Bk w b n bl) : b < w.heap.size := by
  obtain ⟨cs, h⟩ := h.box
  exact h.lt
theorem Bk.kept {S : Nat → Prop} (h : Bk w b n bl) (k : Kept S w w') (hS : ¬ S b) : Bk w' b n bl := by
  have hl := h.lt
  obtain ⟨cs, hb⟩ := h.box
  refine ⟨h.len, h.wide, ⟨cs, k.box hb hS⟩, fun i x hx j v hv => (k.cell (p := ⟨b, i * 64 + j, none⟩) hl hS).trans (h.row i x hx j v hv), fun j hj => ⟨by rw [k.cell (p := ⟨b, 0 + j, none⟩) hl hS]; exact (h.all j hj).1, by rw [k.frozen hl hS]; exact (h.all j hj).2⟩⟩
theorem Bk.on (h : Bk w b n bl) (k : Below w.heap.size w w') : Bk w' b n bl := h.kept (Kept.of_below k (fun _ => False)) (fun h => h)
theorem Bk.there (h : Bk w b n bl) {k : Nat} (hk : k < n) : w.there b (k * 64) 64 := fun j hj => by
  have := h.all (k * 64 + j) (by have := Nat.mul_le_mul_right 64 (show k + 1 ≤ n from hk); omega)
  rwa [Nat.zero_add] at this
theorem Bk.put (h : Bk w b n bl) {k : Nat} (hk : k < n) {x : List Int} (hx : x.length = 64) : Bk (w.setCells b (k * 64) (cellsI x)) b n (bl.set k x) := by
  have hl : (cellsI x).length = 64 := by rw [cellsI_len, hx]
  obtain ⟨cs, hb⟩ := h.box
  refine ⟨by rw [List.length_set]; exact h.len, fun y hy => ?_, box_setCells b 29 _ _ _ _ hb, fun i y hy => ?_, World.there_setCells h.all _ _ _⟩
  · rcases List.mem_or_eq_of_mem_set hy with h1 | h1
    · exact h.wide y h1
    · rw [h1]; exact hx
  · by_cases e : i = k
    · subst e
      rw [List.getElem?_set_self (by rw [h.len]; exact hk)] at hy
      cases hy
      exact World.rangeAt_setCells_same w b (i * 64) _ (by rw [hl]; exact h.there hk)
    · rw [List.getElem?_set_ne (fun e' => e e'.symm)] at hy
      have hyl := h.wide y (List.mem_of_getElem? hy)
      refine World.rangeAt_setCells_apart (h.row i y hy) _ _ _ (Or.inr ?_)
      rw [cellsI_len, hyl, hl]
      rcases Nat.lt_or_ge i k with h1 | h1
      · exact .inl (by have := Nat.mul_le_mul_right 64 (show i + 1 ≤ k by omega); omega)
      · exact .inr (by have := Nat.mul_le_mul_right 64 (show k + 1 ≤ i by omega); omega)
theorem Bk.bs (h : Bk w b n bl) : Bs w (some ⟨b, 0, none⟩) n bl := by
  have hl := h.lt
  refine ⟨h.len, h.wide, fun _ => ⟨b, 0, rfl, hl, fun i x hx j hj => ?_⟩⟩
  rw [Nat.zero_add]
  exact h.row i x hx j _ (cellsI_get _ _ (by rw [h.wide x (List.mem_of_getElem? hx)]; exact hj))
end
/-- a row of blocks, made of its cells -/
theorem bk_of_box {w : World} {b n : Nat} {bl : List (List Int)} (h : Box w b 29 (blocksC bl).toArray) (hl : bl.length = n) (hw : ∀ x ∈ bl, x.length = 64) : Bk w b n bl := by
  have hcl := blocksC_len hw
  refine ⟨hl, hw, ⟨_, h⟩, fun i x hx j v hv => ?_, fun j hj => ⟨?_, h.free _⟩⟩
  · have hj := (List.getElem?_eq_some_iff.1 hv).1
    have hxl := hw x (List.mem_of_getElem? hx)
    rw [cellsI_len, hxl] at hj
    rw [h.cell, List.getElem?_toArray, blocksC_at hw hx hj, ← hv, cellsI_get _ _ (by omega)]
  · rw [h.cell, Nat.zero_add, List.getElem?_toArray, List.getElem?_eq_getElem (by omega)]
    rfl
theorem bk_made (w : World) (n : Nat) : Bk (w.alloc (.cells (blocksC (List.replicate n zeros64)).toArray 29)) w.heap.size n (List.replicate n zeros64) :=
  bk_of_box (Box.made _ _ _) (by simp) (fun x hx => by rw [List.eq_of_mem_replicate hx]; rfl)
/-- how many blocks a part has -/
def nB (W H K : Int) (p : Nat) : Nat := (uW W K * uA K p) * (uH H K * uD K p)
/-- the slice of a part's blocks -/
def slB (b n : Nat) : Value := .slice (some ⟨b, 0, none⟩) n n
/-- a tile in memory, each part in a block of its own -/
structure TlM (w : World) (lo : Nat) (W H K : Int) (A : Option Addr) (bd : Nat → Nat) (tl : List (List (List Int))) : Prop where
  parts : ∃ gp cs, A = some ⟨gp, 0, none⟩ ∧ Box w gp 54 cs ∧ lo ≤ gp ∧ ∀ p, p < nP K → cs[p]? = some (slB (bd p) (nB W H K p))
  row : ∀ p, p < nP K → Bk w (bd p) (nB W H K p) (tl.getD p []) ∧ lo ≤ bd p
  inj : ∀ p q, p < nP K → q < nP K → bd p = bd q → p = q
  len : tl.length = nP K
section
variable {w w' : World} {lo : Nat} {W H K : Int} {A : Option Addr} {bd : Nat → Nat} {tl : List (List (List Int))}
theorem TlM.kept {S : Nat → Prop} (h : TlM w lo W H K A bd tl) (k : Kept S w w') (h1 : ∀ g cs, Box w g 54 cs → ¬ S g) (h2 : ∀ p, p < nP K → ¬ S (bd p)) : TlM w' lo W H K A bd tl := by
  obtain ⟨gp, cs, e, hb, hl, hc⟩ := h.parts
  exact ⟨⟨gp, cs, e, k.box hb (h1 gp cs hb), hl, hc⟩, fun p hp => ⟨(h.row p hp).1.kept k (h2 p hp), (h.row p hp).2⟩, h.inj, h.len⟩
theorem TlM.on (h : TlM w lo W H K A bd tl) (k : Below w.heap.size w w') : TlM w' lo W H K A bd tl := h.kept (Kept.of_below k (fun _ => False)) (fun _ _ _ h => h) (fun _ _ h => h)
def tlL (W H K : Int) (bd : Nat → Nat) : List (Option Addr × Nat × Nat) := (List.range (nP K)).map fun p => (some ⟨bd p, 0, none⟩, nB W H K p, nB W H K p)
theorem tlL_at {p : Nat} (hp : p < nP K) : (tlL W H K bd)[p]? = some (some ⟨bd p, 0, none⟩, nB W H K p, nB W H K p) := by
  rw [tlL, List.getElem?_map, List.getElem?_range hp]
  rfl
theorem tlL_get {p : Nat} {x : Option Addr × Nat × Nat} (h : (tlL W H K bd)[p]? = some x) : p < nP K ∧ x = (some ⟨bd p, 0, none⟩, nB W H K p, nB W H K p) := by
  have hp : p < nP K := by have := (List.getElem?_eq_some_iff.1 h).1; simpa [tlL] using this
  rw [tlL_at hp] at h
  exact ⟨hp, (Option.some.inj h).symm⟩
theorem TlM.pt (h : TlM w lo W H K A bd tl) : Pt w A (nP K) (tlL W H K bd) := by
  obtain ⟨gp, cs, e, hb, hl, hc⟩ := h.parts
  refine ⟨by simp [tlL], fun _ => ⟨gp, 0, e, hb.lt, fun p x hx => ?_⟩⟩
  obtain ⟨hp, rfl⟩ := tlL_get hx
  rw [Nat.zero_add, hb.cell]
  exact hc p hp
theorem TlM.ti (h : TlM w lo W H K A bd tl) (hmax : ∀ p, p < nP K → nB W H K p ≤ maxLen) : Ti w A (nP K) (tlL W H K bd) tl := by
  refine ⟨h.pt, h.len, fun p x t hx ht => ?_⟩
  obtain ⟨hp, rfl⟩ := tlL_get hx
  have e : tl.getD p [] = t := by rw [List.getD_eq_getElem?_getD, ht]; rfl
  have := (h.row p hp).1.bs
  rw [e] at this
  exact ⟨this, Nat.le_refl _, hmax p hp, fun e => by cases e⟩
end
theorem nB_le {W H K R : Int} (h : RightS W H K R) (p : Nat) : nB W H K p ≤ 1024 := by
  have h1 := uW_le h
  have h2 := uH_le h
  have h3 := uA_le K p
  have h4 := uD_le K p
  have e1 : uW W K * uA K p ≤ 32 := Nat.le_trans (Nat.mul_le_mul h1.2 h3.2) (by omega)
  have e2 : uH H K * uD K p ≤ 32 := Nat.le_trans (Nat.mul_le_mul h2.2 h4.2) (by omega)
  exact Nat.le_trans (Nat.mul_le_mul e1 e2) (by omega)
/-- the parts that are laid so far -/
structure LayB (wr : World) (base : Nat) (W H K : Int) (k : Nat) (v : Value) (bd : Nat → Nat) : Prop where
  own : wr.ownsRow base 54 1 v k ((List.range k).map fun p => slB (bd p) (nB W H K p))
  row : ∀ p, p < k → Bk wr (bd p) (nB W H K p) (List.replicate (nB W H K p) zeros64) ∧ base ≤ bd p
  inj : ∀ p q, p < k → q < k → bd p = bd q → p = q
theorem LayB.on {wr w' : World} {base k : Nat} {W H K : Int} {v : Value} {bd : Nat → Nat} (h : LayB wr base W H K k v bd) (b : Below wr.heap.size wr w') : LayB w' base W H K k v bd :=
  ⟨ownsRow_on h.own b, fun p hp => ⟨(h.row p hp).1.on b, (h.row p hp).2⟩, h.inj⟩
theorem LayB.kept {wr w' : World} {base k : Nat} {W H K : Int} {v : Value} {bd : Nat → Nat} {S : Nat → Prop} (h : LayB wr base W H K k v bd) (b : Kept S wr w') (hS : ∀ i, S i → i < base) : LayB w' base W H K k v bd :=
  ⟨ownsRow_block h.own fun g _ hg hb => b.block g (Array.getElem?_eq_some_iff.1 hb).1 (fun e => by have := hS g e; have := (own_block3 h.own hg).1; omega), fun p hp => ⟨(h.row p hp).1.kept b (fun e => by have := hS _ e; have := (h.row p hp).2; omega), (h.row p hp).2⟩, h.inj⟩
/-- one part more -/
theorem LayB.more {wr w3 w' : World} {base k b : Nat} {W H K : Int} {v v' : Value} {bd : Nat → Nat} (h : LayB wr base W H K k v bd) (k3 : Below wr.heap.size wr w3) (hb : wr.heap.size ≤ b) (hbase : base ≤ wr.heap.size) (hbk : Bk w3 b (nB W H K k) (List.replicate (nB W H K k) zeros64))
    (hown : w'.ownsRow base 54 1 v' (k + 1) (((List.range k).map fun p => slB (bd p) (nB W H K p)) ++ [slB b (nB W H K k)])) (k' : Kept (fun i => v.ownBlock = some i) w3 w') :
    LayB w' base W H K (k + 1) v' (fun p => if p = k then b else bd p) := by
  have keep : ∀ {g n : Nat} {bl : List (List Int)}, Bk w3 g n bl → Bk w' g n bl := fun hg => hg.kept k' (fun e => by
    obtain ⟨cs, hbx⟩ := hg.box
    obtain ⟨_, _, cs2, h2⟩ := own_typ (h.on k3).own e
    exact hbx.apart (show Box w3 _ 54 cs2 from h2) (by decide) rfl)
  refine ⟨?_, fun p hp => ?_, fun p q hp hq e => ?_⟩
  · have e : ((List.range (k + 1)).map fun p => slB (if p = k then b else bd p) (nB W H K p)) = ((List.range k).map fun p => slB (bd p) (nB W H K p)) ++ [slB b (nB W H K k)] := by
      rw [List.range_succ, List.map_append]
      congr 1
      · apply List.map_congr_left
        intro p hp
        rw [if_neg (by have := List.mem_range.1 hp; omega)]
      · simp
    rw [e]
    exact hown
  · by_cases e : p = k
    · subst e
      simp only [if_true]
      exact ⟨keep hbk, by omega⟩
    · simp only [if_neg e]
      exact ⟨keep ((h.row p (by omega)).1.on k3), (h.row p (by omega)).2⟩
  · by_cases e1 : p = k
    · by_cases e2 : q = k
      · omega
      · rw [if_pos e1, if_neg e2] at e
        have := (h.row q (by omega)).1.lt
        omega
    · by_cases e2 : q = k
      · rw [if_neg e1, if_pos e2] at e
        have := (h.row p (by omega)).1.lt
        omega
      · rw [if_neg e1, if_neg e2] at e
        exact h.inj p q (by omega) (by omega) e
theorem LayB.done {wr : World} {base : Nat} {W H K : Int} {A : Option Addr} {c : Nat} {bd : Nat → Nat} (h : LayB wr base W H K (nP K) (.slice A (nP K) c) bd) : TlM wr base W H K A bd (zeroG W H K) := by
  have h1 := nP_le K
  refine ⟨?_, fun p hp => ?_, h.inj, (zeroG_len W H K).1⟩
  · have hown := h.own
    rcases h.own.2 with ⟨e, _⟩ | ⟨g, cap, cur, e, hg, hh, hn, _⟩
    · injection e with e1 e2 e3
      omega
    · injection e with e1 e2 e3
      subst e1 e3
      refine ⟨g, cur, rfl, hh, hg, fun p hp => ?_⟩
      have hc := hown.cellAt p (by rw [Nat.mul_one]; exact hp)
      rw [(show Box wr g 54 cur from hh).cell, List.getElem?_map, List.getElem?_range hp] at hc
      exact hc
  · have e : (zeroG W H K).getD p [] = List.replicate (nB W H K p) zeros64 := by
      rw [zeroG, List.getD_eq_getElem?_getD, List.getElem?_map, List.getElem?_range hp]
      rfl
    rw [e]
    exact h.row p hp
section
variable (w : World) (W H K R : Int)
def BlankY (w : World) (W H K : Int) (e : Ending) (w' : World) : Prop := ∃ A c bd, e = .returned (tileV A (nP K) c) ∧ TlM w' w.heap.size W H K A bd (zeroG W H K) ∧ Below w.heap.size w w'
end
end Go.Proofs.YtmadkpnkmkajoaaDoor
