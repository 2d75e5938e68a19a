/-
  A tile of noughts, each part in a block of memory of its own: the contract of blank.
-/
import Derived.Test.YtdnjnbfmmgkpjaaDoorGE
import Derived.Test.YtdnjnbfmmgkpjaaDoorSB
import Derived.Deep.RegionLaw
namespace Go.Proofs.YtdnjnbfmmgkpjaaDoor
open Go.RowKit

/-- how many blocks a part has -/
def nB (W H K : Int) (p : Nat) : Nat := (uW W K * uA K p) * (uH H K * uD K p)
/-- the slice of a part's blocks -/
def slB (b n : Nat) : Value := .slice (some ⟨b, 0, none⟩) n n
/-- a tile in memory, each part in a block of its own -/
structure TlM (w : World) (lo : Nat) (W H K : Int) (A : Option Addr) (bd : Nat → Nat) (tl : List (List (List Int))) : Prop where
  parts : ∃ gp cs, A = some ⟨gp, 0, none⟩ ∧ Box w gp 61 cs ∧ lo ≤ gp ∧ ∀ p, p < nP K → cs[p]? = some (slB (bd p) (nB W H K p))
  row : ∀ p, p < nP K → Bk w (bd p) (nB W H K p) (tl.getD p []) ∧ lo ≤ bd p
  inj : ∀ p q, p < nP K → q < nP K → bd p = bd q → p = q
  len : tl.length = nP K
section
variable {w w' : World} {lo : Nat} {W H K : Int} {A : Option Addr} {bd : Nat → Nat} {tl : List (List (List Int))}
theorem TlM.kept {S : Nat → Prop} (h : TlM w lo W H K A bd tl) (k : Kept S w w') (h1 : ∀ g cs, Box w g 61 cs → ¬ S g) (h2 : ∀ p, p < nP K → ¬ S (bd p)) : TlM w' lo W H K A bd tl := by
  obtain ⟨gp, cs, e, hb, hl, hc⟩ := h.parts
  exact ⟨⟨gp, cs, e, k.box hb (h1 gp cs hb), hl, hc⟩, fun p hp => ⟨(h.row p hp).1.kept k (h2 p hp), (h.row p hp).2⟩, h.inj, h.len⟩
theorem TlM.on (h : TlM w lo W H K A bd tl) (k : Below w.heap.size w w') : TlM w' lo W H K A bd tl := h.kept (Kept.of_below k (fun _ => False)) (fun _ _ _ h => h) (fun _ _ h => h)
def tlL (W H K : Int) (bd : Nat → Nat) : List (Option Addr × Nat × Nat) := (List.range (nP K)).map fun p => (some ⟨bd p, 0, none⟩, nB W H K p, nB W H K p)
theorem tlL_at {p : Nat} (hp : p < nP K) : (tlL W H K bd)[p]? = some (some ⟨bd p, 0, none⟩, nB W H K p, nB W H K p) := by
  rw [tlL, List.getElem?_map, List.getElem?_range hp]
  rfl
theorem tlL_get {p : Nat} {x : Option Addr × Nat × Nat} (h : (tlL W H K bd)[p]? = some x) : p < nP K ∧ x = (some ⟨bd p, 0, none⟩, nB W H K p, nB W H K p) := by
  have hp : p < nP K := by have := (List.getElem?_eq_some_iff.1 h).1; simpa [tlL] using this
  rw [tlL_at hp] at h
  exact ⟨hp, (Option.some.inj h).symm⟩
theorem TlM.pt (h : TlM w lo W H K A bd tl) : Pt w A (nP K) (tlL W H K bd) := by
  obtain ⟨gp, cs, e, hb, hl, hc⟩ := h.parts
  refine ⟨by simp [tlL], fun _ => ⟨gp, 0, e, hb.lt, fun p x hx => ?_⟩⟩
  obtain ⟨hp, rfl⟩ := tlL_get hx
  rw [Nat.zero_add, hb.cell]
  exact hc p hp
theorem TlM.ti (h : TlM w lo W H K A bd tl) (hmax : ∀ p, p < nP K → nB W H K p ≤ maxLen) : Ti w A (nP K) (tlL W H K bd) tl := by
  refine ⟨h.pt, h.len, fun p x t hx ht => ?_⟩
  obtain ⟨hp, rfl⟩ := tlL_get hx
  have e : tl.getD p [] = t := by rw [List.getD_eq_getElem?_getD, ht]; rfl
  have := (h.row p hp).1.bs
  rw [e] at this
  exact ⟨this, Nat.le_refl _, hmax p hp, fun e => by cases e⟩
end
theorem nB_le {W H K R : Int} (h : RightS W H K R) (p : Nat) : nB W H K p ≤ 1024 := by
  have h1 := uW_le h
  have h2 := uH_le h
  have h3 := uA_le K p
  have h4 := uD_le K p
  have e1 : uW W K * uA K p ≤ 32 := Nat.le_trans (Nat.mul_le_mul h1.2 h3.2) (by omega)
  have e2 : uH H K * uD K p ≤ 32 := Nat.le_trans (Nat.mul_le_mul h2.2 h4.2) (by omega)
  exact Nat.le_trans (Nat.mul_le_mul e1 e2) (by omega)
/-- the parts that are laid so far -/
structure LayB (wr : World) (base : Nat) (W H K : Int) (k : Nat) (v : Value) (bd : Nat → Nat) : Prop where
  own : wr.ownsRow base 61 1 v k ((List.range k).map fun p => slB (bd p) (nB W H K p))
  row : ∀ p, p < k → Bk wr (bd p) (nB W H K p) (List.replicate (nB W H K p) zeros64) ∧ base ≤ bd p
  inj : ∀ p q, p < k → q < k → bd p = bd q → p = q
theorem LayB.on {wr w' : World} {base k : Nat} {W H K : Int} {v : Value} {bd : Nat → Nat} (h : LayB wr base W H K k v bd) (b : Below wr.heap.size wr w') : LayB w' base W H K k v bd :=
  ⟨ownsRow_on h.own b, fun p hp => ⟨(h.row p hp).1.on b, (h.row p hp).2⟩, h.inj⟩
theorem LayB.kept {wr w' : World} {base k : Nat} {W H K : Int} {v : Value} {bd : Nat → Nat} {S : Nat → Prop} (h : LayB wr base W H K k v bd) (b : Kept S wr w') (hS : ∀ i, S i → i < base) : LayB w' base W H K k v bd :=
  ⟨ownsRow_block h.own fun g _ hg hb => b.block g (Array.getElem?_eq_some_iff.1 hb).1 (fun e => by have := hS g e; have := (own_block3 h.own hg).1; omega), fun p hp => ⟨(h.row p hp).1.kept b (fun e => by have := hS _ e; have := (h.row p hp).2; omega), (h.row p hp).2⟩, h.inj⟩
/-- one part more -/
theorem LayB.more {wr w3 w' : World} {base k b : Nat} {W H K : Int} {v v' : Value} {bd : Nat → Nat} (h : LayB wr base W H K k v bd) (k3 : Below wr.heap.size wr w3) (hb : wr.heap.size ≤ b) (hbase : base ≤ wr.heap.size) (hbk : Bk w3 b (nB W H K k) (List.replicate (nB W H K k) zeros64))
    (hown : w'.ownsRow base 61 1 v' (k + 1) (((List.range k).map fun p => slB (bd p) (nB W H K p)) ++ [slB b (nB W H K k)])) (k' : Kept (fun i => v.ownBlock = some i) w3 w') :
    LayB w' base W H K (k + 1) v' (fun p => if p = k then b else bd p) := by
  have keep : ∀ {g n : Nat} {bl : List (List Int)}, Bk w3 g n bl → Bk w' g n bl := fun hg => hg.kept k' (fun e => by
    obtain ⟨cs, hbx⟩ := hg.box
    obtain ⟨_, _, cs2, h2⟩ := own_typ (h.on k3).own e
    exact hbx.apart (show Box w3 _ 61 cs2 from h2) (by decide) rfl)
  refine ⟨?_, fun p hp => ?_, fun p q hp hq e => ?_⟩
  · have e : ((List.range (k + 1)).map fun p => slB (if p = k then b else bd p) (nB W H K p)) = ((List.range k).map fun p => slB (bd p) (nB W H K p)) ++ [slB b (nB W H K k)] := by
      rw [List.range_succ, List.map_append]
      congr 1
      · apply List.map_congr_left
        intro p hp
        rw [if_neg (by have := List.mem_range.1 hp; omega)]
      · simp
    rw [e]
    exact hown
  · by_cases e : p = k
    · subst e
      simp only [if_true]
      exact ⟨keep hbk, by omega⟩
    · simp only [if_neg e]
      exact ⟨keep ((h.row p (by omega)).1.on k3), (h.row p (by omega)).2⟩
  · by_cases e1 : p = k
    · by_cases e2 : q = k
      · omega
      · rw [if_pos e1, if_neg e2] at e
        have := (h.row q (by omega)).1.lt
        omega
    · by_cases e2 : q = k
      · rw [if_neg e1, if_pos e2] at e
        have := (h.row p (by omega)).1.lt
        omega
      · rw [if_neg e1, if_neg e2] at e
        exact h.inj p q (by omega) (by omega) e
theorem LayB.done {wr : World} {base : Nat} {W H K : Int} {A : Option Addr} {c : Nat} {bd : Nat → Nat} (h : LayB wr base W H K (nP K) (.slice A (nP K) c) bd) : TlM wr base W H K A bd (zeroG W H K) := by
  have h1 := nP_le K
  refine ⟨?_, fun p hp => ?_, h.inj, (zeroG_len W H K).1⟩
  · have hown := h.own
    rcases h.own.2 with ⟨e, _⟩ | ⟨g, cap, cur, e, hg, hh, hn, _⟩
    · injection e with e1 e2 e3
      omega
    · injection e with e1 e2 e3
      subst e1 e3
      refine ⟨g, cur, rfl, hh, hg, fun p hp => ?_⟩
      have hc := hown.cellAt p (by rw [Nat.mul_one]; exact hp)
      rw [(show Box wr g 61 cur from hh).cell, List.getElem?_map, List.getElem?_range hp] at hc
      exact hc
  · have e : (zeroG W H K).getD p [] = List.replicate (nB W H K p) zeros64 := by
      rw [zeroG, List.getD_eq_getElem?_getD, List.getElem?_map, List.getElem?_range hp]
      rfl
    rw [e]
    exact h.row p hp
section
variable (w : World) (W H K R : Int)
def BlankY (w : World) (W H K : Int) (e : Ending) (w' : World) : Prop := ∃ A c bd, e = .returned (tileV A (nP K) c) ∧ TlM w' w.heap.size W H K A bd (zeroG W H K) ∧ Below w.heap.size w w'
set_option maxRecDepth 10000 in
set_option maxHeartbeats 3200000 in
theorem blank_any (hR : RightS W H K R) : Calls Tryd.prog 37 #[scanV W H K R] w (BlankY w W H K) := by
  obtain ⟨g1, hg1⟩ : ∃ g1, w.heap.size = g1 := ⟨_, rfl⟩
  obtain ⟨w1, hw1⟩ : ∃ w1, (w.alloc (.cells #[.int .i64 W, .int .i64 H, .int .i64 K, .int .i64 R] 23)).alloc (.cells #[.slice none 0 0] 36) = w1 := ⟨_, rfl⟩
  have b1 : Box w1 g1 23 #[.int .i64 W, .int .i64 H, .int .i64 K, .int .i64 R] := by rw [← hw1, ← hg1]; exact (Box.made _ _ _).alloc _
  have b2 : Box w1 (g1 + 1) 36 #[.slice none 0 0] := by rw [← hw1, ← hg1]; have := Box.made (w.alloc (.cells #[.int .i64 W, .int .i64 H, .int .i64 K, .int .i64 R] 23)) 36 #[.slice none 0 0]; simpa using this
  have k1 : Below w.heap.size w w1 := by rw [← hw1]; exact on_trans (on_alloc _ _) (on_alloc _ _)
  have hs1 : w1.heap.size = g1 + 1 + 1 := by rw [← hw1, ← hg1]; simp
  have q0 : w1.cell? ⟨g1, 0, none⟩ = some (.int .i64 W) := b1.cell 0
  have q1 : w1.cell? ⟨g1, 1, none⟩ = some (.int .i64 H) := b1.cell 1
  have q2 : w1.cell? ⟨g1, 2, none⟩ = some (.int .i64 K) := b1.cell 2
  have q3 : w1.cell? ⟨g1, 3, none⟩ = some (.int .i64 R) := b1.cell 3
  have HB := Lib.hid (And.intro b2 (And.intro k1 (And.intro hg1 hs1)))
  have hz36 : ∀ w, (zeroValue 36).run Tryd.prog w = .ok (.agg #[.slice none 0 0]) w := fun w => by kernel_rfl
  have HS := Lib.hid (shape_any w1 W H K R)
  have HR := Lib.hid hR
  unfold scanV ShapeY at HS
  unfold scanV
  clear b1 b2 k1 hR
  go_enter Tryd.func37, Tryd.ntmps37
  go_wp2_with fail
  clear hw1 hs1
  refine HS.out.mono ?_
  rintro e w2 ⟨h1, _, k2⟩
  obtain ⟨As, cs, rfl, hcs, hps⟩ := h1 HR.out
  obtain ⟨m, hm⟩ : ∃ m, m = nP K := ⟨_, rfl⟩
  have hm3 := nP_le K
  rw [← hm] at hm3 hcs hps ⊢
  have HM := Lib.hid hm
  have H2 := Lib.hid (And.intro hps (And.intro (HB.out.1.on k2) (on_trans HB.out.2.1 k2)))
  have hk2 := k2.size
  have hs2 := HB.out.2.2.2
  rw [hs2] at hk2
  obtain ⟨N2, hN2⟩ : ∃ N2, N2 = w2.heap.size := ⟨_, rfl⟩
  rw [← hN2] at hk2
  clear q0 q1 q2 q3 HS h1 k2 hps hm hs2
  go_wp2_with fail
  go_loopw [8] (fun i wr => ∃ (k : Nat) (v : Value) (bd : Nat → Nat), k ≤ m ∧ i = .int .i64 (k : Int) ∧ Box wr (g1 + 1) 36 #[v] ∧ LayB wr N2 W H K k v bd ∧ Kept (fun i => i = g1 + 1) w2 wr) (fun i _ => m - (intOf i).toNat)
  case atStart => exact ⟨0, _, fun _ => 0, Nat.zero_le _, rfl, H2.out.2.1, ⟨⟨rfl, .inl ⟨rfl, rfl⟩⟩, fun p hp => absurd hp (by omega), fun p q hp => absurd hp (by omega)⟩, Kept.refl _ _⟩
  case round =>
    obtain ⟨k, v, bd, hk, rfl, hbx, hly, hkp⟩ := hrel
    obtain ⟨Ao, co, rfl⟩ := own_slice hly.own
    by_cases hlt : k < m
    · obtain ⟨ba, off, rfl, _, hba, hps⟩ := H2.out.1.at_ (by omega)
      have hpk := hps k _ (shpL_at W H K (by rw [← HM.out]; exact hlt))
      obtain ⟨a, ha⟩ : ∃ a, a = uW W K * uA K k := ⟨_, rfl⟩
      obtain ⟨b, hb⟩ : ∃ b, b = uH H K * uD K k := ⟨_, rfl⟩
      rw [← ha, ← hb] at hpk
      have hab : nB W H K k = a * b := by rw [ha, hb]; rfl
      have hab2 := nB_le HR.out k
      rw [hab] at hab2
      have ha2 : a ≤ 32 := by
        rw [ha]
        exact Nat.le_trans (Nat.mul_le_mul (uW_le HR.out).2 (uA_le K k).2) (by omega)
      have hb2 : b ≤ 32 := by
        rw [hb]
        exact Nat.le_trans (Nat.mul_le_mul (uH_le HR.out).2 (uD_le K k).2) (by omega)
      have hwr : Below (g1 + 1) w2 wr := hkp.below (B := g1 + 1) (by omega) (fun i hi e => by omega)
      have hwr0 : Below w.heap.size w wr := H2.out.2.2.trans (hkp.below H2.out.2.2.size (fun i hi e => by have := HB.out.2.2.1; omega))
      have hsz := hkp.size
      obtain ⟨n5, hn5⟩ : ∃ n5, a * b = n5 := ⟨_, rfl⟩
      rw [hn5] at hab hab2
      obtain ⟨M, hM⟩ : ∃ M, M = (blocksC (List.replicate (n5) zeros64)).toArray := ⟨_, rfl⟩
      have hmk : ∀ w, (Instr.makeSlice 61 (.int .i64 (n5 : Int)) (.int .i64 (n5 : Int))).run Tryd.prog w = .ok (.slice (some ⟨w.heap.size, 0, none⟩) n5 n5) (w.alloc (.cells M 25)) := fun w => by
        rw [hM]
        exact make_blks n5 (by omega) w
      have hwp : IntKind.i64.wrap ((a : Int) * (b : Int)) = (n5 : Int) := by rw [← Int.natCast_mul, hn5, IntKind.wrap_i64]; omega
      have hne : ba ≠ g1 + 1 := by have := HB.out.2.2.2; omega
      have s0 : wr.cell? ⟨ba, off + k * 2, none⟩ = some (.int .i64 (a : Int)) := (hkp.cell (p := ⟨ba, off + k * 2, none⟩) hba hne).trans hpk.1
      have s1 : wr.cell? ⟨ba, off + k * 2 + 1, none⟩ = some (.int .i64 (b : Int)) := (hkp.cell (p := ⟨ba, off + k * 2 + 1, none⟩) hba hne).trans hpk.2
      obtain ⟨w4, hw4⟩ : ∃ w4, (wr.alloc (.cells #[.int .i64 (a : Int), .int .i64 (b : Int)] 65)).drew = w4 := ⟨_, rfl⟩
      obtain ⟨g5, hg5⟩ : ∃ g5, w4.heap.size = g5 := ⟨_, rfl⟩
      obtain ⟨w5, hw5⟩ : ∃ w5, w4.alloc (.cells M 25) = w5 := ⟨_, rfl⟩
      obtain ⟨g6, hg6⟩ : ∃ g6, w5.heap.size = g6 := ⟨_, rfl⟩
      obtain ⟨w6, hw6⟩ : ∃ w6, w5.alloc (.cells #[.slice (some ⟨g5, 0, none⟩) (n5) (n5)] 61) = w6 := ⟨_, rfl⟩
      have k4 : Below wr.heap.size wr w4 := by rw [← hw4]; exact on_trans (on_alloc _ _) (on_drew _)
      have k5 : Below w4.heap.size w4 w5 := by rw [← hw5]; exact on_alloc _ _
      have k6 : Below w5.heap.size w5 w6 := by rw [← hw6]; exact on_alloc _ _
      have p0 : w4.cell? ⟨wr.heap.size, 0, none⟩ = some (.int .i64 (a : Int)) := by rw [← hw4]; exact (Box.drw (Box.made wr 65 #[.int .i64 (a : Int), .int .i64 (b : Int)])).cell 0
      have p1 : w4.cell? ⟨wr.heap.size, 1, none⟩ = some (.int .i64 (b : Int)) := by rw [← hw4]; exact (Box.drw (Box.made wr 65 #[.int .i64 (a : Int), .int .i64 (b : Int)])).cell 1
      have r4 : w4.cell? ⟨g1 + 1, 0, none⟩ = some (.slice Ao k co) := (hbx.on k4).cell 0
      have r5 : w5.cell? ⟨g1 + 1, 0, none⟩ = some (.slice Ao k co) := (hbx.on (on_trans k4 k5)).cell 0
      have r6 : w6.cell? ⟨g1 + 1, 0, none⟩ = some (.slice Ao k co) := (hbx.on (on_trans (on_trans k4 k5) k6)).cell 0
      have bk5 : Bk w5 g5 (n5) (List.replicate (n5) zeros64) := by rw [← hw5, ← hg5, hM]; exact bk_made _ _
      have b6 : Box w6 g6 61 #[.slice (some ⟨g5, 0, none⟩) (n5) (n5)] := by rw [← hw6, ← hg6]; exact Box.made _ _ _
      have hn6 : wr.heap.size ≤ g5 := by rw [← hg5]; exact k4.size
      have hz65 : ∀ w, (zeroValue 65).run Tryd.prog w = .ok (.agg #[.int .i64 0, .int .i64 0]) w := fun w => by kernel_rfl
      have H6 := Lib.hid (And.intro (bk5.on k6) (And.intro b6 (And.intro (on_trans (on_trans k4 k5) k6) (And.intro hn6 hab))))
      have HR3 := Lib.hid (And.intro hbx (And.intro hly (And.intro hkp hwr0)))
      have hsb : N2 ≤ wr.heap.size := by omega
      clear hM hn5 hpk hps ha hb hab k4 k5 k6 bk5 b6 hn6 hbx hly hkp hwr hwr0 hne
      go_upto_region 4 with fail
      go_region_law
        (first
          | ((refine step_append_gk el_rows rfl (.tmp 13) (.tmp 20) rfl N2 (.slice Ao k co) k _ rfl (HR3.out.2.1.on H6.out.2.2.1).own ⟨g6, 0, none⟩ 1 1 [.slice (some ⟨g5, 0, none⟩) (n5) (n5)] rfl rfl (box_read H6.out.2.1) (by intro u hu; simp at hu; subst hu; rfl) (by omega) (Nat.le_trans hsb H6.out.2.2.1.size) (some 21) rfl ?_)
             intro v7 w7 hown7 k7
             obtain ⟨A7, c7, hv7⟩ := own_slice hown7
             subst hv7
             have hLy := HR3.out.2.1.more (b := g5) H6.out.2.2.1 H6.out.2.2.2.1 hsb (by rw [H6.out.2.2.2.2]; exact H6.out.1) (by rw [H6.out.2.2.2.2]; exact hown7) k7
             have b7 : Box w7 (g1 + 1) 36 #[.slice Ao k co] := (HR3.out.1.on H6.out.2.2.1).bel (k7.below (B := g1 + 1 + 1) (Nat.le_trans (Nat.le_trans hk2 hsb) H6.out.2.2.1.size) (fun i hi e => by have := (own_block3 (HR3.out.2.1.on H6.out.2.2.1).own e).1; omega)) (by omega)
             have r7 : w7.cell? ⟨g1 + 1, 0, none⟩ = some (.slice Ao k co) := b7.cell 0
             have f7 : w7.frozen? ⟨g1 + 1, 0, none⟩ = false := b7.free 0
             have H7 := Lib.hid (And.intro hLy (And.intro b7 k7))
             clear hown7 k7 hLy b7))
      all_goals
        have HN := Lib.hid (show Box (w7.setCell ⟨g1 + 1, 0, none⟩ (.slice A7 (k + 1) c7)) (g1 + 1) 36 #[.slice A7 (k + 1) c7] ∧ LayB (w7.setCell ⟨g1 + 1, 0, none⟩ (.slice A7 (k + 1) c7)) N2 W H K (k + 1) (.slice A7 (k + 1) c7) (fun p => if p = k then g5 else bd p) ∧ Kept (fun i => i = g1 + 1) w2 (w7.setCell ⟨g1 + 1, 0, none⟩ (.slice A7 (k + 1) c7)) from by
          have hK := (Kept.refl (fun i => i = g1 + 1) w7).setCell (p := ⟨g1 + 1, 0, none⟩) (fun _ => rfl) (.slice A7 (k + 1) c7)
          have hown := HR3.out.2.1.own
          refine ⟨H7.out.2.1.put 0 _, H7.out.1.kept hK (fun i hi => by omega), ((HR3.out.2.2.1.trans (Kept.of_below H6.out.2.2.1 (fun i => i = g1 + 1)) (fun _ _ h => h)).trans H7.out.2.2 (fun i hi e => ?_)).trans hK (fun _ _ h => h)⟩
          have h9 := (own_block3 hown e).1
          omega)
        go_wp2_with fail
        go_roundw
        case rel => exact ⟨k + 1, _, _, by omega, by go_num, HN.out⟩
        case measure => simp [intOf]; omega
    · obtain rfl : k = m := by omega
      have r0 : wr.cell? ⟨g1 + 1, 0, none⟩ = some (.slice Ao k co) := hbx.cell 0
      have f0 : wr.frozen? ⟨g1 + 1, 0, none⟩ = false := hbx.free 0
      have HE := Lib.hid (And.intro hbx (And.intro hly hkp))
      clear hbx hly hkp
      go_wp2_with fail
      have hb2 : Box (wr.setCell ⟨g1 + 1, 0, none⟩ (.slice Ao k co)) (g1 + 1) 36 #[.slice Ao k co] := HE.out.1.put 0 _
      have hK : Kept (fun i => i = g1 + 1) wr (wr.setCell ⟨g1 + 1, 0, none⟩ (.slice Ao k co)) := (Kept.refl (fun i => i = g1 + 1) wr).setCell (p := ⟨g1 + 1, 0, none⟩) (fun _ => rfl) _
      refine bodyPost_ret (v := tileV Ao k co) (results_c (fn := Tryd.f37) Tryd.results37 _ _ (g1 + 1) _ rfl (loadVar_tile hb2)) rfl ?_
      have hL := HE.out.2.1.kept hK (fun i e => by omega)
      have hwr0 : Below w.heap.size w wr := H2.out.2.2.trans (HE.out.2.2.below H2.out.2.2.size (fun i hi e => by have := HB.out.2.2.1; omega))
      have hM := HM.out
      subst hM
      have hd := hL.done
      exact ⟨Ao, co, bd, rfl, ⟨by obtain ⟨gp, cs, a1, a2, a3, a4⟩ := hd.parts; exact ⟨gp, cs, a1, a2, by have := HB.out.2.2.1; omega, a4⟩, fun p hp => ⟨(hd.row p hp).1, by have := (hd.row p hp).2; have := HB.out.2.2.1; omega⟩, hd.inj, hd.len⟩, hwr0.trans (hK.below hwr0.size (fun i hi e => by have := HB.out.2.2.1; omega))⟩
end
end Go.Proofs.YtdnjnbfmmgkpjaaDoor
