import Derived.Test.YtjiigabfdigkaaaG31
import Derived.Test.YtjiigabfdigkaaaRows
import Derived.ChangeSlices
import Derived.ProofKit
import Derived.OpenShut
import Derived.WalkLawsBesides
import Derived.ChangeAt
import Derived.ChangeSame
import Derived.Deep.SlicePairs
/- A state that is handed in, opened. -/
namespace Go.Proofs.Ytjiigabfdigkaaa
open Go.ChangeShapes Go.WideShapes Go.ChangeAt Go.WideMaps Go.WideElems Go.RowKit Go.Deep

theorem addp (b o m : Nat) : (⟨b, o, none⟩ : Addr).add m = ⟨b, o + m, none⟩ := by unfold Addr.add; split <;> simp_all
section
variable {H : Type} {enc : TypeId × Value → H} {P : Program} {w : World} {base : Nat} {spare : Nat → Bool} {held : Bool}
theorem trod_float {t : TypeId} {k : FloatKind} {fuel : Nat} {cs : List Value} {x : DataW H × List MemPlace} (ht : P.underlying t = some (.float k)) (h : DataW.trod enc P w base spare held fuel t cs = some x) :
    ∃ b, cs = [.float k b] ∧ x = (.lit (.float k b), []) ∧ (Lit.float k b).wf = true := by
  cases fuel with
  | zero => simp [DataW.trod] at h
  | succ n =>
    unfold DataW.trod at h
    rw [ht] at h
    split at h <;> simp_all
theorem weightsAll_mem {e : TypeId} : ∀ {l : List (DataW H)} {d : DataW H}, d ∈ l → ∀ x, x ∈ d.weights P e → x ∈ DataW.weightsAll P e l
  | [], _, h, _, _ => by simp at h
  | u :: r, d, h, x, hx => by
    unfold DataW.weightsAll
    rcases List.mem_cons.1 h with rfl | h
    · exact List.mem_append_left _ hx
    · exact List.mem_append_right _ (weightsAll_mem h x hx)
/-- All weights within the reach. -/
def Within (P : Program) (t : TypeId) (d : DataW H) : Prop := ∀ q, q ∈ d.weights P t → q ≤ reachBytes
/-- A row, element by element. -/
theorem open_rows {α : Type} {e u : TypeId} {sz : Nat} {encv : α → List Value} {Good Fit : α → Prop} (hby : 1 ≤ P.bytesOf e) (hu : P.underlying u = some (.slice e)) (hsz : P.cellsOf e = sz) (hpos : 0 < sz) (henc : ∀ x, (encv x).length = sz)
    (each : ∀ (fuel : Nat) (cs : List Value) (y : DataW H × List MemPlace), DataW.trod enc P w base spare held fuel e cs = some y → ∃ x, cs = encv x ∧ Good x ∧ (Within P e y.1 → Fit x))
    {fuel : Nat} {cs : List Value} {y : DataW H × List MemPlace} (h : DataW.trod enc P w base spare held fuel u cs = some y) :
    ∃ (q : Option Addr) (c : Nat) (l : List α), cs = [.slice q l.length c] ∧ RowC sz encv w q l ∧ l.length ≤ maxLen ∧ (∀ x ∈ l, Good x) ∧ (Within P u y.1 → l.length ≤ 140737488355328 ∧ ∀ x ∈ l, Fit x) := by
  rcases DataW.trod_slice hu h with ⟨e4, _⟩ | ⟨a, len, cap, elems, rest, q, hq, e4, hy4, hb, hl, hm, hel, hx4, _, _⟩
  · exact ⟨none, 0, [], e4, fun j x hj => by simp at hj, Nat.zero_le _, fun x hx => by simp at hx, fun _ => ⟨Nat.zero_le _, fun x hx => by simp at hx⟩⟩
  · have one : ∀ i, i < len → ∃ t : α, (∀ j, j < sz → w.cell? ((a.add (i * sz)).add j) = (encv t)[j]?) ∧ Good t ∧ (Within P u y.1 → Fit t) := by
      intro i hi
      have hb := hx4 i hi
      have hsome : elems[i]? = some (elems[i]'(by omega)) := List.getElem?_eq_getElem (by omega)
      rw [hsome, hsz, Option.bind_eq_some_iff] at hb
      obtain ⟨cs', hc, ht⟩ := hb
      obtain ⟨t, ht1, ht2, ht3⟩ := each q cs' _ ht
      refine ⟨t, fun j hj => ?_, ht2, fun hall => ht3 (fun z hz => hall z ?_)⟩
      · have := (World.cells?_some hc).2.2 j hj
        rw [this, ht1]
      · rw [hy4]
        simp only [DataW.weights, hu, List.mem_cons, List.mem_append]
        exact .inr (.inl (weightsAll_mem (List.mem_map_of_mem (List.getElem_mem _)) z hz))
    rcases Nat.eq_zero_or_pos len with h0 | h0
    · subst h0
      exact ⟨some a, cap, [], e4, fun j x hj => by simp at hj, Nat.zero_le _, fun x hx => by simp at hx, fun _ => ⟨Nat.zero_le _, fun x hx => by simp at hx⟩⟩
    obtain ⟨d, -⟩ := one 0 h0
    obtain ⟨tf, htf⟩ : ∃ tf : Nat → α, ∀ i, i < len → (∀ j, j < sz → w.cell? ((a.add (i * sz)).add j) = (encv (tf i))[j]?) ∧ Good (tf i) ∧ (Within P u y.1 → Fit (tf i)) := by
      refine ⟨fun i => if h : i < len then Classical.choose (one i h) else d, fun i hi => ?_⟩
      simp only [hi, dif_pos]
      exact Classical.choose_spec (one i hi)
    have hget : ∀ (j : Nat) (t : α), ((List.range len).map tf)[j]? = some t → j < len ∧ tf j = t := by
      intro j t hj
      have hj' : j < len := by
        rcases Nat.lt_or_ge j len with h | h
        · exact h
        · rw [List.getElem?_eq_none (by simpa using h)] at hj; simp at hj
      rw [List.getElem?_map, List.getElem?_range hj'] at hj
      exact ⟨hj', by simpa using hj⟩
    refine ⟨some a, cap, (List.range len).map tf, by rw [e4]; simp, fun j t hj => ?_, by simpa using (by omega : len ≤ maxLen), fun x hx => ?_, fun hall => ⟨?_, fun x hx => ?_⟩⟩
    · obtain ⟨hj', rfl⟩ := hget j t hj
      have cc := (htf j hj').1
      have z0 := cc 0 hpos
      have zz := (htf 0 h0).1 0 hpos
      have hl0 : 0 < (encv (tf 0)).length := by rw [henc]; exact hpos
      rw [List.getElem?_eq_getElem hl0] at zz
      have hsp := World.cell?_spot zz
      obtain ⟨blk, off, spot⟩ := a
      have hspot : spot = none := by simpa [Addr.add] using hsp
      subst hspot
      have hlt := World.block_lt_of_cell? w _ zz
      rw [addp, addp] at hlt
      refine ⟨blk, off, rfl, hlt, fun i hi => ?_⟩
      have := cc i hi
      rw [addp, addp] at this
      exact this
    · obtain ⟨i, hi⟩ := List.mem_iff_getElem?.1 hx
      obtain ⟨hj', rfl⟩ := hget i x hi
      exact (htf i hj').2.1
    · have h9 := hall ((elems.length + rest.length) * P.bytesOf e) (by
        rw [hy4]
        simp only [DataW.weights, hu, List.mem_cons, List.length_map]
        exact .inl trivial)
      have h8 : elems.length + rest.length ≤ (elems.length + rest.length) * P.bytesOf e := Nat.le_mul_of_pos_right _ hby
      have h7 : reachBytes = 140737488351232 := rfl
      rw [List.length_map, List.length_range]
      omega
    · obtain ⟨i, hi⟩ := List.mem_iff_getElem?.1 hx
      obtain ⟨hj', rfl⟩ := hget i x hi
      exact (htf i hj').2.2 hall
/-- A slice alone, whatever it holds. -/
theorem open_slice {e u : TypeId} (hby : 1 ≤ P.bytesOf e) (hu : P.underlying u = some (.slice e)) {fuel : Nat} {cs : List Value} {y : DataW H × List MemPlace} (h : DataW.trod enc P w base spare held fuel u cs = some y) :
    ∃ (q : Option Addr) (n c : Nat), cs = [.slice q n c] ∧ n ≤ maxLen ∧ (Within P u y.1 → n ≤ 140737488355328) := by
  rcases DataW.trod_slice hu h with ⟨e4, _⟩ | ⟨a, len, cap, elems, rest, q, hq, e4, hy4, hb, hl, hm, hel, hx4, _, _⟩
  · exact ⟨none, 0, 0, e4, Nat.zero_le _, fun _ => Nat.zero_le _⟩
  · refine ⟨some a, len, cap, e4, by omega, fun hall => ?_⟩
    have h9 := hall ((elems.length + rest.length) * P.bytesOf e) (by
      rw [hy4]
      simp only [DataW.weights, hu, List.mem_cons, List.length_map]
      exact .inl trivial)
    have h8 : elems.length + rest.length ≤ (elems.length + rest.length) * P.bytesOf e := Nat.le_mul_of_pos_right _ hby
    have h7 : reachBytes = 140737488351232 := rfl
    omega
end
theorem sz_half : Try.prog.cellsOf 61 = 3 := by kernel_rfl
theorem sz_mon : Try.prog.cellsOf 81 = 3 := by kernel_rfl
theorem sz_sig : Try.prog.cellsOf 64 = 12 := by kernel_rfl
theorem sz_lane : Try.prog.cellsOf 49 = 3 := by kernel_rfl
theorem sz_proc : Try.prog.cellsOf 45 = 13 := by kernel_rfl
theorem sz_state : Try.prog.cellsOf 26 = 3 := by kernel_rfl
theorem sz_term : Try.prog.cellsOf 41 = 5 := by kernel_rfl
theorem sz_int : Try.prog.cellsOf 3 = 1 := by kernel_rfl
theorem sz_i64 : Try.prog.cellsOf 2 = 1 := by kernel_rfl
theorem sz_f64 : Try.prog.cellsOf 39 = 1 := by kernel_rfl
theorem sz_bool : Try.prog.cellsOf 4 = 1 := by kernel_rfl
theorem sz_str : Try.prog.cellsOf 9 = 1 := by kernel_rfl
theorem sz_ts : Try.prog.cellsOf 24 = 1 := by kernel_rfl
theorem sz_hs : Try.prog.cellsOf 37 = 1 := by kernel_rfl
theorem sz_ms : Try.prog.cellsOf 42 = 1 := by kernel_rfl
theorem sz_ss : Try.prog.cellsOf 43 = 1 := by kernel_rfl
theorem sz_xs : Try.prog.cellsOf 47 = 1 := by kernel_rfl
theorem sz_ls : Try.prog.cellsOf 23 = 1 := by kernel_rfl
theorem sz_ps : Try.prog.cellsOf 22 = 1 := by kernel_rfl
section
variable {H : Type} {enc : TypeId × Value → H} {w : World} {base : Nat} {spare : Nat → Bool} {held : Bool}
set_option maxRecDepth 100000
theorem open_half (fuel : Nat) (cs : List Value) (y : DataW H × List MemPlace) (h : DataW.trod enc Try.prog w base spare held fuel 61 cs = some y) : ∃ x : Hf, cs = x.cells ∧ wfi x.pid ∧ (Within Try.prog 61 y.1 → True) := by
  obtain ⟨xs, n, hn, hx, hlen, hxl, hf⟩ := DataW.trod_struct Try.underlying61 h
  rw [sz_half] at hlen
  match xs, hxl, cs, hlen with
  | [y0, y1, y2], _, [v0, v1, v2], _ =>
    have g0 := hf 0 _ rfl
    have g1 := hf 1 _ rfl
    have g2 := hf 2 _ rfl
    simp [sz_int] at g0 g1 g2
    obtain ⟨a, e0, _, w0⟩ := DataW.trod_int Try.underlying3 g0
    obtain ⟨b, e1, _, _⟩ := DataW.trod_int Try.underlying3 g1
    obtain ⟨c, e2, _, _⟩ := DataW.trod_int Try.underlying3 g2
    simp only [List.cons.injEq, and_true] at e0 e1 e2
    subst e0 e1 e2
    exact ⟨⟨a, b, c⟩, rfl, w0, fun _ => trivial⟩
theorem open_mon (fuel : Nat) (cs : List Value) (y : DataW H × List MemPlace) (h : DataW.trod enc Try.prog w base spare held fuel 81 cs = some y) : ∃ x : Mn, cs = x.cells ∧ (wfi x.ref ∧ wfi x.pid) ∧ (Within Try.prog 81 y.1 → True) := by
  obtain ⟨xs, n, hn, hx, hlen, hxl, hf⟩ := DataW.trod_struct Try.underlying81 h
  rw [sz_mon] at hlen
  match xs, hxl, cs, hlen with
  | [y0, y1, y2], _, [v0, v1, v2], _ =>
    have g0 := hf 0 _ rfl
    have g1 := hf 1 _ rfl
    have g2 := hf 2 _ rfl
    simp [sz_int, sz_str] at g0 g1 g2
    obtain ⟨a, e0, _, w0⟩ := DataW.trod_int Try.underlying3 g0
    obtain ⟨b, e1, _, w1⟩ := DataW.trod_int Try.underlying3 g1
    obtain ⟨c, e2, _, _⟩ := DataW.trod_string Try.underlying9 g2
    simp only [List.cons.injEq, and_true] at e0 e1 e2
    subst e0 e1 e2
    exact ⟨⟨a, b, c⟩, rfl, ⟨w0, w1⟩, fun _ => trivial⟩
theorem open_str (fuel : Nat) (cs : List Value) (y : DataW H × List MemPlace) (h : DataW.trod enc Try.prog w base spare held fuel 9 cs = some y) : ∃ x : ByteArray, cs = [.string x] ∧ x.size ≤ maxLen ∧ (Within Try.prog 9 y.1 → True) := by
  obtain ⟨c, e2, _, w2⟩ := DataW.trod_string Try.underlying9 h
  exact ⟨c, e2, w2, fun _ => trivial⟩
theorem open_term (fuel : Nat) (cs : List Value) (y : DataW H × List MemPlace) (h : DataW.trod enc Try.prog w base spare held fuel 41 cs = some y) : ∃ (k n : Int) (f : Nat) (s : ByteArray) (a : Option Addr) (l c : Nat), cs = [.int .i64 k, .int .i64 n, .float .f64 f, .string s, .slice a l c] := by
  obtain ⟨xs, n, hn, hx, hlen, hxl, hf⟩ := DataW.trod_struct Try.underlying41 h
  rw [sz_term] at hlen
  match xs, hxl, cs, hlen with
  | [y0, y1, y2, y3, y4], _, [v0, v1, v2, v3, v4], _ =>
    have g0 := hf 0 _ rfl
    have g1 := hf 1 _ rfl
    have g2 := hf 2 _ rfl
    have g3 := hf 3 _ rfl
    have g4 := hf 4 _ rfl
    simp [sz_int, sz_i64, sz_f64, sz_str, sz_ts] at g0 g1 g2 g3 g4
    obtain ⟨a, e0, _, _⟩ := DataW.trod_int Try.underlying3 g0
    obtain ⟨b, e1, _, _⟩ := DataW.trod_int Try.underlying2 g1
    obtain ⟨c, e2, _, _⟩ := trod_float Try.underlying39 g2
    obtain ⟨d, e3, _, _⟩ := DataW.trod_string Try.underlying9 g3
    obtain ⟨q, l, c', e4, _⟩ := open_slice (of_decide_eq_true (by kernel_rfl)) Try.underlying24 g4
    simp only [List.cons.injEq, and_true] at e0 e1 e2 e3 e4
    subst e0 e1 e2 e3 e4
    exact ⟨a, b, c, d, q, l, c', rfl⟩
theorem open_sig (fuel : Nat) (cs : List Value) (y : DataW H × List MemPlace) (h : DataW.trod enc Try.prog w base spare held fuel 64 cs = some y) : ∃ x : Sg, cs = x.cells ∧ True ∧ (Within Try.prog 64 y.1 → True) := by
  obtain ⟨xs, n, hn, hx, hlen, hxl, hf⟩ := DataW.trod_struct Try.underlying64 h
  rw [sz_sig] at hlen
  match xs, hxl, cs, hlen with
  | [y0, y1, y2, y3, y4, y5, y6, y7], _, [v0, v1, v2, v3, v4, v5, v6, v7, v8, v9, v10, v11], _ =>
    have g0 := hf 0 _ rfl
    have g1 := hf 1 _ rfl
    have g2 := hf 2 _ rfl
    have g3 := hf 3 _ rfl
    have g4 := hf 4 _ rfl
    have g5 := hf 5 _ rfl
    have g6 := hf 6 _ rfl
    have g7 := hf 7 _ rfl
    simp [sz_int, sz_bool, sz_str, sz_term] at g0 g1 g2 g3 g4 g5 g6 g7
    obtain ⟨a0, e0, _, _⟩ := DataW.trod_int Try.underlying3 g0
    obtain ⟨a1, e1, _, _⟩ := DataW.trod_int Try.underlying3 g1
    obtain ⟨a2, e2, _, _⟩ := DataW.trod_int Try.underlying3 g2
    obtain ⟨a3, e3, _, _⟩ := DataW.trod_int Try.underlying3 g3
    obtain ⟨a4, e4, _, _⟩ := DataW.trod_int Try.underlying3 g4
    obtain ⟨a5, e5, _⟩ := DataW.trod_bool Try.underlying4 g5
    obtain ⟨a6, e6, _, _⟩ := DataW.trod_string Try.underlying9 g6
    obtain ⟨k, m, f, s, a, l, c, e7⟩ := open_term n _ _ g7
    simp only [List.cons.injEq, and_true] at e0 e1 e2 e3 e4 e5 e6 e7
    obtain ⟨rfl, rfl, rfl, rfl, rfl⟩ := e7
    subst e0 e1 e2 e3 e4 e5 e6
    exact ⟨⟨a0, a1, a2, a3, a4, a5, a6, k, m, f, s, a, l, c⟩, rfl, trivial, fun _ => trivial⟩
end
end Go.Proofs.Ytjiigabfdigkaaa


/- A state that is handed in, opened: processes, lanes, all. -/
namespace Go.Proofs.Ytjiigabfdigkaaa
open Go.ChangeShapes Go.WideShapes Go.ChangeAt Go.WideMaps Go.WideElems Go.RowKit Go.Deep

section
variable {H : Type} {enc : TypeId × Value → H} {w : World} {base : Nat} {spare : Nat → Bool} {held : Bool}
set_option maxRecDepth 100000
theorem open_lane (fuel : Nat) (cs : List Value) (y : DataW H × List MemPlace) (h : DataW.trod enc Try.prog w base spare held fuel 49 cs = some y) :
    ∃ x : Ln, cs = x.cells ∧ (RowC 12 Sg.cells w x.a x.sigs ∧ x.sigs.length = x.n ∧ LenOk x.n) ∧ (Within Try.prog 49 y.1 → x.n ≤ 140737488355328) := by
  obtain ⟨xs, n, hn, hx, hlen, hxl, hf⟩ := DataW.trod_struct Try.underlying49 h
  rw [sz_lane] at hlen
  match xs, hxl, cs, hlen with
  | [y0, y1, y2], _, [v0, v1, v2], _ =>
    have g0 := hf 0 _ rfl
    have g1 := hf 1 _ rfl
    have g2 := hf 2 _ rfl
    simp [sz_int, sz_xs] at g0 g1 g2
    obtain ⟨a, e0, _, w0⟩ := DataW.trod_int Try.underlying3 g0
    obtain ⟨b, e1, _, w1⟩ := DataW.trod_int Try.underlying3 g1
    obtain ⟨q, c, l, e2, hr, hl, -, hfit⟩ := open_rows (by exact of_decide_eq_true (by kernel_rfl)) Try.underlying47 sz_sig (by omega) (fun _ => rfl) open_sig g2
    simp only [List.cons.injEq, and_true] at e0 e1 e2
    subst e0 e1 e2
    refine ⟨⟨a, b, q, l.length, c, l⟩, rfl, ⟨hr, rfl, by unfold LenOk; unfold maxLen at hl; simpa using hl⟩, fun hw => (hfit fun z hz => hw z ?_).1⟩
    rw [hx]
    simp only [DataW.weights, Try.underlying49, List.map_cons, List.map_nil, DataW.weightsEach, List.mem_append]
    simp [hz]
theorem open_proc (fuel : Nat) (cs : List Value) (y : DataW H × List MemPlace) (h : DataW.trod enc Try.prog w base spare held fuel 45 cs = some y) :
    ∃ x : Pc, cs = x.cells ∧ (PcIn w x ∧ PcWf x) ∧ (Within Try.prog 45 y.1 → x.ll ≤ 140737488355328 ∧ x.ol ≤ 140737488355328 ∧ x.tl ≤ 140737488355328 ∧ x.nl ≤ 140737488355328 ∧ x.il ≤ 140737488355328) := by
  obtain ⟨xs, n, hn, hx, hlen, hxl, hf⟩ := DataW.trod_struct Try.underlying45 h
  rw [sz_proc] at hlen
  match xs, hxl, cs, hlen with
  | [y0, y1, y2, y3, y4, y5, y6, y7, y8], _, [v0, v1, v2, v3, v4, v5, v6, v7, v8, v9, v10, v11, v12], _ =>
    have g0 := hf 0 _ rfl
    have g1 := hf 1 _ rfl
    have g2 := hf 2 _ rfl
    have g3 := hf 3 _ rfl
    have g4 := hf 4 _ rfl
    have g5 := hf 5 _ rfl
    have g6 := hf 6 _ rfl
    have g7 := hf 7 _ rfl
    have g8 := hf 8 _ rfl
    simp [sz_int, sz_bool, sz_term, sz_ts, sz_hs, sz_ms, sz_ss] at g0 g1 g2 g3 g4 g5 g6 g7 g8
    obtain ⟨a0, e0, _, w0⟩ := DataW.trod_int Try.underlying3 g0
    obtain ⟨a1, e1, _, _⟩ := DataW.trod_int Try.underlying3 g1
    obtain ⟨k, m, f, s, ra, rl, rc, e2⟩ := open_term n _ _ g2
    obtain ⟨a3, e3, _⟩ := DataW.trod_bool Try.underlying4 g3
    obtain ⟨ia, il, ic, e4, hil, f4⟩ := open_slice (by exact of_decide_eq_true (by kernel_rfl)) Try.underlying24 g4
    obtain ⟨la, lc, links, e5, r5, l5, k5, f5⟩ := open_rows (by exact of_decide_eq_true (by kernel_rfl)) Try.underlying37 sz_half (by omega) (fun _ => rfl) open_half g5
    obtain ⟨oa, oc, orgs, e6, r6, l6, k6, f6⟩ := open_rows (by exact of_decide_eq_true (by kernel_rfl)) Try.underlying42 sz_mon (by omega) (fun _ => rfl) open_mon g6
    obtain ⟨ta, tc, tgts, e7, r7, l7, k7, f7⟩ := open_rows (by exact of_decide_eq_true (by kernel_rfl)) Try.underlying42 sz_mon (by omega) (fun _ => rfl) open_mon g7
    obtain ⟨na, nc, names, e8, r8, l8, k8, f8⟩ := open_rows (encv := fun s : ByteArray => [Value.string s]) (by exact of_decide_eq_true (by kernel_rfl)) Try.underlying43 sz_str (by omega) (fun _ => rfl) open_str g8
    simp only [List.cons.injEq, and_true] at e0 e1 e2 e3 e4 e5 e6 e7 e8
    obtain ⟨rfl, rfl, rfl, rfl, rfl⟩ := e2
    subst e0 e1 e3 e4 e5 e6 e7 e8
    refine ⟨⟨a0, a1, k, m, f, s, ra, rl, rc, a3, ia, il, ic, la, links.length, lc, links, oa, orgs.length, oc, orgs, ta, tgts.length, tc, tgts, na, names.length, nc, names⟩, rfl, ⟨?_, ?_⟩, fun hw => ?_⟩
    · unfold maxLen at hil l5 l6 l7 l8
      exact ⟨r5, r6, r7, r8, ⟨rfl, by unfold LenOk; simp only; omega⟩, ⟨rfl, by unfold LenOk; simp only; omega⟩, ⟨rfl, by unfold LenOk; simp only; omega⟩, ⟨rfl, by unfold LenOk; simp only; omega⟩, by unfold LenOk; simp only; omega⟩
    · exact ⟨w0, k5, k6, k7, k8⟩
    · have sub : ∀ z, (z ∈ y4.1.weights Try.prog 24 ∨ z ∈ y5.1.weights Try.prog 37 ∨ z ∈ y6.1.weights Try.prog 42 ∨ z ∈ y7.1.weights Try.prog 42 ∨ z ∈ y8.1.weights Try.prog 43) → z ≤ reachBytes := fun z hz => hw z (by
        rw [hx]
        simp only [DataW.weights, Try.underlying45, List.map_cons, List.map_nil, DataW.weightsEach, List.mem_append]
        rcases hz with h | h | h | h | h <;> simp [h])
      exact ⟨(f5 fun z hz => sub z (.inr (.inl hz))).1, (f6 fun z hz => sub z (.inr (.inr (.inl hz)))).1, (f7 fun z hz => sub z (.inr (.inr (.inr (.inl hz))))).1, (f8 fun z hz => sub z (.inr (.inr (.inr (.inr hz))))).1, f4 fun z hz => sub z (.inl hz)⟩
theorem open_state (fuel : Nat) (cs : List Value) (y : DataW H × List MemPlace) (h : DataW.trod enc Try.prog w base spare held fuel 26 cs = some y) :
    ∃ (pa la oa : Option Addr) (cp cl no co : Nat) (ps : List Pc) (ls : List Ln), cs = [.slice pa ps.length cp, .slice la ls.length cl, .slice oa no co] ∧ StIn w pa ps la ls ∧ (∀ p ∈ ps, PcWf p) ∧ (Within Try.prog 26 y.1 → Reach ps ls) := by
  obtain ⟨xs, n, hn, hx, hlen, hxl, hf⟩ := DataW.trod_struct Try.underlying26 h
  rw [sz_state] at hlen
  match xs, hxl, cs, hlen with
  | [y0, y1, y2], _, [v0, v1, v2], _ =>
    have g0 := hf 0 _ rfl
    have g1 := hf 1 _ rfl
    have g2 := hf 2 _ rfl
    simp [sz_ps, sz_ls, sz_ts] at g0 g1 g2
    obtain ⟨pa, cp, ps, e0, r0, l0, k0, f0⟩ := open_rows (by exact of_decide_eq_true (by kernel_rfl)) Try.underlying22 sz_proc (by omega) (fun _ => rfl) open_proc g0
    obtain ⟨la, cl, ls, e1, r1, l1, k1, f1⟩ := open_rows (by exact of_decide_eq_true (by kernel_rfl)) Try.underlying23 sz_lane (by omega) (fun _ => rfl) open_lane g1
    obtain ⟨oa, no, co, e2, _⟩ := open_slice (by exact of_decide_eq_true (by kernel_rfl)) Try.underlying24 g2
    simp only [List.cons.injEq, and_true] at e0 e1 e2
    subst e0 e1 e2
    unfold maxLen at l0 l1
    refine ⟨pa, la, oa, cp, cl, no, co, ps, ls, rfl, ⟨r0, fun p hp => (k0 p hp).1, r1, k1, by unfold LenOk; omega, by unfold LenOk; omega⟩, fun p hp => (k0 p hp).2, fun hw => ?_⟩
    have sub : ∀ z, (z ∈ y0.1.weights Try.prog 22 ∨ z ∈ y1.1.weights Try.prog 23) → z ≤ reachBytes := fun z hz => hw z (by
      rw [hx]
      simp only [DataW.weights, Try.underlying26, List.map_cons, List.map_nil, DataW.weightsEach, List.mem_append]
      rcases hz with h | h <;> simp [h])
    exact ⟨(f0 fun z hz => sub z (.inl hz)).2, (f1 fun z hz => sub z (.inr hz)).2⟩
end
end Go.Proofs.Ytjiigabfdigkaaa


