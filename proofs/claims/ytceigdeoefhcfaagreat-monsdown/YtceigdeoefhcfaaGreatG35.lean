import Derived.Test.YtceigdeoefhcfaaGreatG33
import Derived.Deep.RegionHeld3
import Derived.Deep.RegionWith
import Derived.BigQuiet
import Derived.WalkSmall
/- MonsDown: move 4, walked. -/
namespace Go.Proofs.YtceigdeoefhcfaaGreat
open Go.RowKit Go.Lib
open MV (Hf hf0 getL insL delL Rise Wfk TB Nw Rst KV MnT mvs)
attribute [local go_sem] store_float f64bits
attribute [local go_sem ↓] Go.wp_at_zero Go.wp_at_succ

variable {Yg : Nat → Prop} {wG : World} {w0 w w' : World} {wb ta tb eb N refs : Nat} {O T O' T' : List KV} {p q : List Sg} {dead : Bool} {dn : List Nat}
set_option maxRecDepth 100000 in
set_option maxHeartbeats 8000000 in
theorem does4_md {g : Int → Prop} {i : Nat} {sr : Int} (h : DL Yg wG NoX w0 w wb ta tb eb O T (⟨6, sr, 0, nil8⟩ :: p) q true refs dn N) (hi : Iv g i O T (⟨6, sr, 0, nil8⟩ :: p) q true refs dn N) (hN : i ≤ 3000) (rf : Int) :
    Calls Tryz.prog 7 #[.pointer (some ⟨wb, 0, none⟩), .agg #[.int .i64 4, .int .i64 rf]] w (DoQ Yg wG g i p.length (q.length + 1) w0 wb ta tb eb) := by
  have hbs := hi.bs
  obtain ⟨W1, hW1⟩ : ∃ W1, w.alloc (.cells #[.int .i64 4, .int .i64 rf] 34) = W1 := ⟨_, rfl⟩
  have hb1 : Below w.heap.size w W1 := hW1 ▸ below_new _ _
  have hD1 : Duo W1 w.heap.size (.int .i64 4) (.int .i64 rf) := hW1 ▸ Duo.new _ _ _ _
  have hlw : w.heap.size < W1.heap.size := by rw [← hW1]; simp
  have hnw : w.heap.size ≠ W1.heap.size := by omega
  obtain ⟨V0, hS0, -, -, -⟩ := h.box
  have hwl := hS0.lt
  have hwl1 : wb < W1.heap.size := by omega
  have hwn : wb ≠ w.heap.size := by omega
  have hwn1 : wb ≠ W1.heap.size := by omega
  have hS1 := hS0.own hb1
  have n0 := hD1.c0
  have n1 := hD1.c1
  have k0 := hS1.c0; have k1 := hS1.c1; have k2 := hS1.c2; have k3 := hS1.c3
  have HB1 := hidb hb1
  have hsq := hbs.fp _ (List.mem_cons_self ..)
  have hb9 := hbs.b
  have ha9 := hbs.a
  have hr9 := hbs.r
  have CT : Hid (Calls Tryz.prog 16 #[.pointer (some ⟨eb, 0, none⟩), .int .i64 1, .int .i64 2] W1 fun e w2 => e = .returned (.tuple #[sgv 1 2 ⟨6, sr, 0, nil8⟩, .bool true]) ∧ w2.cell? ⟨wb, 1, none⟩ = some (.pointer (some ⟨tb, 0, none⟩)) ∧ w2.cell? ⟨wb, 2, none⟩ = some (.pointer (some ⟨eb, 0, none⟩)) ∧ w2.cell? ⟨wb, 3, none⟩ = some (.bool true) ∧ wb < w2.heap.size ∧ Hid (DL Yg wG NoX w0 w2 wb ta tb eb O T p q true refs dn N)) := hidb (((h.keep hb1).take12 (by omega) (by simp at ha9; omega)).mono (by
    rintro e w2 ⟨rfl, hd2, -⟩
    obtain ⟨V2, hS2, -, -, -⟩ := hd2.box
    exact ⟨rfl, hS2.c1, hS2.c2, hS2.c3, hS2.lt, hidb hd2⟩))
  have hiv := hi.m4d rfl
  clear hS0 hS1 hD1 hb1 h hi
  go_enter Tryz.func7, Tryz.ntmps7
  go_wp2_with (go_at_call 16; refine CT.out.mono ?_; rintro e w2 ⟨rfl, m1, m2, m3, hwl2, HD2⟩; have hwn2 : wb ≠ w2.heap.size := (by omega))
  obtain ⟨W3, hW3⟩ : ∃ W3, w2.alloc (.cells #[.int .i64 1, .int .i64 2, .int .i64 6, .int .i64 0, .int .i64 sr, .bool false, .string ⟨#[]⟩, .int .i64 0, .int .i64 0, .float .f64 0, .string ⟨#[]⟩, .slice none 0 0] 64) = W3 := ⟨_, rfl⟩
  rw [hW3]
  have hb3 : Below w2.heap.size w2 W3 := hW3 ▸ below_new _ _
  have P4 : W3.cell? ⟨w2.heap.size, 4, none⟩ = some (.int .i64 sr) := by rw [← hW3, World.cell?_alloc_new]; rfl
  have hl3 : w2.heap.size < W3.heap.size := by rw [← hW3]; simp
  have j2 : W3.cell? ⟨wb, 2, none⟩ = some (.pointer (some ⟨eb, 0, none⟩)) := (hb3.cell (p := ⟨wb, 2, none⟩) hwl2).trans m2
  have hd3 : DL Yg wG (fun k => k = w2.heap.size) w0 W3.drew wb ta tb eb O T p q true refs dn N := HD2.out.turn (hb3.drew) (fun k hk => by have hk' : k = w2.heap.size := hk; have : W3.drew.heap.size = W3.heap.size := rfl; omega)
  have CP : Hid (Calls Tryz.prog 14 #[.pointer (some ⟨eb, 0, none⟩), .agg #[.int .i64 2, .int .i64 1, .int .i64 8, .int .i64 0, .int .i64 sr, .bool false, .string ⟨#[]⟩, .int .i64 3, .int .i64 0, .float .f64 0, .string ⟨#[110, 111, 112, 114, 111, 99]⟩, .slice none 0 0]] W3.drew fun e w5 => e = .returned (.int .i64 0) ∧ Hid (w5.cell? ⟨wb, 2, none⟩ = some (.pointer (some ⟨eb, 0, none⟩)) ∧ w5.cell? ⟨w2.heap.size, 4, none⟩ = some (.int .i64 sr)) ∧ Hid (DoQ Yg wG g i p.length (q.length + 1) w0 wb ta tb eb (.returned (.tuple #[])) w5)) := by
    refine hidb ((hd3.put21 (s := ⟨8, sr, 3, noproc⟩) (fun w => check_q ⟨rfl, rfl, .inl rfl, hsq.2.2.2.1, by have := hsq.2.2.2.2; simp only at this ⊢; omega⟩ w) (by omega) (by simp at ha9; omega)).mono ?_)
    rintro e w5 ⟨rfl, hd5, hb5⟩
    obtain ⟨V5, hS5, -, -, -⟩ := hd5.box
    exact ⟨rfl, hidb ⟨hS5.c2, (hb5.cell (p := ⟨w2.heap.size, 4, none⟩) hl3 (fun hh => hh rfl)).trans P4⟩, hidb ⟨rfl, _, _, _, _, _, _, _, _, hd5.turn (Below.refl _ _) (fun _ hk => hk.elim), hiv, rfl, by simp⟩⟩
  have HS0 : Hid (W3.drew.cell? ⟨wb, 2, none⟩ = some (.pointer (some ⟨eb, 0, none⟩)) ∧ W3.drew.cell? ⟨w2.heap.size, 4, none⟩ = some (.int .i64 sr)) := hidb ⟨j2, P4⟩
  clear hW3 hb3 P4 hl3 j2 hd3 hiv hbs hsq hb9 ha9 hr9 HD2 CT n0 n1 k0 k1 k2 k3 hwl hwl1 hwn hwn1 hlw hnw m1 m2 m3 HB1
  go_region_held3 (fun w' => w'.cell? ⟨wb, 2, none⟩ = some (.pointer (some ⟨eb, 0, none⟩)) ∧ w'.cell? ⟨w2.heap.size, 4, none⟩ = some (.int .i64 sr)) (first | with_reducible exact HS0.out | with_reducible exact HS1.out) (first | (go_at_call 14; refine CP.out.mono ?_; rintro e w5 ⟨rfl, HS1, HR⟩))
  go_wp2_with fail
  exact bodyPost_end (v := .tuple #[]) (by simp [results, Tryz.results7, go_sem]) rfl HR.out

end Go.Proofs.YtceigdeoefhcfaaGreat


/- MonsDown: move 4, walked. -/
namespace Go.Proofs.YtceigdeoefhcfaaGreat
open Go.RowKit Go.Lib
open MV (Hf hf0 getL insL delL Rise Wfk TB Nw Rst KV MnT mvs)
attribute [local go_sem] store_float f64bits
attribute [local go_sem ↓] Go.wp_at_zero Go.wp_at_succ

variable {Yg : Nat → Prop} {wG : World} {w0 w w' : World} {wb ta tb eb N refs : Nat} {O T O' T' : List KV} {p q : List Sg} {dead : Bool} {dn : List Nat}
set_option maxRecDepth 100000 in
set_option maxHeartbeats 8000000 in
theorem does4_ma {g : Int → Prop} {i : Nat} {sr : Int} (h : DL Yg wG NoX w0 w wb ta tb eb O T (⟨6, sr, 0, nil8⟩ :: p) q false refs dn N) (hi : Iv g i O T (⟨6, sr, 0, nil8⟩ :: p) q false refs dn N) (hN : i ≤ 3000) (rf : Int) :
    Calls Tryz.prog 7 #[.pointer (some ⟨wb, 0, none⟩), .agg #[.int .i64 4, .int .i64 rf]] w (DoQ Yg wG g i p.length (q.length + 1) w0 wb ta tb eb) := by
  have hbs := hi.bs
  obtain ⟨W1, hW1⟩ : ∃ W1, w.alloc (.cells #[.int .i64 4, .int .i64 rf] 34) = W1 := ⟨_, rfl⟩
  have hb1 : Below w.heap.size w W1 := hW1 ▸ below_new _ _
  have hD1 : Duo W1 w.heap.size (.int .i64 4) (.int .i64 rf) := hW1 ▸ Duo.new _ _ _ _
  have hlw : w.heap.size < W1.heap.size := by rw [← hW1]; simp
  have hnw : w.heap.size ≠ W1.heap.size := by omega
  obtain ⟨V0, hS0, -, -, -⟩ := h.box
  have hwl := hS0.lt
  have hwl1 : wb < W1.heap.size := by omega
  have hwn : wb ≠ w.heap.size := by omega
  have hwn1 : wb ≠ W1.heap.size := by omega
  have hS1 := hS0.own hb1
  have n0 := hD1.c0
  have n1 := hD1.c1
  have k0 := hS1.c0; have k1 := hS1.c1; have k2 := hS1.c2; have k3 := hS1.c3
  have HB1 := hidb hb1
  have hsq := hbs.fp _ (List.mem_cons_self ..)
  have hb9 := hbs.b
  have ha9 := hbs.a
  have hr9 := hbs.r
  have CT : Hid (Calls Tryz.prog 16 #[.pointer (some ⟨eb, 0, none⟩), .int .i64 1, .int .i64 2] W1 fun e w2 => e = .returned (.tuple #[sgv 1 2 ⟨6, sr, 0, nil8⟩, .bool true]) ∧ w2.cell? ⟨wb, 1, none⟩ = some (.pointer (some ⟨tb, 0, none⟩)) ∧ w2.cell? ⟨wb, 2, none⟩ = some (.pointer (some ⟨eb, 0, none⟩)) ∧ w2.cell? ⟨wb, 3, none⟩ = some (.bool false) ∧ wb < w2.heap.size ∧ Hid (DL Yg wG NoX w0 w2 wb ta tb eb O T p q false refs dn N)) := hidb (((h.keep hb1).take12 (by omega) (by simp at ha9; omega)).mono (by
    rintro e w2 ⟨rfl, hd2, -⟩
    obtain ⟨V2, hS2, -, -, -⟩ := hd2.box
    exact ⟨rfl, hS2.c1, hS2.c2, hS2.c3, hS2.lt, hidb hd2⟩))
  have hiv := hi.m4a rfl
  clear hS0 hS1 hD1 hb1 h hi
  go_enter Tryz.func7, Tryz.ntmps7
  go_wp2_with (go_at_call 16; refine CT.out.mono ?_; rintro e w2 ⟨rfl, m1, m2, m3, hwl2, HD2⟩; have hwn2 : wb ≠ w2.heap.size := (by omega))
  obtain ⟨W3, hW3⟩ : ∃ W3, w2.alloc (.cells #[.int .i64 1, .int .i64 2, .int .i64 6, .int .i64 0, .int .i64 sr, .bool false, .string ⟨#[]⟩, .int .i64 0, .int .i64 0, .float .f64 0, .string ⟨#[]⟩, .slice none 0 0] 64) = W3 := ⟨_, rfl⟩
  rw [hW3]
  have hb3 : Below w2.heap.size w2 W3 := hW3 ▸ below_new _ _
  have P4 : W3.cell? ⟨w2.heap.size, 4, none⟩ = some (.int .i64 sr) := by rw [← hW3, World.cell?_alloc_new]; rfl
  have hl3 : w2.heap.size < W3.heap.size := by rw [← hW3]; simp
  have j1 : W3.cell? ⟨wb, 1, none⟩ = some (.pointer (some ⟨tb, 0, none⟩)) := (hb3.cell (p := ⟨wb, 1, none⟩) hwl2).trans m1
  have hd3 : DL Yg wG (fun k => k = w2.heap.size) w0 W3.drew wb ta tb eb O T p q false refs dn N := HD2.out.turn (hb3.drew) (fun k hk => by have hk' : k = w2.heap.size := hk; have : W3.drew.heap.size = W3.heap.size := rfl; omega)
  have CP : Hid (Calls Tryz.prog 17 #[.pointer (some ⟨tb, 0, none⟩), .int .i64 sr, .int .i64 1] W3.drew fun e w5 => e = .returned (.int .i64 (putE 1 ⟨sr, 1, nil8⟩ T)) ∧ Hid (w5.cell? ⟨wb, 1, none⟩ = some (.pointer (some ⟨tb, 0, none⟩)) ∧ w5.cell? ⟨w2.heap.size, 4, none⟩ = some (.int .i64 sr)) ∧ Hid (DoQ Yg wG g i p.length (q.length + 1) w0 wb ta tb eb (.returned (.tuple #[])) w5)) := by
    refine hidb ((hd3.opB (T' := putL 1 ⟨sr, 1, nil8⟩ T) (R := fun e => e = .returned (.int .i64 (putE 1 ⟨sr, 1, nil8⟩ T))) (fun D hD => (monm_any hD (by omega) sr 1).mono (by rintro e w' ⟨rfl, hu⟩; exact ⟨rfl, hu⟩))).mono ?_)
    rintro e w5 ⟨rfl, hd5, hb5⟩
    obtain ⟨V5, hS5, -, -, -⟩ := hd5.box
    exact ⟨rfl, hidb ⟨hS5.c1, (hb5.cell (p := ⟨w2.heap.size, 4, none⟩) hl3 (fun hh => hh rfl)).trans P4⟩, hidb ⟨rfl, _, _, _, _, _, _, _, _, hd5.turn (Below.refl _ _) (fun _ hk => hk.elim), hiv, rfl, by simp⟩⟩
  have HS0 : Hid (W3.drew.cell? ⟨wb, 1, none⟩ = some (.pointer (some ⟨tb, 0, none⟩)) ∧ W3.drew.cell? ⟨w2.heap.size, 4, none⟩ = some (.int .i64 sr)) := hidb ⟨j1, P4⟩
  clear hW3 hb3 P4 hl3 j1 hd3 hiv hbs hsq hb9 ha9 hr9 HD2 CT n0 n1 k0 k1 k2 k3 hwl hwl1 hwn hwn1 hlw hnw m1 m2 m3 HB1
  go_region_held3 (fun w' => w'.cell? ⟨wb, 1, none⟩ = some (.pointer (some ⟨tb, 0, none⟩)) ∧ w'.cell? ⟨w2.heap.size, 4, none⟩ = some (.int .i64 sr)) (first | with_reducible exact HS0.out | with_reducible exact HS1.out) (first | (go_at_call 17; refine CP.out.mono ?_; rintro e w5 ⟨rfl, HS1, HR⟩))
  go_wp2_with fail
  exact bodyPost_end (v := .tuple #[]) (by simp [results, Tryz.results7, go_sem]) rfl HR.out

end Go.Proofs.YtceigdeoefhcfaaGreat


