/-
 Layer 8, the program's Parse: what it tells of any source. Condition: the source is no longer than any string is.
-/
import Derived.Test.YthjmakjhidjbaaaGreatLibAW
import Derived.Test.YthjmakjhidjbaaaGreatLibAX
import Derived.Test.YthjmakjhidjbaaaGreatLibAB
namespace Go.Proofs.YthjmakjhidjbaaaGreat
open Go.ChangeShapes Go.WideShapes Go.ChangeAt Go.RowKit Go.Deep
set_option linter.unusedVariables false
set_option linter.unusedSimpArgs false
set_option maxHeartbeats 1000000
set_option maxRecDepth 20000

/-- A source's tokens, without their places. -/
def srcT (tp : List (Tk × Nat)) : List Tk := tp.map Prod.fst
theorem srcT_len (tp : List (Tk × Nat)) : (srcT tp).length = tp.length := List.length_map _
theorem toks_tm (s : ByteArray) (tp : List (Tk × Nat)) : TM (toks s tp) (srcT tp) := by
 refine ⟨by rw [toks_len, srcT_len], fun i hi => ?_⟩
 rw [srcT_len] at hi
 unfold tkv tv tk toks srcT tvs endV
 rw [List.getD_eq_getElem?_getD, List.getD_eq_getElem?_getD]
 rcases Nat.lt_or_ge i tp.length with h | h
 ·rw [List.getElem?_append_left (by rw [List.length_map]; exact h), List.getElem?_map, List.getElem?_map, List.getElem?_eq_getElem h]
  rfl
 ·have e : i = tp.length := by omega
  subst e
  rw [List.getElem?_append_right (by rw [List.length_map]; exact Nat.le_refl _), List.length_map, Nat.sub_self, List.getElem?_map, List.getElem?_eq_none (Nat.le_refl _)]
  rfl
theorem tok_shape {l r : List UInt8} {t : Tk} (h : tokAt docW l = .ok (t, r)) : (t.kind = 1 → t.S = []) ∧ (t.kind ≠ 1 → t.N = 0) ∧ -4611686018427387904 ≤ t.N ∧ t.N ≤ 4611686018427387904 := by
 have hw : ∀ x, -4611686018427387904 ≤ (docW.num x).1 ∧ (docW.num x).1 ≤ 4611686018427387904 := fun x => by
  have hr := parV_rng ⟨x.toArray⟩
  have h1 := numW_lo _ hr.1
  have h2 := numW_hi _ hr.2
  show _ ≤ numW (parV ⟨x.toArray⟩) ∧ numW (parV ⟨x.toArray⟩) ≤ _
  omega
 unfold tokAt at h
 split at h
 ·cases h
 ·split at h
  ·simp only [Except.ok.injEq, Prod.mk.injEq] at h
   obtain ⟨rfl, _⟩ := h
   refine ⟨fun e => ?_, fun _ => rfl, by show _ ≤ (0 : Int); omega, by show (0 : Int) ≤ _; omega⟩
   simp only at e
   split at e
   ·omega
   ·split at e <;> omega
  ·split at h
   ·split at h
    ·cases h
    ·split at h
     ·cases h
     ·simp only [Except.ok.injEq, Prod.mk.injEq] at h
      obtain ⟨rfl, _⟩ := h
      exact ⟨fun _ => rfl, fun e => absurd rfl e, (hw _).1, (hw _).2⟩
   ·split at h
    ·split at h
     ·simp only [Except.ok.injEq, Prod.mk.injEq] at h
      obtain ⟨rfl, _⟩ := h
      exact ⟨fun e => by simp only at e; omega, fun _ => rfl, by show _ ≤ (0 : Int); omega, by show (0 : Int) ≤ _; omega⟩
     ·cases h
    ·split at h
     ·simp only [Except.ok.injEq, Prod.mk.injEq] at h
      obtain ⟨rfl, _⟩ := h
      exact ⟨fun e => by simp only at e; omega, fun _ => rfl, by show _ ≤ (0 : Int); omega, by show (0 : Int) ≤ _; omega⟩
     ·cases h
theorem lexes_shape {l : List UInt8} {ts : List (Tk × Nat)} (h : Lexes docW l ts) : ∀ p, p ∈ ts → (p.1.kind = 1 → p.1.S = []) ∧ (p.1.kind ≠ 1 → p.1.N = 0) ∧ -4611686018427387904 ≤ p.1.N ∧ p.1.N ≤ 4611686018427387904 := by
 induction h with
 | nil => intro p hp; cases hp
 | blank hc h ih => exact ih
 | comment hc h ih => exact ih
 | tok hb hn ht h ih =>
  intro p hp
  rcases List.mem_cons.1 hp with rfl | hp
  ·exact tok_shape ht
  ·exact ih p hp
theorem srcT_shape {s : ByteArray} {tp : List (Tk × Nat)} (h : lexR s = .ok tp) (i : Nat) (hi : i < (srcT tp).length) : ((tk (srcT tp) i).kind = 1 → (tk (srcT tp) i).S = []) ∧ ((tk (srcT tp) i).kind ≠ 1 → (tk (srcT tp) i).N = 0) ∧ -4611686018427387904 ≤ (tk (srcT tp) i).N ∧ (tk (srcT tp) i).N ≤ 4611686018427387904 := by
 have hl := (lexC_lexes docSigns).1 (lexR_ok h).2
 rw [srcT_len] at hi
 have e : tk (srcT tp) i = (tp[i]).1 := by
  unfold tk srcT
  rw [List.getD_eq_getElem?_getD, List.getElem?_map, List.getElem?_eq_getElem hi]
  rfl
 rw [e]
 exact lexes_shape hl _ (List.getElem_mem hi)
/-- A token's place in a source. -/
def plS (s : ByteArray) : Nat → Int := match lexR s with | .ok tp => plM (toks s tp) | .error _ => fun _ => 0
/-- What Parse tells: the items, or what is wrong, and where. -/
def parseR (s : ByteArray) : Except (Int × Int) (List Tr) :=
 match lexR s with
 | .error (e, k) => .error (e, ((s.size - k : Nat) : Int))
 | .ok tp =>
  match reads (srcT tp) .items 0 with
  | .error m => .error (21, plM (toks s tp) m)
  | .ok (x, _) =>
   if 4096 < 1 + cntL x.L then .error (3, 0)
   else match deepL (plM (toks s tp)) 149 x.L with
    | some p => .error (22, p)
    | none => .ok x.L
/-- What it tells, as values. -/
def ParseAs (f : Nat → Int) (r : Except (Int × Int) (List Tr)) (w : World) (e : Ending) (w' : World) : Prop :=
 Below w.heap.size w w' ∧
 match r with
 | .ok L => ∃ (ao : Option Addr) (cp : Nat), e = .returned (.tuple #[.agg #[.int .i64 211, .int .i64 0, .int .i64 0, .string ⟨#[]⟩, .slice ao L.length cp], .int .i64 0, .int .i64 0]) ∧ RL f (fun g => w.heap.size ≤ g) w' L ao
 | .error (e', p) => e = .returned (.tuple #[.agg #[.int .i64 0, .int .i64 0, .int .i64 0, .string ⟨#[]⟩, .slice none 0 0], .int .i64 e', .int .i64 p])
theorem parse_results {w : World} {p : Nat} {a b d : Int} {x : ByteArray} {v : Value} (h : B5 w p a b d x v) (tmps : Array Value) (u3 u4 : Value) (h2 : tmps.getD 2 undef = .pointer (some ⟨p, 0, none⟩)) (h3 : tmps.getD 3 undef = u3) (h4 : tmps.getD 4 undef = u4) : (results Tryz.f10 tmps).run Tryz.prog w = .ok (.tuple #[.agg #[.int .i64 a, .int .i64 b, .int .i64 d, .string x, v], u3, u4]) w := by
 have g2 : tmps[2]?.getD undef = .pointer (some ⟨p, 0, none⟩) := by simpa using h2
 have g3 : tmps[3]?.getD undef = u3 := by simpa using h3
 have g4 : tmps[4]?.getD undef = u4 := by simpa using h4
 obtain ⟨n0, n1, n2, n3, n4, nf⟩ := h.cells
 simp [results, Tryz.results10, g2, g3, g4, asAddr, go_sem, n0, n1, n2, n3, n4]
theorem below_fill5 {w w' : World} {B p : Nat} (h : Below B w w') (hp : B ≤ p) (a b d : Int) (x : ByteArray) (v : Value) : Below B w (fill5 w' p a b d x v) := by
 unfold fill5
 exact ((((h.setCell hp _).setCell hp _).setCell hp _).setCell hp _).setCell hp _
theorem parseP_lex {s : ByteArray} {e' : Int} {k : Nat} (w : World) (h : lexR s = .error (e', k)) (hz : s.size ≤ maxLen) : Calls Tryz.prog 10 #[.string s] w fun e w' => ParseAs (plS s) (parseR s) w e w' := by
 have hR : parseR s = .error (e', ((s.size - k : Nat) : Int)) := by unfold parseR; rw [h]
 rw [hR]
 have he : e' ≠ 0 := lexR_err h
 have A0 := hidden (B5.new w 0 0 0 ⟨#[]⟩ (.slice none 0 0))
 have B0 := hidden ((Below.refl w.heap.size w).alloc (Nat.le_refl _) (.cells #[.int .i64 0, .int .i64 0, .int .i64 0, .string ⟨#[]⟩, .slice none 0 0] 25))
 have H := hidden h
 have HZ := hidden hz
 clear h hz hR
 go_enter Tryz.func10, Tryz.ntmps10
 go_wp2_with fail
 generalize w.alloc (.cells #[.int .i64 0, .int .i64 0, .int .i64 0, .string ⟨#[]⟩, .slice none 0 0] 25) = w1 at *
 refine (lexP_err w1 H.out HZ.out).mono ?_
 rintro e w2 ⟨rfl, hb⟩
 have A2 := hidden (A0.out.below hb (Nat.le_refl _))
 have B2 := hidden (B0.out.trans (hb.mono B0.out.size))
 obtain ⟨n0, n1, n2, n3, n4, nf⟩ := A2.out.cells
 clear hb
 go_wp2_with fail
 refine bodyPost_ret (parse_results (A2.out.fill 0 0 0 ⟨#[]⟩ (.slice none 0 0)) _ _ _ rfl rfl rfl) rfl ?_
 exact ⟨below_fill5 B2.out (Nat.le_refl _) 0 0 0 ⟨#[]⟩ (.slice none 0 0), rfl⟩
theorem cnt_root (L : List Tr) : (Tr.mk 211 0 0 [] L).cnt = 1 + cntL L := by rw [Tr.cnt]; omega
theorem items_cnt {ts : List Tk} {x : Tr} {j : Nat} (h : reads ts .items 0 = .ok (x, j)) : 1 + cntL x.L ≤ 4 * ts.length + 1 := by
 have h1 : PL 0 j x.L := reads_post h
 have h2 := (reads_fine (ts := ts) .items (i := 0) (Nat.zero_le _))
 rw [h] at h2
 have h3 : j ≤ ts.length := h2.2.1
 have := h1.2
 omega
theorem parseP_ok {s : ByteArray} {tp : List (Tk × Nat)} (w : World) (h : lexR s = .ok tp) : Calls Tryz.prog 10 #[.string s] w fun e w' => ParseAs (plM (toks s tp)) (parseR s) w e w' := by
 obtain ⟨R, hR⟩ : ∃ R, parseR s = R := ⟨_, rfl⟩
 rw [hR]
 unfold parseR at hR
 rw [h] at hR
 have hlen := lexR_count h
 have H := hidden h
 have A0 := hidden (B5.new w 0 0 0 ⟨#[]⟩ (.slice none 0 0))
 have B0 := hidden ((Below.refl w.heap.size w).alloc (Nat.le_refl _) (.cells #[.int .i64 0, .int .i64 0, .int .i64 0, .string ⟨#[]⟩, .slice none 0 0] 25))
 have HR := hidden hR
 clear h hR
 go_enter Tryz.func10, Tryz.ntmps10
 go_wp2_with fail
 generalize w.alloc (.cells #[.int .i64 0, .int .i64 0, .int .i64 0, .string ⟨#[]⟩, .slice none 0 0] 25) = w1 at *
 refine (lexP_ok w1 H.out).mono ?_
 rintro e w2 ⟨ao, lc, rfl, ht, ⟨⟨g, rfl, hg, cur, hcur⟩, hlc⟩, hb⟩
 have A2 := hidden (A0.out.below hb (Nat.le_refl _))
 have B2 := hidden (B0.out.trans (hb.mono B0.out.size))
 have T2 := hidden (tree_as (toks_tm s tp) ht (lt_of_some hcur) (by rw [toks_len]; exact hlc) (by rw [toks_len]; omega) (fun i hi => ⟨(srcT_shape H.out i hi).1, (srcT_shape H.out i hi).2.1⟩) (fun i hi => (srcT_shape H.out i hi).2.2))
 rw [toks_len] at T2
 have hbs := hb.size
 have HBS := hidden hbs
 clear hb ht hg hcur hlc hbs
 go_wp2_with fail
 refine T2.out.mono ?_
 rintro e w3 ⟨hb, hm⟩
 have A3 := hidden (A2.out.below hb (Nat.le_refl _))
 have B3 := hidden (B2.out.trans (hb.mono B2.out.size))
 have B23 := hidden hb
 clear hb T2
 cases hx : reads (srcT tp) .items 0 with
 | error m =>
  rw [hx] at hm
  have HR2 := HR.out
  rw [hx] at HR2
  subst HR2
  subst hm
  obtain ⟨pm, hpm⟩ : ∃ pm, plM (toks s tp) m = pm := ⟨_, rfl⟩
  rw [hpm]
  have HPM := hidden hpm
  clear HR hx hpm
  have A4 := hidden (A3.out.alloc (.cells #[.int .i64 0, .int .i64 0, .int .i64 0, .string ⟨#[]⟩, .slice none 0 0] 25))
  have B4 := hidden (B3.out.alloc (by have := B3.out.size; omega) (.cells #[.int .i64 0, .int .i64 0, .int .i64 0, .string ⟨#[]⟩, .slice none 0 0] 25))
  go_upto_region 6 with fail
  generalize w3.alloc (.cells #[.int .i64 0, .int .i64 0, .int .i64 0, .string ⟨#[]⟩, .slice none 0 0] 25) = w4 at *
  obtain ⟨n0, n1, n2, n3, n4, nf⟩ := A4.out.cells
  go_wp2_with fail
  refine bodyPost_ret (parse_results (A4.out.fill 0 0 0 ⟨#[]⟩ (.slice none 0 0)) _ _ _ rfl rfl rfl) rfl ?_
  refine ⟨below_fill5 B4.out (Nat.le_refl _) 0 0 0 ⟨#[]⟩ (.slice none 0 0), ?_⟩
  show Ending.returned (.tuple #[_, _, .int .i64 pm]) = Ending.returned (.tuple #[_, _, .int .i64 (plM (toks s tp) m)])
  rw [HPM.out]
  rfl
 | ok xj =>
  obtain ⟨x, j⟩ := xj
  rw [hx] at hm
  obtain ⟨ao, cp, rfl, hl⟩ := hm
  have hcnt := items_cnt hx
  rw [srcT_len] at hcnt
  have HR2 := HR.out
  rw [hx] at HR2
  simp only at HR2
  have HR3 := hidden HR2
  clear HR HR2 hx
  have HC : Hid (∀ w P, RL (plM (toks s tp)) P w x.L ao → Calls Tryz.prog 16 #[.agg #[.int .i64 211, .int .i64 0, .int .i64 0, .string ⟨#[]⟩, .slice ao x.L.length cp], .int .i64 4096] w fun e w' => e = .returned (.int .i64 (cntM (.mk 211 0 0 [] x.L) 4096)) ∧ Below w.heap.size w w') := hidden (fun w P r => countP 20000 (.mk 211 0 0 [] x.L) (by rw [cnt_root]; omega) (by omega) w ao cp 0 4096 (by omega) (by omega) r)
  have HD : Hid (∀ w P, RL (plM (toks s tp)) P w x.L ao → Calls Tryz.prog 14 #[.agg #[.int .i64 211, .int .i64 0, .int .i64 0, .string ⟨#[]⟩, .slice ao x.L.length cp], .int .i64 150] w fun e w' => e = .returned (deepR (deepL (plM (toks s tp)) 149 x.L)) ∧ Below w.heap.size w w') := hidden (fun w P r => deepP 20000 (.mk 211 0 0 [] x.L) (by rw [cnt_root]; omega) (by omega) w ao cp 0 150 (by omega) r)
  have A4 := hidden (A3.out.alloc (.cells #[.int .i64 211, .int .i64 0, .int .i64 0, .string ⟨#[]⟩, .slice ao x.L.length cp] 25))
  have V4 := hidden (B5.new w3 211 0 0 ⟨#[]⟩ (.slice ao x.L.length cp))
  have B4 := hidden (B3.out.alloc (by have := B3.out.size; omega) (.cells #[.int .i64 211, .int .i64 0, .int .i64 0, .string ⟨#[]⟩, .slice ao x.L.length cp] 25))
  have X4 := hidden (hl.alloc (.cells #[.int .i64 211, .int .i64 0, .int .i64 0, .string ⟨#[]⟩, .slice ao x.L.length cp] 25))
  have yl := A3.out.lt
  have B2s := hidden A2.out.lt
  clear hl A3 B3 B23 A0 A2
  go_wp2_with fail
  generalize w3.alloc (.cells #[.int .i64 211, .int .i64 0, .int .i64 0, .string ⟨#[]⟩, .slice ao x.L.length cp] 25) = w4 at *
  refine (HC.out w4 _ X4.out).mono ?_
  rintro e w5 ⟨rfl, hb⟩
  have A5 := hidden (A4.out.below hb (Nat.le_refl _))
  have V5 := hidden (V4.out.below hb (Nat.le_refl _))
  have X5 := hidden (X4.out.keep (fun g _ hlt => hb.block g hlt))
  have B5 := hidden (B4.out.trans (hb.mono B4.out.size))
  have yn := Nat.ne_of_lt yl
  clear hb A4 V4 X4 B4 HC
  obtain ⟨n0, n1, n2, n3, n4, nf⟩ := A5.out.cells
  obtain ⟨v0, v1, v2, v3, v4, vf⟩ := V5.out.cells
  by_cases hc : 4096 < 1 + cntL x.L
  ·have e1 : cntM (.mk 211 0 0 [] x.L) 4096 = 4097 := by unfold cntM; rw [cnt_root, if_neg (by omega), if_neg (by omega)]; rfl
   rw [e1]
   have hR := HR3.out
   rw [if_pos hc] at hR
   subst hR
   clear hc HR3
   go_wp2_with fail
   refine bodyPost_ret (parse_results (A5.out.fill 0 0 0 ⟨#[]⟩ (.slice none 0 0)) _ _ _ rfl rfl rfl) rfl ?_
   exact ⟨below_fill5 B5.out (Nat.le_refl _) 0 0 0 ⟨#[]⟩ (.slice none 0 0), rfl⟩
  ·have e1 : cntM (.mk 211 0 0 [] x.L) 4096 = ((1 + cntL x.L : Nat) : Int) := by unfold cntM; rw [cnt_root, if_neg (by omega), if_pos (by omega)]
   rw [e1]
   have hR := HR3.out
   rw [if_neg hc] at hR
   obtain ⟨n, hn⟩ : ∃ n, 1 + cntL x.L = n := ⟨_, rfl⟩
   rw [hn] at hc ⊢
   have hc2 : ¬ (4096 : Int) < (n : Int) := by omega
   have HR4 := hidden hR
   clear hn e1 HR3 hR
   go_wp2_with fail
   have HD2 := HD.out w5 _ X5.out
   have hR := HR4.out
   clear HD
   cases hd : deepL (plM (toks s tp)) 149 x.L with
   | some p =>
    rw [hd] at hR HD2
    subst hR
    have HD3 : Hid (Calls Tryz.prog 14 #[.agg #[.int .i64 211, .int .i64 0, .int .i64 0, .string ⟨#[]⟩, .slice ao x.L.length cp], .int .i64 150] w5 fun e w' => e = .returned (.tuple #[.int .i64 p, .bool true]) ∧ Below w5.heap.size w5 w') := hidden HD2
    clear HR4 hd HD2
    refine HD3.out.mono ?_
    rintro e w6 ⟨rfl, hb⟩
    have A6 := hidden (A5.out.below hb (Nat.le_refl _))
    have V6 := hidden (V5.out.below hb (Nat.le_refl _))
    have X6 := hidden (X5.out.keep (fun g _ hlt => hb.block g hlt))
    have B6 := hidden (B5.out.trans (hb.mono B5.out.size))
    clear hb A5 V5 X5 B5 HD3 n0 n1 n2 n3 n4 nf v0 v1 v2 v3 v4 vf
    obtain ⟨n0, n1, n2, n3, n4, nf⟩ := A6.out.cells
    obtain ⟨v0, v1, v2, v3, v4, vf⟩ := V6.out.cells
    go_wp2_with fail
    refine bodyPost_ret (parse_results (A6.out.fill 0 0 0 ⟨#[]⟩ (.slice none 0 0)) _ _ _ rfl rfl rfl) rfl ?_
    exact ⟨below_fill5 B6.out (Nat.le_refl _) 0 0 0 ⟨#[]⟩ (.slice none 0 0), rfl⟩
   | none =>
    rw [hd] at hR HD2
    subst hR
    have HD3 : Hid (Calls Tryz.prog 14 #[.agg #[.int .i64 211, .int .i64 0, .int .i64 0, .string ⟨#[]⟩, .slice ao x.L.length cp], .int .i64 150] w5 fun e w' => e = .returned (.tuple #[.int .i64 0, .bool false]) ∧ Below w5.heap.size w5 w') := hidden HD2
    clear HR4 hd HD2
    refine HD3.out.mono ?_
    rintro e w6 ⟨rfl, hb⟩
    have A6 := hidden (A5.out.below hb (Nat.le_refl _))
    have V6 := hidden (V5.out.below hb (Nat.le_refl _))
    have X6 := hidden (X5.out.keep (fun g _ hlt => hb.block g hlt))
    have B6 := hidden (B5.out.trans (hb.mono B5.out.size))
    clear hb A5 V5 X5 B5 HD3 n0 n1 n2 n3 n4 nf v0 v1 v2 v3 v4 vf
    obtain ⟨n0, n1, n2, n3, n4, nf⟩ := A6.out.cells
    obtain ⟨v0, v1, v2, v3, v4, vf⟩ := V6.out.cells
    go_wp2_with fail
    refine bodyPost_ret (parse_results (A6.out.fill 211 0 0 ⟨#[]⟩ (.slice ao x.L.length cp)) _ _ _ rfl rfl rfl) rfl ?_
    refine ⟨below_fill5 B6.out (Nat.le_refl _) 211 0 0 ⟨#[]⟩ (.slice ao x.L.length cp), ao, cp, rfl, ?_⟩
    exact (X6.out.fill5 (p := w.heap.size) (fun g hg => by have := B2s.out; omega) _ _ _ _ _).mono (fun g hg _ => by have := B2s.out; omega)
end Go.Proofs.YthjmakjhidjbaaaGreat
