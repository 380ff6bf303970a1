/-
  Layer 5: what the document's own Read tells of a word. Condition: the document's own arena lies in memory (Both).
-/
import Derived.Test.YtcbgjkedmboifaaR5Fields
import Derived.Test.YtcbgjkedmboifaaLibB
namespace Go.Proofs.Ytcbgjkedmboifaa
open Go.ChangeShapes Go.WideShapes Go.ChangeAt Go.RowKit Go.Deep
set_option linter.unusedVariables false
set_option maxHeartbeats 1000000

/-- What is left of a number behind its j lowest bytes. -/
def quoN : Nat → Int → Int
  | 0, x => x
  | j + 1, x => quoN j x / 256
theorem quoN_in : ∀ (j : Nat) (x : Int), quoN (j + 1) x = quoN j (x / 256)
  | 0, x => rfl
  | j + 1, x => by show quoN (j + 1) x / 256 = quoN j (x / 256) / 256; rw [quoN_in j x]
theorem quoN_rng : ∀ (j : Nat) (x : Int), 0 ≤ x → x ≤ 18446744073709551615 → 0 ≤ quoN j x ∧ quoN j x ≤ 18446744073709551615
  | 0, x, h0, h1 => ⟨h0, h1⟩
  | j + 1, x, h0, h1 => by obtain ⟨a, b⟩ := quoN_rng j x h0 h1; show 0 ≤ quoN j x / 256 ∧ quoN j x / 256 ≤ _; omega
theorem bytesN_snoc : ∀ (j : Nat) (x : Int), bytesN (j + 1) x = bytesN j x ++ [UInt8.ofNat (quoN j x % 256).toNat]
  | 0, x => rfl
  | j + 1, x => by
    show UInt8.ofNat (x % 256).toNat :: bytesN (j + 1) (x / 256) = (UInt8.ofNat (x % 256).toNat :: bytesN j (x / 256)) ++ _
    rw [bytesN_snoc j (x / 256), quoN_in]; rfl
theorem bytesF_append : ∀ (F G : List Int), bytesF (F ++ G) = bytesF F ++ bytesF G
  | [], G => rfl
  | x :: F, G => by show bytesN 8 x ++ bytesF (F ++ G) = (bytesN 8 x ++ bytesF F) ++ bytesF G; rw [bytesF_append F G, List.append_assoc]
theorem bytesF_snoc {F : List Int} {k : Nat} (hk : k < F.length) : bytesF (F.take (k + 1)) = bytesF (F.take k) ++ bytesN 8 (F.getD k 0) := by
  rw [List.take_add_one, bytesF_append, List.getD_eq_getElem?_getD, List.getElem?_eq_getElem hk]
  show _ ++ (bytesN 8 F[k] ++ []) = _
  rw [List.append_nil]; rfl
/-- Which text a block holds. -/
def textF (b : Blk) : Option (List UInt8) := if b.tag = 202 then readT b.F else none
def textOut (o : Option (List UInt8)) : Value := .tuple #[.string ⟨(o.getD []).toArray⟩, .int .i64 (if o.isSome then 0 else 5)]
variable {w : World} {p : Pl} {s : St} {rb : Nat} {r : RS} {a : Option Addr} {cap : Nat} {V : Nat → Value}
theorem rread_addr (x : Int) (w : World) (h : Both w p s rb r a cap V) (h0 : 0 ≤ x) (h1 : x ≤ 18446744073709551615) (g : (s.find x).1 = 0 ∨ 0 < (s.find x).2) :
    Calls Try.prog 30 #[.pointer (some ⟨rb, 0, none⟩), .int .u64 x] w fun e w' => e = .returned (.tuple #[.string ⟨#[]⟩, .int .i64 6]) ∧ ∃ m, w' = w.drewN m := by
  by_cases g0 : (s.find x).1 = 0
  · have HG : Hid _ := g0
    clear g g0
    go_enter Try.func30, Try.ntmps30
    go_wp2_with (go_at_call 29; refine (rfind_no x _ h h0 h1 HG.out).mono ?_; rintro e w' ⟨rfl, m, rfl⟩)
    all_goals go_ret2
    all_goals exact ⟨rfl, _, rfl⟩
  · obtain ⟨k, b, hk, hf⟩ := h.block g0
    have g2 : 0 < (s.find x).2 := by omega
    have HF : Hid _ := hf
    have HK : Hid _ := hk
    clear g g0 hf hk
    go_enter Try.func30, Try.ntmps30
    go_wp2_with (go_at_call 29; refine (rfind_yes x k b _ h h0 h1 HK.out HF.out).mono ?_; rintro e w' ⟨rfl, m, rfl⟩)
    all_goals go_ret2
    all_goals exact ⟨rfl, _, rfl⟩
/-- What Read tells of a block. -/
def ReadAs (o : Option (List UInt8)) (w : World) (e : Ending) (w' : World) : Prop := e = .returned (textOut o) ∧ Below w.heap.size w w'
/-- A block is copied into a new place of its own. -/
theorem copied {w w1 : World} {m : Nat} {o : Obj} (hw : w1 = w.drewN m) : Below w.heap.size w (w1.alloc o) := by
  have h0 : Below w.heap.size w w1 := by subst hw; exact ⟨rfl, rfl, rfl, Nat.le_refl _, fun _ _ => rfl⟩
  exact h0.alloc h0.size _
theorem copied_cell {w1 : World} {x y v : Value} {t : TypeId} : (w1.alloc (.cells #[x, y, v] t)).cell? ⟨w1.heap.size, 2, none⟩ = some v := by
  have h := blk_alloc_new w1 (.cells #[x, y, v] t)
  simp only [World.cell?, h]
  rfl
theorem empty_byte {w : World} {B g : Nat} (h : w.heap[g]? = some (.cells #[] 5 (0, 0))) (hB : B ≤ g) : BR w B (.slice (some ⟨g, 0, none⟩) 0 0) [] := ⟨g, 0, #[], (0, 0), rfl, hB, h, Or.inl rfl, Nat.le_refl _, Nat.zero_le _, rfl, rfl⟩
theorem rf_own {v : Value} {B : Nat} {F : List Int} (h : FieldOf w B v F) (hF : F.length ≠ 0) : ∃ gf c, v = .slice (some ⟨gf, 0, none⟩) F.length c ∧ Own w gf F.length (fun i => F.getD i 0) := by
  obtain ⟨a, c, rfl, hn, hc⟩ := h
  cases a with
  | none => exact absurd (hn rfl).1 hF
  | some ad => obtain ⟨g, rfl, _, ho⟩ := hc ad rfl; exact ⟨g, c, rfl, ho⟩
/-- Where the loop over the fields is: k fields' bytes stand. -/
def BytesAt (B : Nat) (F : List Int) (w2 : World) (av kv : Value) (wr : World) : Prop := ∃ k : Nat, k ≤ F.length ∧ kv = .int .i64 k ∧ BR wr B av (bytesF (F.take k)) ∧ Below B w2 wr
/-- Where the loop over a field's bytes is: j of them stand. -/
def BytesIn (B : Nat) (l : List UInt8) (x : Int) (w2 : World) (av xv jv : Value) (wr : World) : Prop := ∃ j : Nat, j ≤ 8 ∧ jv = .int .i64 j ∧ xv = .int .u64 (quoN j x) ∧ BR wr B av (l ++ bytesN j x) ∧ Below B w2 wr
theorem rread_tag (x : Int) (k : Nat) (b : Blk) (w : World) (h : Both w p s rb r a cap V) (h0 : 0 ≤ x) (h1 : x ≤ 18446744073709551615) (hk : r.L[k]? = some b) (g : (s.find x).1 = b.ad) (g2 : (s.find x).2 = 0) (ht : b.tag ≠ 202 ∨ b.F.length = 0) :
    Calls Try.prog 30 #[.pointer (some ⟨rb, 0, none⟩), .int .u64 x] w fun e w' => ReadAs (textF b) w e w' := by
  obtain ⟨l1, l2⟩ := h.blk hk
  obtain ⟨z1, z2, z3, z4, z5⟩ := h.sizes
  have hl := (List.getElem?_eq_some_iff.1 hk).1
  obtain ⟨ga, rfl, hg1, hg2, hg3, hg4⟩ := h.rf.row (by omega)
  obtain ⟨d0, d1, d2, d3⟩ := hg4 k b hk
  obtain ⟨c0, c1, c2, c3⟩ := h.rf.cells
  obtain ⟨va, vc, hv⟩ := field_len d3
  rw [hv] at d2
  have HF : Hid _ := g
  have HK : Hid _ := hk
  have HT : Hid (textF b = none) := by
    show _ = _
    unfold textF
    rcases ht with ht | ht
    · rw [if_neg ht]
    · split
      · unfold readT; rw [if_pos ht]
      · rfl
  clear hg4 d3 g hk hv
  by_cases t : b.tag = 202
  · have tf : b.F.length = 0 := by omega
    clear ht
    go_enter Try.func30, Try.ntmps30
    go_wp2_with (go_at_call 29; refine (rfind_yes x k b _ h h0 h1 HK.out HF.out).mono ?_; rw [g2]; rintro e w1 ⟨rfl, m, hw1⟩; have HW1 := hidden hw1; replace d0 : w1.cell? ⟨ga, k * 3, none⟩ = some (.int .i64 b.ad) := by { rw [hw1]; exact d0 }; replace d1 : w1.cell? ⟨ga, k * 3 + 1, none⟩ = some (.int .i64 b.tag) := by { rw [hw1]; exact d1 }; replace d2 : w1.cell? ⟨ga, k * 3 + 2, none⟩ = some (.slice va b.F.length vc) := by { rw [hw1]; exact d2 }; replace c2 : w1.cell? ⟨rb, 2, none⟩ = some (.slice (some ⟨ga, 0, none⟩) r.L.length cap) := by { rw [hw1]; exact c2 }; clear hw1)
    all_goals go_ret2
    all_goals exact ⟨by rw [HT.out]; rfl, copied HW1.out⟩
  · clear ht
    go_enter Try.func30, Try.ntmps30
    go_wp2_with (go_at_call 29; refine (rfind_yes x k b _ h h0 h1 HK.out HF.out).mono ?_; rw [g2]; rintro e w1 ⟨rfl, m, hw1⟩; have HW1 := hidden hw1; replace d0 : w1.cell? ⟨ga, k * 3, none⟩ = some (.int .i64 b.ad) := by { rw [hw1]; exact d0 }; replace d1 : w1.cell? ⟨ga, k * 3 + 1, none⟩ = some (.int .i64 b.tag) := by { rw [hw1]; exact d1 }; replace d2 : w1.cell? ⟨ga, k * 3 + 2, none⟩ = some (.slice va b.F.length vc) := by { rw [hw1]; exact d2 }; replace c2 : w1.cell? ⟨rb, 2, none⟩ = some (.slice (some ⟨ga, 0, none⟩) r.L.length cap) := by { rw [hw1]; exact c2 }; clear hw1)
    all_goals go_ret2
    all_goals exact ⟨by rw [HT.out]; rfl, copied HW1.out⟩
theorem rfields_list (l : List UInt8) (m : Nat) (w : World) (hl : l.length ≤ 40000) (hm : l.length / 8 + 1 = m) : Calls Try.prog 21 #[.string ⟨l.toArray⟩] w fun e w' => TextRow l m w e w' := by
  subst hm
  exact rfields_any ⟨l.toArray⟩ w hl
/-- Where the last loop is: k fields are as they should be. -/
def SameTill (G F : List Int) (w5 : World) (kv : Value) (wr : World) : Prop := ∃ k m : Nat, k ≤ F.length ∧ kv = .int .i64 k ∧ (∀ i, i < k → G.getD i 0 = F.getD i 0) ∧ wr = w5.drewN m
theorem list_same {F G : List Int} (hl : G.length = F.length) (h : ∀ i, i < F.length → G.getD i 0 = F.getD i 0) : G = F := by
  refine List.ext_getElem hl (fun i h1 h2 => ?_)
  have := h i h2
  simpa [List.getD_eq_getElem?_getD, h1, h2] using this
set_option maxRecDepth 100000 in
theorem rread_text (x : Int) (k : Nat) (b : Blk) (w : World) (h : Both w p s rb r a cap V) (h0 : 0 ≤ x) (h1 : x ≤ 18446744073709551615) (hk : r.L[k]? = some b) (g : (s.find x).1 = b.ad) (g2 : (s.find x).2 = 0) (t : b.tag = 202) (tf : b.F.length ≠ 0) (hfl : ∀ y, y ∈ b.F → 0 ≤ y ∧ y ≤ 18446744073709551615) :
    Calls Try.prog 30 #[.pointer (some ⟨rb, 0, none⟩), .int .u64 x] w fun e w' => ReadAs (textF b) w e w' := by
  obtain ⟨l1, l2⟩ := h.blk hk
  obtain ⟨z1, z2, z3, z4, z5⟩ := h.sizes
  have hl := (List.getElem?_eq_some_iff.1 hk).1
  obtain ⟨ga, rfl, hg1, hg2, hg3, hg4⟩ := h.rf.row (by omega)
  obtain ⟨d0, d1, d2, d3⟩ := hg4 k b hk
  obtain ⟨c0, c1, c2, c3⟩ := h.rf.cells
  obtain ⟨gf, vc, hv, hown⟩ := rf_own d3 tf
  rw [hv] at d2
  have HF : Hid _ := g
  have HK : Hid _ := hk
  have HOW : Hid (Own w gf b.F.length (fun i => b.F.getD i 0)) := hown
  have HT : Hid (textF b = readT b.F) := by show _ = _; unfold textF; rw [if_pos t]
  have HFL := hidden hfl
  have hgl : gf < w.heap.size := hown.lt
  have tfb : ((b.F.length : Int) == 0) = false := beq_eq_false_iff_ne.2 (by omega)
  clear hg4 d3 g hk hv hown hfl
  generalize hFg : b.F = F at *
  clear hFg
  go_enter Try.func30, Try.ntmps30
  go_upto_region 7 with (go_at_call 29; refine (rfind_yes x k b _ h h0 h1 HK.out HF.out).mono ?_; rw [g2]; rintro e w1 ⟨rfl, m, hw1⟩; have HW1 := hidden hw1; replace d0 : w1.cell? ⟨ga, k * 3, none⟩ = some (.int .i64 b.ad) := by { rw [hw1]; exact d0 }; replace d1 : w1.cell? ⟨ga, k * 3 + 1, none⟩ = some (.int .i64 b.tag) := by { rw [hw1]; exact d1 }; replace d2 : w1.cell? ⟨ga, k * 3 + 2, none⟩ = some (.slice (some ⟨gf, 0, none⟩) F.length vc) := by { rw [hw1]; exact d2 }; replace c2 : w1.cell? ⟨rb, 2, none⟩ = some (.slice (some ⟨ga, 0, none⟩) r.L.length cap) := by { rw [hw1]; exact c2 }; clear hw1)
  have HQ : Hid (w1.heap.size = w.heap.size) := by show _ = _; rw [HW1.out]; rfl
  have B2 : Hid (Below w.heap.size w (w1.alloc (.cells #[.int .i64 b.ad, .int .i64 202, .slice (some ⟨gf, 0, none⟩) F.length vc] 70))) := copied HW1.out
  have E2 : Hid ((w1.alloc (.cells #[.int .i64 b.ad, .int .i64 202, .slice (some ⟨gf, 0, none⟩) F.length vc] 70)).cell? ⟨w1.heap.size, 2, none⟩ = some (.slice (some ⟨gf, 0, none⟩) F.length vc)) := copied_cell
  have N2 : Hid ((w1.alloc (.cells #[.int .i64 b.ad, .int .i64 202, .slice (some ⟨gf, 0, none⟩) F.length vc] 70)).heap.size = w1.heap.size + 1) := nblk_alloc _ _
  have O2 := hidden (HOW.out.of_block (B2.out.block gf hgl))
  clear HW1 HOW d0 d1 d2 c2 HF HK
  generalize w1.alloc (.cells #[.int .i64 b.ad, .int .i64 202, .slice (some ⟨gf, 0, none⟩) F.length vc] 70) = w2 at *
  generalize w1.heap.size = q at *
  have hgq : gf < q + 1 := by have := HQ.out; omega
  have HR0 : Hid (BR (w2.alloc (.cells #[] 5)) (q + 1) (.slice (some ⟨w2.heap.size, 0, none⟩) 0 0) []) := empty_byte (blk_alloc_new _ _) (by rw [N2.out]; exact Nat.le_refl _)
  have HB0 : Hid (Below (q + 1) w2 (w2.alloc (.cells #[] 5))) := (Below.refl _ _).alloc (by rw [N2.out]; exact Nat.le_refl _) _
  go_wp2_with fail
  generalize w2.alloc (.cells #[] 5) = w3 at *
  go_loopw [9, 10] (fun av kv wr => BytesAt (q + 1) F w2 av kv wr) (fun _ kv _ => F.length - (intOf kv).toNat)
  case atStart => exact ⟨0, Nat.zero_le _, rfl, HR0.out, HB0.out⟩
  case round =>
    clear HR0 HB0
    obtain ⟨k, hk, rfl, hbr, hb⟩ := hrel
    have hblen : (bytesF (F.take k)).length ≤ 40000 := by rw [bytesF_len, List.length_take]; omega
    obtain ⟨ge, ce, rfl, hce, _, hcc, hgB, hgl2⟩ := hbr.slice
    have HCE := hidden hce
    clear hce
    have HBR := hidden hbr
    have HB := hidden hb
    have e2 : wr.cell? ⟨q, 2, none⟩ = some (.slice (some ⟨gf, 0, none⟩) F.length vc) := (hb.cell (Nat.lt_succ_self _)).trans E2.out
    have OR := hidden (O2.out.of_block (hb.block gf hgq))
    clear hbr hb
    by_cases hlt : k < F.length
    · have fc := OR.out.cell hlt
      have HSN := hidden (bytesF_snoc hlt)
      obtain ⟨f0, f1⟩ := HFL.out _ (List.getElem_mem hlt)
      have efd : F.getD k 0 = F[k] := by rw [List.getD_eq_getElem?_getD, List.getElem?_eq_getElem hlt]; rfl
      rw [← efd] at f0 f1
      clear efd
      generalize F.getD k 0 = fv at *
      clear HCE hcc hgB hgl2
      go_wp2_with fail
      go_loopw [9, 11, 12] (fun av xv jv wr => BytesIn (q + 1) (bytesF (F.take k)) fv w2 av xv jv wr) (fun _ _ jv _ => 8 - (intOf jv).toNat)
      case atStart => exact ⟨0, Nat.zero_le _, rfl, rfl, by show BR _ _ _ (_ ++ []); rw [List.append_nil]; exact HBR.out, HB.out⟩
      case round =>
        clear HBR HB e2 OR fc
        obtain ⟨j, hj, rfl, rfl, hbr, hb⟩ := hrel
        have hlen : (bytesF (F.take k) ++ bytesN j fv).length ≤ 40000 := by rw [List.length_append, bytesN_len, bytesF_len, List.length_take]; omega
        obtain ⟨g, cp, rfl, _, _, _, hgB, hgl2⟩ := hbr.slice
        have HBR := hidden hbr
        have HB := hidden hb
        have hsz := hb.size
        have HNS := hidden (bytesN_snoc j fv)
        obtain ⟨q0, q1⟩ := quoN_rng j fv f0 f1
        clear hbr hb
        by_cases hlt8 : j < 8
        · have HL : Hid (bytesF (F.take k) ++ bytesN j fv ++ [UInt8.ofNat (quoN j fv % 256).toNat] = bytesF (F.take k) ++ bytesN (j + 1) fv) := by show _ = _; rw [HNS.out, List.append_assoc]
          have HP : Hid (Value.int .u8 (quoN j fv % 256) = u8v (UInt8.ofNat (quoN j fv % 256).toNat)) := by show _ = _; unfold u8v; rw [ofNat_mod]
          have HQN : Hid (quoN (j + 1) fv = quoN j fv / 256) := rfl
          clear HNS HSN
          generalize bytesF (F.take k) ++ bytesN j fv = l at *
          generalize quoN j fv = qn at *
          go_wp2_with (at_builtin; refine append_byte rfl (.tmp 62) (.tmp 66) rfl (q + 1) (.slice (some ⟨g, 0, none⟩) l.length cp) l rfl (HBR.out.below ((Below.refl _ _).alloc (Nat.le_refl _) _)) wr.heap.size 1 (UInt8.ofNat (qn % 256).toNat) rfl ((byte_new _ _ _).trans (congrArg some HP.out)) (by omega) (by rw [nblk_alloc]; have := N2.out; omega) ?_; rw [HL.out]; intro g5 c5 w5 hr5 gr5; have R5 := hidden hr5; have B5 : Hid (Below (q + 1) w2 w5) := HB.out.trans (below_more gr5 (by have := N2.out; omega) (fun z e => by have : g = z := (by simpa [Value.ownBlock] using e); omega)); clear hr5 gr5)
          go_roundw
          case rel => exact ⟨j + 1, by omega, by go_num, by rw [HQN.out], R5.out, B5.out⟩
          case measure => simp [intOf]; omega
        · have e8 : j = 8 := by omega
          subst e8
          clear HNS
          go_wp2_with fail
          go_roundw
          case rel => exact ⟨k + 1, by omega, by go_num, by rw [HSN.out]; exact HBR.out, HB.out⟩
          case measure => simp [intOf]; omega
    · have ek : k = F.length := by omega
      subst ek
      have hnl : ¬ (F.length : Int) < (F.length : Int) := by omega
      have hLL : (bytesF F).length = 8 * F.length := bytesF_len F
      rw [List.take_length] at hcc ⊢
      have HCL : Hid (∀ i (hi : i < (bytesF F).length), wr.cell? ⟨ge, i, none⟩ = some (u8v (bytesF F)[i])) := fun i hi => by
        have := HCE.out i (by rw [List.take_length]; exact hi)
        rw [this]; simp
      clear HCE HBR hlt hk hblen
      obtain ⟨N, hN⟩ : ∃ N, (bytesF F).length = N + 1 := ⟨8 * F.length - 1, by omega⟩
      have hcN := HCL.out N (by omega)
      unfold u8v at hcN
      have HRT : Hid (readT F = if 7 < ((bytesF F)[N]'(by omega)).toNat then none else if fieldsT ((bytesF F).take (N - ((bytesF F)[N]'(by omega)).toNat)) = F then some ((bytesF F).take (N - ((bytesF F)[N]'(by omega)).toNat)) else none) := by
        show _ = _
        unfold readT
        have e1 : 8 * F.length - 1 = N := by omega
        rw [if_neg tf, e1, List.getD_eq_getElem?_getD, List.getElem?_eq_getElem (by omega)]
        rfl
      have hpd := u8_lt ((bytesF F)[N]'(by omega))
      generalize ((bytesF F)[N]'(by omega)).toNat = pad at *
      rw [hN] at hcc ⊢
      by_cases hp : 7 < pad
      · have HTN : Hid (textF b = none) := by show _ = _; rw [HT.out, HRT.out, if_pos hp]
        clear HRT HCL
        go_wp2_with fail
        go_ret2
        exact ⟨by rw [HTN.out]; rfl, B2.out.trans (HB.out.mono (by have := HQ.out; omega))⟩
      · obtain ⟨n, rfl⟩ : ∃ n, N = n + pad := ⟨N - pad, by omega⟩
        have HL2 : Hid (((bytesF F).take n).length = n) := by show _ = _; rw [List.length_take]; omega
        have HCV : Hid (Sem.run Try.prog (convert 92 9 (.slice (some ⟨ge, 0, none⟩) n ce)) wr = .ok (.string ⟨((bytesF F).take n).toArray⟩) wr) := by
          have := run_string (g := ge) (c := ce) (w := wr) ((bytesF F).take n) (fun i hi => by
            have h2 : i < (bytesF F).length := by rw [HL2.out] at hi; omega
            rw [HCL.out i h2]; simp)
          rw [HL2.out] at this
          exact this
        have HRT2 : Hid (readT F = if fieldsT ((bytesF F).take n) = F then some ((bytesF F).take n) else none) := by
          show _ = _
          rw [HRT.out, if_neg hp, Nat.add_sub_cancel]
        have hnL : n / 8 + 1 = F.length := by omega
        have hcv := HCV.out
        clear HRT HCL
        generalize (bytesF F).take n = l at *
        go_wp2_with (go_at_call 21; refine (rfields_list l F.length _ (by have := HL2.out; omega) (by rw [HL2.out]; exact hnL)).mono ?_; rintro e w5 ⟨g5, c5, rfl, ho5, hg5, hb5⟩; have O5 := hidden ho5; have B5 := hidden hb5; clear ho5)
        have OF := hidden (OR.out.of_block (B5.out.block gf OR.out.lt))
        have f2 := (B5.out.cell (p := ⟨q, 2, none⟩) (cell_lt e2)).trans e2
        have HB6 : Hid (Below w.heap.size w w5) := (B2.out.trans (HB.out.mono (by have := HQ.out; omega))).trans (B5.out.mono (by have := HB.out.size; have := B2.out.size; omega))
        clear e2 hcv hcN HCV OR
        go_loopw [16] (fun kv wr => SameTill (fieldsT l) F w5 kv wr) (fun kv _ => F.length - (intOf kv).toNat)
        case atStart => exact ⟨0, 0, Nat.zero_le _, rfl, fun i hi => absurd hi (Nat.not_lt_zero _), rfl⟩
        case round =>
          obtain ⟨k, m, hk, rfl, hsame, hw⟩ := hrel
          have HW := hidden hw
          have HSM := hidden hsame
          clear hsame
          by_cases hlt : k < F.length
          · have x2 : (k : Int) < (F.length : Int) := by omega
            have y1 : wr.cell? ⟨g5, k, none⟩ = some (.int .u64 ((fieldsT l).getD k 0)) := by rw [hw]; exact O5.out.cell hlt
            have y2 : wr.cell? ⟨gf, k, none⟩ = some (.int .u64 (F.getD k 0)) := by rw [hw]; exact OF.out.cell hlt
            have y3 : wr.cell? ⟨q, 2, none⟩ = some (.slice (some ⟨gf, 0, none⟩) F.length vc) := by rw [hw]; exact f2
            clear hw
            by_cases hsm : (fieldsT l).getD k 0 = F.getD k 0
            · have HS := hidden hsm
              rw [hsm] at y1
              clear hsm
              generalize F.getD k 0 = fv at y1 y2
              go_wp2
              go_quiet (fail)
              go_wp2
              go_roundw
              case rel => exact ⟨k + 1, _, by omega, by go_num, fun i hi => (by by_cases e : i < k; exact HSM.out i e; have e2 : i = k := (by omega); subst e2; first | exact HS.out | (rw [HS.out])), by rw [HW.out]; exact World.drewN_drewN _ _ _⟩
              case measure => simp [intOf]; omega
            · have HTN : Hid (textF b = none) := by
                show _ = _
                rw [HT.out, HRT2.out, if_neg (fun e => hsm (by rw [e]))]
              generalize (fieldsT l).getD k 0 = fu at *
              generalize F.getD k 0 = fv at *
              have hne : (fu == fv) = false := beq_eq_false_iff_ne.2 hsm
              go_wp2
              go_quiet (fail)
              go_wp2
              go_ret2
              exact ⟨by rw [HTN.out]; rfl, by rw [HW.out]; exact ⟨HB6.out.os, HB6.out.tape, HB6.out.output, HB6.out.size, HB6.out.block⟩⟩
          · have ek : k = F.length := by omega
            subst ek
            have HTS : Hid (textF b = some l) := by
              show _ = _
              rw [HT.out, HRT2.out, if_pos (list_same (by rw [fieldsT_len, HL2.out]; exact hnL) HSM.out)]
            clear hw
            go_wp2
            go_ret2
            exact ⟨by rw [HTS.out]; rfl, by rw [HW.out]; exact ⟨HB6.out.os, HB6.out.tape, HB6.out.output, HB6.out.size, HB6.out.block⟩⟩
end Go.Proofs.Ytcbgjkedmboifaa
