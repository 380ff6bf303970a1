/-
 Layer 8: ParseBinds, walked: it returns true. No condition but the strings' sizes.
-/
import Derived.Test.YthjmakjhidjbaaaGreatX8BindL
import Derived.Test.YthjmakjhidjbaaaGreatT8First
import Derived.Test.YthjmakjhidjbaaaGreatT8Brackets
import Derived.BigQuiet
import Derived.Test.YthjmakjhidjbaaaGreatLibAE
import Derived.Deep.Cut
namespace Go.Proofs.YthjmakjhidjbaaaGreat
open Go.ChangeShapes Go.WideShapes Go.ChangeAt Go.RowKit Go.Deep
set_option linter.unusedVariables false
set_option linter.unusedSimpArgs false
set_option maxHeartbeats 16000000
set_option maxRecDepth 20000

/-- The three texts, and a text's two forms. -/
def S3 (a b c : ByteArray) (k : Nat) : ByteArray := if k = 0 then a else if k = 1 then b else c
def X2 (s : ByteArray) (k : Nat) : ByteArray := if k = 0 then ⟨#[40]⟩ ++ s ++ ⟨#[41]⟩ else s
theorem s3_size {a b c : ByteArray} {m : Nat} (ha : a.size ≤ m) (hb : b.size ≤ m) (hc : c.size ≤ m) (k : Nat) : (S3 a b c k).size ≤ m := by
 unfold S3
 split
 ·exact ha
 ·split
  ·exact hb
  ·exact hc
theorem size_app (x y : ByteArray) : (x ++ y).size = x.size + y.size := by
 rw [← len_data, ByteArray.data_append]
 simp
theorem x2_size (s : ByteArray) (k : Nat) : (X2 s k).size ≤ s.size + 2 := by
 unfold X2
 split
 ·rw [size_app, size_app]
  show 1 + s.size + 1 ≤ _
  omega
 ·omega
theorem cells3 (w : World) (a b c : ByteArray) (k : Nat) (hk : k < 3) : (w.alloc (.cells #[.string a, .string b, .string c] 9)).cell? ⟨w.heap.size, k, none⟩ = some (.string (S3 a b c k)) := by
 have h : (w.alloc (.cells #[.string a, .string b, .string c] 9)).heap[w.heap.size]? = some (.cells #[.string a, .string b, .string c] 9 (0, 0)) := blk_alloc_new _ _
 generalize w.alloc (.cells #[.string a, .string b, .string c] 9) = w' at *
 match k, hk with
 | 0, _ => simp [World.cell?, h, S3]
 | 1, _ => simp [World.cell?, h, S3]
 | 2, _ => simp [World.cell?, h, S3]
theorem cells2 (w : World) (s : ByteArray) (k : Nat) (hk : k < 2) : (w.alloc (.cells #[.string (⟨#[40]⟩ ++ s ++ ⟨#[41]⟩), .string s] 9)).cell? ⟨w.heap.size, k, none⟩ = some (.string (X2 s k)) := by
 have h : (w.alloc (.cells #[.string (⟨#[40]⟩ ++ s ++ ⟨#[41]⟩), .string s] 9)).heap[w.heap.size]? = some (.cells #[.string (⟨#[40]⟩ ++ s ++ ⟨#[41]⟩), .string s] 9 (0, 0)) := blk_alloc_new _ _
 generalize w.alloc (.cells #[.string (⟨#[40]⟩ ++ s ++ ⟨#[41]⟩), .string s] 9) = w' at *
 match k, hk with
 | 0, _ => simp [World.cell?, h, X2]
 | 1, _ => simp [World.cell?, h, X2]
theorem cell_below {w w' : World} {g o : Nat} {v : Value} (hb : Below w.heap.size w w') (h : w.cell? ⟨g, o, none⟩ = some v) : w'.cell? ⟨g, o, none⟩ = some v := by
 have e : w'.heap[g]? = w.heap[g]? := hb.block g (cell_lt h)
 rw [← h]
 exact World.cell?_of_block (a := ⟨g, o, none⟩) e
def tabS : Array Value := #[.string ⟨#[59]⟩, .string ⟨#[58, 61]⟩, .string ⟨#[124, 124]⟩, .string ⟨#[38, 38]⟩, .string ⟨#[61]⟩, .string ⟨#[60, 62]⟩, .string ⟨#[60]⟩, .string ⟨#[62]⟩, .string ⟨#[60, 61]⟩, .string ⟨#[62, 61]⟩, .string ⟨#[94]⟩, .string ⟨#[58, 58]⟩, .string ⟨#[43]⟩, .string ⟨#[45]⟩, .string ⟨#[42]⟩, .string ⟨#[47]⟩, .string ⟨#[109, 111, 100]⟩]
def tabL : Array Value := #[.int .i64 0, .int .i64 1, .int .i64 3, .int .i64 4, .int .i64 5, .int .i64 5, .int .i64 5, .int .i64 5, .int .i64 5, .int .i64 5, .int .i64 6, .int .i64 7, .int .i64 8, .int .i64 8, .int .i64 9, .int .i64 9, .int .i64 9]
theorem tabS_at : ∀ k, k < 17 → tabS[k]? = some (.string ⟨(sgB k).toArray⟩) := by
 intro k hk
 have : k = 0 ∨ k = 1 ∨ k = 2 ∨ k = 3 ∨ k = 4 ∨ k = 5 ∨ k = 6 ∨ k = 7 ∨ k = 8 ∨ k = 9 ∨ k = 10 ∨ k = 11 ∨ k = 12 ∨ k = 13 ∨ k = 14 ∨ k = 15 ∨ k = 16 := by omega
 rcases this with rfl | rfl | rfl | rfl | rfl | rfl | rfl | rfl | rfl | rfl | rfl | rfl | rfl | rfl | rfl | rfl | rfl <;> rfl
theorem tabL_at : ∀ k, k < 17 → tabL[k]? = some (.int .i64 ((lvB k : Nat) : Int)) := by
 intro k hk
 have : k = 0 ∨ k = 1 ∨ k = 2 ∨ k = 3 ∨ k = 4 ∨ k = 5 ∨ k = 6 ∨ k = 7 ∨ k = 8 ∨ k = 9 ∨ k = 10 ∨ k = 11 ∨ k = 12 ∨ k = 13 ∨ k = 14 ∨ k = 15 ∨ k = 16 := by omega
 rcases this with rfl | rfl | rfl | rfl | rfl | rfl | rfl | rfl | rfl | rfl | rfl | rfl | rfl | rfl | rfl | rfl | rfl <;> rfl
theorem tab_cell {w : World} {g : Nat} {cs : Array Value} {t : Nat} {f : Nat × Nat} {k : Nat} {v : Value} (h : w.heap[g]? = some (.cells cs t f)) (hk : cs[k]? = some v) : w.cell? ⟨g, k, none⟩ = some v := by
 simp [World.cell?, h, hk]
theorem cellsS (w : World) (k : Nat) (hk : k < 17) : ((w.alloc (.cells #[.string ⟨#[59]⟩, .string ⟨#[58, 61]⟩, .string ⟨#[124, 124]⟩, .string ⟨#[38, 38]⟩, .string ⟨#[61]⟩, .string ⟨#[60, 62]⟩, .string ⟨#[60]⟩, .string ⟨#[62]⟩, .string ⟨#[60, 61]⟩, .string ⟨#[62, 61]⟩, .string ⟨#[94]⟩, .string ⟨#[58, 58]⟩, .string ⟨#[43]⟩, .string ⟨#[45]⟩, .string ⟨#[42]⟩, .string ⟨#[47]⟩, .string ⟨#[109, 111, 100]⟩] 9)).alloc (.cells #[.int .i64 0, .int .i64 1, .int .i64 3, .int .i64 4, .int .i64 5, .int .i64 5, .int .i64 5, .int .i64 5, .int .i64 5, .int .i64 5, .int .i64 6, .int .i64 7, .int .i64 8, .int .i64 8, .int .i64 9, .int .i64 9, .int .i64 9] 3)).cell? ⟨w.heap.size, k, none⟩ = some (.string ⟨(sgB k).toArray⟩) := tab_cell (cs := tabS) ((blk_alloc_lt _ _ _ (by rw [nblk_alloc]; omega)).trans (blk_alloc_new _ _)) (tabS_at k hk)
theorem cellsL (w : World) (k : Nat) (hk : k < 17) : ((w.alloc (.cells #[.string ⟨#[59]⟩, .string ⟨#[58, 61]⟩, .string ⟨#[124, 124]⟩, .string ⟨#[38, 38]⟩, .string ⟨#[61]⟩, .string ⟨#[60, 62]⟩, .string ⟨#[60]⟩, .string ⟨#[62]⟩, .string ⟨#[60, 61]⟩, .string ⟨#[62, 61]⟩, .string ⟨#[94]⟩, .string ⟨#[58, 58]⟩, .string ⟨#[43]⟩, .string ⟨#[45]⟩, .string ⟨#[42]⟩, .string ⟨#[47]⟩, .string ⟨#[109, 111, 100]⟩] 9)).alloc (.cells #[.int .i64 0, .int .i64 1, .int .i64 3, .int .i64 4, .int .i64 5, .int .i64 5, .int .i64 5, .int .i64 5, .int .i64 5, .int .i64 5, .int .i64 6, .int .i64 7, .int .i64 8, .int .i64 8, .int .i64 9, .int .i64 9, .int .i64 9] 3)).cell? ⟨w.heap.size + 1, k, none⟩ = some (.int .i64 ((lvB k : Nat) : Int)) := by
 have h : ((w.alloc (.cells #[.string ⟨#[59]⟩, .string ⟨#[58, 61]⟩, .string ⟨#[124, 124]⟩, .string ⟨#[38, 38]⟩, .string ⟨#[61]⟩, .string ⟨#[60, 62]⟩, .string ⟨#[60]⟩, .string ⟨#[62]⟩, .string ⟨#[60, 61]⟩, .string ⟨#[62, 61]⟩, .string ⟨#[94]⟩, .string ⟨#[58, 58]⟩, .string ⟨#[43]⟩, .string ⟨#[45]⟩, .string ⟨#[42]⟩, .string ⟨#[47]⟩, .string ⟨#[109, 111, 100]⟩] 9)).alloc (.cells #[.int .i64 0, .int .i64 1, .int .i64 3, .int .i64 4, .int .i64 5, .int .i64 5, .int .i64 5, .int .i64 5, .int .i64 5, .int .i64 5, .int .i64 6, .int .i64 7, .int .i64 8, .int .i64 8, .int .i64 9, .int .i64 9, .int .i64 9] 3)).heap[w.heap.size + 1]? = some (.cells #[.int .i64 0, .int .i64 1, .int .i64 3, .int .i64 4, .int .i64 5, .int .i64 5, .int .i64 5, .int .i64 5, .int .i64 5, .int .i64 5, .int .i64 6, .int .i64 7, .int .i64 8, .int .i64 8, .int .i64 9, .int .i64 9, .int .i64 9] 3 (0, 0)) := by
  rw [← nblk_alloc w (.cells #[.string ⟨#[59]⟩, .string ⟨#[58, 61]⟩, .string ⟨#[124, 124]⟩, .string ⟨#[38, 38]⟩, .string ⟨#[61]⟩, .string ⟨#[60, 62]⟩, .string ⟨#[60]⟩, .string ⟨#[62]⟩, .string ⟨#[60, 61]⟩, .string ⟨#[62, 61]⟩, .string ⟨#[94]⟩, .string ⟨#[58, 58]⟩, .string ⟨#[43]⟩, .string ⟨#[45]⟩, .string ⟨#[42]⟩, .string ⟨#[47]⟩, .string ⟨#[109, 111, 100]⟩] 9)]
  exact blk_alloc_new _ _
 exact tab_cell (cs := tabL) h (tabL_at k hk)
theorem same_zero (w : World) : Calls Tryz.prog 12 #[.agg #[.int .i64 0, .int .i64 0, .int .i64 0, .string ⟨#[]⟩, .slice none 0 0], .agg #[.int .i64 0, .int .i64 0, .int .i64 0, .string ⟨#[]⟩, .slice none 0 0], .bool false] w fun e w' => e = .returned (.bool true) ∧ Below w.heap.size w w' :=
 same8 (pl := false) (f := fun _ => 0) (f' := fun _ => 0) (P := fun _ => True) (P' := fun _ => True) (x := .mk 0 0 0 [] []) (y := .mk 0 0 0 [] []) (.mk rfl rfl rfl (fun c => by cases c) rfl (by simp [Tr.L]) (fun k a b h => by simp [Tr.L] at h)) w none none 0 0 0 0 (fun c => by cases c) RL.nil RL.nil
theorem drewN_b (w : World) (n : Nat) : Below w.heap.size w (w.drewN n) := ⟨rfl, rfl, rfl, Nat.le_refl _, fun _ _ => rfl⟩
theorem bindsP_data (A B C Si Sm : ByteArray) : (⟨#[108, 101, 116, 32, 95, 32, 61, 32]⟩ ++ A ++ ⟨#[32]⟩ ++ Si ++ ⟨#[32]⟩ ++ B ++ ⟨#[32]⟩ ++ Sm ++ ⟨#[32]⟩ ++ C).data.toList = letB ++ 32 :: (A.data.toList ++ 32 :: (Si.data.toList ++ 32 :: (B.data.toList ++ 32 :: (Sm.data.toList ++ 32 :: C.data.toList)))) := by
 simp only [ByteArray.data_append, Array.toList_append]
 simp [letB]
theorem bindsP_size (A B C Si Sm : ByteArray) : (⟨#[108, 101, 116, 32, 95, 32, 61, 32]⟩ ++ A ++ ⟨#[32]⟩ ++ Si ++ ⟨#[32]⟩ ++ B ++ ⟨#[32]⟩ ++ Sm ++ ⟨#[32]⟩ ++ C).size = A.size + B.size + C.size + Si.size + Sm.size + 12 := by
 simp only [size_app]
 simp only [ByteArray.size, List.size_toArray, List.length_cons, List.length_nil]
 omega
theorem binds1_data (A B C Si Sm : ByteArray) : (⟨#[108, 101, 116, 32, 95, 32, 61, 32]⟩ ++ A ++ ⟨#[32]⟩ ++ Si ++ ⟨#[32, 40]⟩ ++ B ++ ⟨#[32]⟩ ++ Sm ++ ⟨#[32]⟩ ++ C ++ ⟨#[41]⟩).data.toList = letB ++ 32 :: (A.data.toList ++ 32 :: (Si.data.toList ++ 32 :: (40 :: ((B.data.toList ++ 32 :: (Sm.data.toList ++ 32 :: C.data.toList)) ++ 41 :: [])))) := by
 simp only [ByteArray.data_append, Array.toList_append]
 simp [letB]
theorem binds1_size (A B C Si Sm : ByteArray) : (⟨#[108, 101, 116, 32, 95, 32, 61, 32]⟩ ++ A ++ ⟨#[32]⟩ ++ Si ++ ⟨#[32, 40]⟩ ++ B ++ ⟨#[32]⟩ ++ Sm ++ ⟨#[32]⟩ ++ C ++ ⟨#[41]⟩).size = A.size + B.size + C.size + Si.size + Sm.size + 14 := by
 simp only [size_app]
 simp only [ByteArray.size, List.size_toArray, List.length_cons, List.length_nil]
 omega
theorem binds2_data (A B C Si Sm : ByteArray) : (⟨#[108, 101, 116, 32, 95, 32, 61, 32, 40]⟩ ++ A ++ ⟨#[32]⟩ ++ Si ++ ⟨#[32]⟩ ++ B ++ ⟨#[41, 32]⟩ ++ Sm ++ ⟨#[32]⟩ ++ C).data.toList = letB ++ 32 :: ((40 :: ((A.data.toList ++ 32 :: (Si.data.toList ++ 32 :: B.data.toList)) ++ 41 :: [])) ++ 32 :: (Sm.data.toList ++ 32 :: C.data.toList)) := by
 simp only [ByteArray.data_append, Array.toList_append]
 simp [letB]
theorem binds2_size (A B C Si Sm : ByteArray) : (⟨#[108, 101, 116, 32, 95, 32, 61, 32, 40]⟩ ++ A ++ ⟨#[32]⟩ ++ Si ++ ⟨#[32]⟩ ++ B ++ ⟨#[41, 32]⟩ ++ Sm ++ ⟨#[32]⟩ ++ C).size = A.size + B.size + C.size + Si.size + Sm.size + 14 := by
 simp only [size_app]
 simp only [ByteArray.size, List.size_toArray, List.length_cons, List.length_nil]
 omega
/-- How it stands while the texts are tried, and a text's forms. -/
def InG (P : Nat → Prop) (m : Nat) (w0 : World) (iv : Value) (wr : World) : Prop := ∃ k : Nat, k ≤ m ∧ iv = .int .i64 (k : Int) ∧ (∀ j, j < k → P j) ∧ Below w0.heap.size w0 wr
theorem parseBinds_walk (a b c : ByteArray) (one two : Int) (w : World) (hza : a.size ≤ 140737488351232) (hzb : b.size ≤ 140737488351232) (hzc : c.size ≤ 140737488351232) (ho0 : 0 ≤ one) (ho1 : one ≤ 255) (ht0 : 0 ≤ two) (ht1 : two ≤ 255) : Calls Tryz.prog 7 #[.string a, .string b, .string c, .int .u8 one, .int .u8 two] w fun e w' => e = .returned (.bool true) ∧ Below w.heap.size w w' := by
 have HZ := hidden (fun k => s3_size hza hzb hzc k)
 go_enter Tryz.func7, Tryz.ntmps7
 go_wp2_with fail
 refine (aw8_any w).mono ?_
 rintro e w1 ⟨rfl, hb⟩
 have B2 := hidden (hb.alloc (by have := hb.size; omega) (.cells #[.string a, .string b, .string c] 9))
 clear hb
 go_wp2_with fail
 have C1 := hidden (fun k hk => cells3 w1 a b c k hk)
 generalize w1.alloc (.cells #[.string a, .string b, .string c] 9) = w2 at *
 go_loopw [37] (fun iv wr => InG (fun j => Good1 (S3 a b c j) ∧ Good1 (⟨#[40]⟩ ++ S3 a b c j ++ ⟨#[41]⟩)) 3 w2 iv wr) (fun iv wr => (3 - intOf iv).toNat)
 case atStart => exact ⟨0, by omega, rfl, fun j h => by omega, Below.refl _ _⟩
 case round =>
  rename World => wo
  obtain ⟨k, k1, rfl, hg, hbl⟩ := hrel
  have HG := hidden hg
  have BL := hidden hbl
  clear hg
  have hd := B2.out.size
  have he := hbl.size
  by_cases hlt : k < 3
  ·have zz : (k : Int) < 3 := by omega
   have c0 := cell_below hbl (C1.out k hlt)
   have hz := HZ.out k
   clear hbl
   obtain ⟨s, hs⟩ : ∃ s, S3 a b c k = s := ⟨_, rfl⟩
   rw [hs] at c0 hz
   have HS := hidden hs
   clear hs
   go_wp2_with fail
   have C2 := hidden (fun k hk => cells2 wo s k hk)
   have D3 := hidden ((Below.refl wo.heap.size wo).alloc (Nat.le_refl _) (.cells #[.string (⟨#[40]⟩ ++ s ++ ⟨#[41]⟩), .string s] 9))
   have HZ2 := hidden (fun j => x2_size s j)
   clear c0
   generalize wo.alloc (.cells #[.string (⟨#[40]⟩ ++ s ++ ⟨#[41]⟩), .string s] 9) = w3 at *
   go_loopw [47] (fun iv wr => InG (fun j => Good1 (X2 s j)) 2 w3 iv wr) (fun iv wr => (2 - intOf iv).toNat)
   case atStart => exact ⟨0, by omega, rfl, fun j h => by omega, Below.refl _ _⟩
   case round =>
    obtain ⟨j, j1, rfl, hg2, hbl2⟩ := hrel
    have HG2 := hidden hg2
    have he2 := hbl2.size
    have hd2 := D3.out.size
    have BW := hidden ((B2.out.trans (BL.out.mono hd)).trans ((D3.out.trans (hbl2.mono hd2)).mono (by omega)))
    have BO := hidden (D3.out.trans (hbl2.mono hd2))
    clear hg2
    by_cases hlt2 : j < 2
    ·have zj : (j : Int) < 2 := by omega
     have c1 := cell_below hbl2 (C2.out j hlt2)
     have hz2 := HZ2.out j
     obtain ⟨x, hx⟩ : ∃ x, X2 s j = x := ⟨_, rfl⟩
     rw [hx] at c1 hz2
     have HX := hidden hx
     have BL2 := hidden hbl2
     clear hx hbl2
     have mx : Hid ((⟨#[108, 101, 116, 32, 95, 32, 61, 32]⟩ ++ x).size ≤ maxLen) := by
      show _ ≤ _
      rw [size_app]
      show 8 + x.size ≤ _
      unfold maxLen
      omega
     cases hp : parseR (⟨#[108, 101, 116, 32, 95, 32, 61, 32]⟩ ++ x) with
     | error ep =>
      obtain ⟨e1, p1⟩ := ep
      have z1 : (e1 != 0) = true := by rw [bne_iff_ne]; exact parseR_err hp
      have HP := hidden hp
      clear hp
      go_wp2_with fail
      refine (parse_err wr HP.out mx.out).mono ?_
      rintro e w40 ⟨rfl, hb⟩
      have hb2 := hb.alloc (by have := hb.size; omega) (.cells #[.int .i64 0, .int .i64 0, .int .i64 0, .string ⟨#[]⟩, .slice none 0 0] 25)
      have B4 := hidden (BW.out.trans (hb2.mono BW.out.size))
      clear hb hb2
      go_wp2_with fail
      go_ret
      exact ⟨rfl, B4.out⟩
     | ok L =>
      have HP := hidden hp
      clear hp
      rcases Nat.decEq L.length 1 with hL | hL
      ·have z1 : ((L.length : Int) != 1) = true := by rw [bne_iff_ne]; omega
       clear hL
       go_wp2_with fail
       refine (parse_ok wr HP.out mx.out).mono ?_
       rintro e w40 ⟨ao, cp, rfl, hl, hb⟩
       have hb2 := hb.alloc (by have := hb.size; omega) (.cells #[.int .i64 211, .int .i64 0, .int .i64 0, .string ⟨#[]⟩, .slice ao L.length cp] 25)
       have B4 := hidden (BW.out.trans (hb2.mono BW.out.size))
       have BR := hidden hb2
       have V2 := hidden (B5.new w40 211 0 0 ⟨#[]⟩ (.slice ao L.length cp))
       have X2 := hidden (hl.alloc (.cells #[.int .i64 211, .int .i64 0, .int .i64 0, .string ⟨#[]⟩, .slice ao L.length cp] 25))
       clear hb hb2 hl
       go_upto_region 10 with fail
       generalize w40.alloc (.cells #[.int .i64 211, .int .i64 0, .int .i64 0, .string ⟨#[]⟩, .slice ao L.length cp] 25) = w4 at *
       obtain ⟨v0, v1, v2, v3, v4, vf⟩ := V2.out.cells
       go_wp2_with fail
       go_ret
       exact ⟨rfl, B4.out⟩
      ·obtain ⟨t, rfl⟩ : ∃ t, L = [t] := by
        cases L with
        | nil => cases hL
        | cons a l => cases l with
         | nil => exact ⟨a, rfl⟩
         | cons b l => simp at hL
       rw [show ([t] : List Tr).length = 1 from rfl] at hL
       clear hL
       rcases Nat.decEq t.L.length 1 with hT | hT
       ·have z2 : ((t.L.length : Int) != 1) = true := by rw [bne_iff_ne]; omega
        clear hT
        go_wp2_with fail
        refine (parse_ok wr HP.out mx.out).mono ?_
        rintro e w40 ⟨ao, cp, rfl, hl, hb⟩
        have hb2 := hb.alloc (by have := hb.size; omega) (.cells #[.int .i64 211, .int .i64 0, .int .i64 0, .string ⟨#[]⟩, .slice ao [t].length cp] 25)
        have B4 := hidden (BW.out.trans (hb2.mono BW.out.size))
        have BR := hidden hb2
        have V2 := hidden (B5.new w40 211 0 0 ⟨#[]⟩ (.slice ao 1 cp))
        have X2 := hidden (hl.alloc (.cells #[.int .i64 211, .int .i64 0, .int .i64 0, .string ⟨#[]⟩, .slice ao 1 cp] 25))
        clear hb hb2 hl
        go_upto_region 10 with fail
        have e2 : w40.alloc (.cells #[.int .i64 211, .int .i64 0, .int .i64 0, .string ⟨#[]⟩, .slice ao ([t] : List Tr).length cp] 25) = w40.alloc (.cells #[.int .i64 211, .int .i64 0, .int .i64 0, .string ⟨#[]⟩, .slice ao 1 cp] 25) := rfl
        rw [e2] at B4 BR
        clear e2
        generalize w40.alloc (.cells #[.int .i64 211, .int .i64 0, .int .i64 0, .string ⟨#[]⟩, .slice ao 1 cp] 25) = w4 at *
        obtain ⟨v0, v1, v2, v3, v4, vf⟩ := V2.out.cells
        have hX := X2.out
        obtain ⟨aos, cps, hh, hr⟩ := hX
        obtain ⟨g, rfl, _, _, _, _, _, s4⟩ := hh 0 t rfl
        have s4' : w4.cell? ⟨g, 4, none⟩ = some (.slice (aos 0) t.L.length (cps 0)) := s4
        clear s4 hh hr
        go_wp2_with fail
        go_ret
        exact ⟨rfl, B4.out⟩
       ·have z2 : ((t.L.length : Int) != 1) = false := by rw [hT]; rfl
        have HT := hidden hT
        clear hT
        go_wp2_with fail
        refine (parse_ok wr HP.out mx.out).mono ?_
        rintro e w40 ⟨ao, cp, rfl, hl, hb⟩
        have hb2 := hb.alloc (by have := hb.size; omega) (.cells #[.int .i64 211, .int .i64 0, .int .i64 0, .string ⟨#[]⟩, .slice ao [t].length cp] 25)
        have B4 := hidden (BW.out.trans (hb2.mono BW.out.size))
        have BR := hidden hb2
        have V2 := hidden (B5.new w40 211 0 0 ⟨#[]⟩ (.slice ao 1 cp))
        have X2 := hidden (hl.alloc (.cells #[.int .i64 211, .int .i64 0, .int .i64 0, .string ⟨#[]⟩, .slice ao 1 cp] 25))
        clear hb hb2 hl
        go_upto_region 10 with fail
        have e2 : w40.alloc (.cells #[.int .i64 211, .int .i64 0, .int .i64 0, .string ⟨#[]⟩, .slice ao ([t] : List Tr).length cp] 25) = w40.alloc (.cells #[.int .i64 211, .int .i64 0, .int .i64 0, .string ⟨#[]⟩, .slice ao 1 cp] 25) := rfl
        rw [e2] at B4 BR
        clear e2
        generalize w40.alloc (.cells #[.int .i64 211, .int .i64 0, .int .i64 0, .string ⟨#[]⟩, .slice ao 1 cp] 25) = w4 at *
        obtain ⟨v0, v1, v2, v3, v4, vf⟩ := V2.out.cells
        have hX := X2.out
        obtain ⟨aos, cps, hh, hr⟩ := hX
        obtain ⟨g, rfl, _, _, _, _, _, s4⟩ := hh 0 t rfl
        have s4' : w4.cell? ⟨g, 4, none⟩ = some (.slice (aos 0) t.L.length (cps 0)) := s4
        clear s4 hh hr
        go_wp2_with fail
        go_roundw
        case rel =>
         refine ⟨j + 1, by omega, by go_num, fun i hi => ?_, BL2.out.trans (BR.out.mono he2)⟩
         by_cases hij : i < j
         ·exact HG2.out i hij
         ·obtain rfl : i = j := by omega
          rw [HX.out]
          exact ⟨t, HP.out, HT.out⟩
        case measure => simp [intOf]; omega
    ·have zj : ¬ (j : Int) < 2 := by omega
     have hj2 : j = 2 := by omega
     have GD : Hid (Good1 s ∧ Good1 (⟨#[40]⟩ ++ s ++ ⟨#[41]⟩)) := ⟨HG2.out 1 (by omega), HG2.out 0 (by omega)⟩
     clear hj2 hbl2
     go_wp2_with fail
     go_roundw
     case rel =>
      refine ⟨k + 1, by omega, by go_num, fun i hi => ?_, BL.out.trans (BO.out.mono he)⟩
      by_cases hik : i < k
      ·exact HG.out i hik
      ·obtain rfl : i = k := by omega
       rw [HS.out]
       exact GD.out
     case measure => simp [intOf]; omega
  ·have zz : ¬ (k : Int) < 3 := by omega
   have hk3 : k = 3 := by omega
   obtain ⟨ta, xa, ga⟩ := good_seq (s := a) (HG.out 0 (by omega)).1 (HG.out 0 (by omega)).2
   obtain ⟨tb, xb, gb⟩ := good_seq (s := b) (HG.out 1 (by omega)).1 (HG.out 1 (by omega)).2
   obtain ⟨tc, xc, gc⟩ := good_seq (s := c) (HG.out 2 (by omega)).1 (HG.out 2 (by omega)).2
   have GA := hidden ga
   have GB := hidden gb
   have GC := hidden gc
   have BW := hidden (B2.out.trans (BL.out.mono hd))
   clear ga gb gc hk3 hbl
   go_upto_region 19 with fail
   obtain ⟨i, hi, hone⟩ : ∃ i : Nat, i < 17 ∧ one % 17 = (i : Int) := ⟨(one % 17).toNat, by omega, by omega⟩
   obtain ⟨m, hm, htwo⟩ : ∃ i : Nat, i < 17 ∧ two % 17 = (i : Int) := ⟨(two % 17).toNat, by omega, by omega⟩
   rw [hone, htwo]
   have BX := hidden ((BW.out.alloc (by omega) (.cells #[.string ⟨#[59]⟩, .string ⟨#[58, 61]⟩, .string ⟨#[124, 124]⟩, .string ⟨#[38, 38]⟩, .string ⟨#[61]⟩, .string ⟨#[60, 62]⟩, .string ⟨#[60]⟩, .string ⟨#[62]⟩, .string ⟨#[60, 61]⟩, .string ⟨#[62, 61]⟩, .string ⟨#[94]⟩, .string ⟨#[58, 58]⟩, .string ⟨#[43]⟩, .string ⟨#[45]⟩, .string ⟨#[42]⟩, .string ⟨#[47]⟩, .string ⟨#[109, 111, 100]⟩] 9)).alloc (by rw [nblk_alloc]; omega) (.cells #[.int .i64 0, .int .i64 1, .int .i64 3, .int .i64 4, .int .i64 5, .int .i64 5, .int .i64 5, .int .i64 5, .int .i64 5, .int .i64 5, .int .i64 6, .int .i64 7, .int .i64 8, .int .i64 8, .int .i64 9, .int .i64 9, .int .i64 9] 3))
   have si := cellsS wo i hi
   have sm := cellsS wo m hm
   have li := cellsL wo i hi
   have lm := cellsL wo m hm
   generalize (wo.alloc (.cells #[.string ⟨#[59]⟩, .string ⟨#[58, 61]⟩, .string ⟨#[124, 124]⟩, .string ⟨#[38, 38]⟩, .string ⟨#[61]⟩, .string ⟨#[60, 62]⟩, .string ⟨#[60]⟩, .string ⟨#[62]⟩, .string ⟨#[60, 61]⟩, .string ⟨#[62, 61]⟩, .string ⟨#[94]⟩, .string ⟨#[58, 58]⟩, .string ⟨#[43]⟩, .string ⟨#[45]⟩, .string ⟨#[42]⟩, .string ⟨#[47]⟩, .string ⟨#[109, 111, 100]⟩] 9)).alloc (.cells #[.int .i64 0, .int .i64 1, .int .i64 3, .int .i64 4, .int .i64 5, .int .i64 5, .int .i64 5, .int .i64 5, .int .i64 5, .int .i64 5, .int .i64 6, .int .i64 7, .int .i64 8, .int .i64 8, .int .i64 9, .int .i64 9, .int .i64 9] 3) = w5 at *
   have zi : (0 : Int) ≤ (i : Int) ∧ (i : Int) < 17 := ⟨by omega, by omega⟩
   have zm : (0 : Int) ≤ (m : Int) ∧ (m : Int) < 17 := ⟨by omega, by omega⟩
   have zi1 : (i : Int) < 17 := by omega
   have zm1 : (m : Int) < 17 := by omega
   have DA := hidden (brk_data a)
   have ZA : (⟨#[40]⟩ ++ a ++ ⟨#[41]⟩).size ≤ 140737488351234 := by rw [size_app, size_app]; show 1 + a.size + 1 ≤ _; omega
   generalize ⟨#[40]⟩ ++ a ++ ⟨#[41]⟩ = A at *
   have DB := hidden (brk_data b)
   have ZB : (⟨#[40]⟩ ++ b ++ ⟨#[41]⟩).size ≤ 140737488351234 := by rw [size_app, size_app]; show 1 + b.size + 1 ≤ _; omega
   generalize ⟨#[40]⟩ ++ b ++ ⟨#[41]⟩ = B at *
   have DC := hidden (brk_data c)
   have ZC : (⟨#[40]⟩ ++ c ++ ⟨#[41]⟩).size ≤ 140737488351234 := by rw [size_app, size_app]; show 1 + c.size + 1 ≤ _; omega
   generalize ⟨#[40]⟩ ++ c ++ ⟨#[41]⟩ = C at *
   obtain ⟨Li, hLi⟩ : ∃ n : Int, ((lvB i : Nat) : Int) = n := ⟨_, rfl⟩
   obtain ⟨Lm, hLm⟩ : ∃ n : Int, ((lvB m : Nat) : Int) = n := ⟨_, rfl⟩
   rw [hLi] at li
   rw [hLm] at lm
   obtain ⟨Si, hSi⟩ : ∃ x : ByteArray, ⟨(sgB i).toArray⟩ = x := ⟨_, rfl⟩
   obtain ⟨Sm, hSm⟩ : ∃ x : ByteArray, ⟨(sgB m).toArray⟩ = x := ⟨_, rfl⟩
   rw [hSi] at si
   rw [hSm] at sm
   have HLi := hidden hLi
   have HLm := hidden hLm
   have HSi : Hid (Si.data.toList = sgB i) := by show _ = _; rw [← hSi]
   have HSm : Hid (Sm.data.toList = sgB m) := by show _ = _; rw [← hSm]
   have GS : Hid (Si.size ≤ 3 ∧ Sm.size ≤ 3) := by
    show _ ∧ _
    have hs : ∀ k, k < 17 → (sgB k).length ≤ 3 := by decide
    rw [← len_data, ← len_data, HSi.out, HSm.out]
    exact ⟨hs i hi, hs m hm⟩
   have HLB := hidden (lv_left i hi)
   clear hLi hLm hSi hSm hone htwo
   have gs1 := GS.out.1
   have gs2 := GS.out.2
   go_quiet (fail)
   have n0 := cell_below (drewN_b w5 nq) si
   have n1 := cell_below (drewN_b w5 nq) sm
   have n2 := cell_below (drewN_b w5 nq) li
   have n3 := cell_below (drewN_b w5 nq) lm
   have BX2 := hidden (BX.out.trans ((drewN_b w5 nq).mono BX.out.size))
   clear si sm li lm BX
   generalize w5.drewN nq = w6 at *
   have si := n0
   have sm := n1
   have li := n2
   have lm := n3
   have BX := BX2
   clear n0 n1 n2 n3 BX2
   have DP := hidden (bindsP_data A B C Si Sm)
   have ZP := hidden (bindsP_size A B C Si Sm)
   generalize (⟨#[108, 101, 116, 32, 95, 32, 61, 32]⟩ ++ A ++ ⟨#[32]⟩ ++ Si ++ ⟨#[32]⟩ ++ B ++ ⟨#[32]⟩ ++ Sm ++ ⟨#[32]⟩ ++ C) = ps at *
   go_upto_region 20 with fail
   go_quiet (fail)
   have n0 := cell_below (drewN_b w6 nq) si
   have n1 := cell_below (drewN_b w6 nq) sm
   have n2 := cell_below (drewN_b w6 nq) li
   have n3 := cell_below (drewN_b w6 nq) lm
   have BX2 := hidden (BX.out.trans ((drewN_b w6 nq).mono BX.out.size))
   clear si sm li lm BX
   generalize w6.drewN nq = w7 at *
   have si := n0
   have sm := n1
   have li := n2
   have lm := n3
   have BX := BX2
   clear n0 n1 n2 n3 BX2
   have DW := hidden (binds1_data A B C Si Sm)
   have ZW := hidden (binds1_size A B C Si Sm)
   generalize (⟨#[108, 101, 116, 32, 95, 32, 61, 32]⟩ ++ A ++ ⟨#[32]⟩ ++ Si ++ ⟨#[32, 40]⟩ ++ B ++ ⟨#[32]⟩ ++ Sm ++ ⟨#[32]⟩ ++ C ++ ⟨#[41]⟩) = ws at *
   go_upto_region 21 with fail
   have cs : (decide (Lm < Li) = true) ∨ (decide (Lm < Li) = false ∧ (Li == Lm) = false) ∨ (decide (Lm < Li) = false ∧ (Li == Lm) = true ∧ (Li == 5) = true) ∨ (decide (Lm < Li) = false ∧ (Li == Lm) = true ∧ (Li == 5) = false ∧ decide ((7 : Int) < Li) = true) ∨ (decide (Lm < Li) = false ∧ (Li == Lm) = true ∧ (Li == 5) = false ∧ decide ((7 : Int) < Li) = false) := by
    cases decide (Lm < Li) <;> cases (Li == Lm) <;> cases (Li == 5) <;> cases decide ((7 : Int) < Li) <;> simp
   rcases cs with d1 | ⟨d1, d2⟩ | ⟨d1, d2, d3⟩ | ⟨d1, d2, d3, d4⟩ | ⟨d1, d2, d3, d4⟩
   ·skip
    have e1 := HLi.out
    have e2 := HLm.out
    have HF : Hid (lvB m < lvB i ∨ (lvB i = lvB m ∧ leftL (lvB i) = true)) := by
     show _ ∨ _
     have h1 := of_decide_eq_true d1
     exact Or.inl (by omega)
    clear e1 e2
    go_quiet (fail)
    have n0 := cell_below (drewN_b w7 nq) si
    have n1 := cell_below (drewN_b w7 nq) sm
    have n2 := cell_below (drewN_b w7 nq) li
    have n3 := cell_below (drewN_b w7 nq) lm
    have BX2 := hidden (BX.out.trans ((drewN_b w7 nq).mono BX.out.size))
    clear si sm li lm BX
    generalize w7.drewN nq = w8 at *
    have si := n0
    have sm := n1
    have li := n2
    have lm := n3
    have BX := BX2
    clear n0 n1 n2 n3 BX2
    clear DW ZW
    go_upto_region 22 with fail
    go_quiet (fail)
    have n0 := cell_below (drewN_b w8 nq) si
    have n1 := cell_below (drewN_b w8 nq) sm
    have n2 := cell_below (drewN_b w8 nq) li
    have n3 := cell_below (drewN_b w8 nq) lm
    have BX2 := hidden (BX.out.trans ((drewN_b w8 nq).mono BX.out.size))
    clear si sm li lm BX
    generalize w8.drewN nq = w9 at *
    have si := n0
    have sm := n1
    have li := n2
    have lm := n3
    have BX := BX2
    clear n0 n1 n2 n3 BX2
    have DW := hidden (binds2_data A B C Si Sm)
    have ZW := hidden (binds2_size A B C Si Sm)
    generalize (⟨#[108, 101, 116, 32, 95, 32, 61, 32, 40]⟩ ++ A ++ ⟨#[32]⟩ ++ Si ++ ⟨#[32]⟩ ++ B ++ ⟨#[41, 32]⟩ ++ Sm ++ ⟨#[32]⟩ ++ C) = wt at *
    go_upto_region 23 with fail
    clear si sm li lm d1
    by_cases hbig : 4096 < wt.size
    ·have q1 : (4096 : Int) < (wt.size : Int) := by omega
     go_wp2_with fail
     go_ret
     exact ⟨rfl, BX.out⟩
    ·have q1 : ¬ (4096 : Int) < (wt.size : Int) := by omega
     have zps : ps.size ≤ 4096 := by have h1 := ZP.out; have h2 := ZW.out; omega
     have hlaw := binds_law (ps := ps) (ws := wt) GA.out GB.out GC.out hi hm zps (by omega) (by rw [DP.out, DA.out, DB.out, DC.out, HSi.out, HSm.out]) (by rw [if_pos HF.out, DW.out, DA.out, DB.out, DC.out, HSi.out, HSm.out])
     have mp : Hid (ps.size ≤ maxLen) := by show _ ≤ _; unfold maxLen; omega
     have mw : Hid (wt.size ≤ maxLen) := by show _ ≤ _; unfold maxLen; omega
     clear zps
     rcases hlaw with ⟨L, L2, h1, h2, h3⟩ | ⟨er, p1, p2, hr, h1, h2⟩
     ·have H1 := hidden h1
      have H2 := hidden h2
      have H3 := hidden h3
      obtain ⟨_, _, _, _, _, _, hcn⟩ := parse_read h1
      have HCN := hidden hcn
      clear h1 h2 h3 hcn
      go_wp2_with fail
      refine (parse_ok w9 H1.out mp.out).mono ?_
      rintro e wa0 ⟨ao, cp, rfl, hl, hb⟩
      have hb2 := hb.alloc (by have := hb.size; omega) (.cells #[.int .i64 211, .int .i64 0, .int .i64 0, .string ⟨#[]⟩, .slice ao L.length cp] 25)
      have Ba := hidden (BX.out.trans (hb2.mono BX.out.size))
      have Vwa := hidden (B5.new wa0 211 0 0 ⟨#[]⟩ (.slice ao L.length cp))
      have Xwa := hidden (hl.alloc (.cells #[.int .i64 211, .int .i64 0, .int .i64 0, .string ⟨#[]⟩, .slice ao L.length cp] 25))
      clear hb hb2 hl
      go_upto_region 26 with fail
      generalize wa0.alloc (.cells #[.int .i64 211, .int .i64 0, .int .i64 0, .string ⟨#[]⟩, .slice ao L.length cp] 25) = wa at *
      go_wp2_with fail
      refine (parse_ok wa H2.out mw.out).mono ?_
      rintro e wb0 ⟨ao2, cp2, rfl, hl, hb⟩
      have hb2 := hb.alloc (by have := hb.size; omega) (.cells #[.int .i64 211, .int .i64 0, .int .i64 0, .string ⟨#[]⟩, .slice ao2 L2.length cp2] 25)
      have Bb := hidden (Ba.out.trans (hb2.mono Ba.out.size))
      have Vwb := hidden (B5.new wb0 211 0 0 ⟨#[]⟩ (.slice ao2 L2.length cp2))
      have Xwb := hidden (hl.alloc (.cells #[.int .i64 211, .int .i64 0, .int .i64 0, .string ⟨#[]⟩, .slice ao2 L2.length cp2] 25))
      have Va2 := hidden (Vwa.out.below hb2 (Nat.le_refl _))
      have Xa2 := hidden (Xwa.out.keep (fun q _ hlt => hb2.block q hlt))
      clear hb hb2 hl
      go_upto_region 27 with fail
      generalize wb0.alloc (.cells #[.int .i64 211, .int .i64 0, .int .i64 0, .string ⟨#[]⟩, .slice ao2 L2.length cp2] 25) = wb at *
      obtain ⟨v0, v1, v2, v3, v4, vf⟩ := Va2.out.cells
      obtain ⟨u0, u1, u2, u3_, u4, uf⟩ := Vwb.out.cells
      go_wp2_with fail
      refine (same_np H3.out HCN.out Xa2.out Xwb.out).mono ?_
      rintro e w6 ⟨rfl, hb⟩
      have Bc := hidden (Bb.out.trans (hb.mono Bb.out.size))
      clear hb
      go_wp2_with fail
      go_ret
      exact ⟨rfl, Bc.out⟩
     ·have H1 := hidden h1
      have H2 := hidden h2
      clear h1 h2
      rcases hr with hr | hr
      all_goals
       subst hr
       go_wp2_with fail
       refine (parse_err w9 H1.out mp.out).mono ?_
       rintro e wa0 ⟨rfl, hb⟩
       have hb2 := hb.alloc (by have := hb.size; omega) (.cells #[.int .i64 0, .int .i64 0, .int .i64 0, .string ⟨#[]⟩, .slice none 0 0] 25)
       have Ba := hidden (BX.out.trans (hb2.mono BX.out.size))
       have Vwa := hidden (B5.new wa0 0 0 0 ⟨#[]⟩ (.slice none 0 0))
       clear hb hb2
       go_upto_region 26 with fail
       generalize wa0.alloc (.cells #[.int .i64 0, .int .i64 0, .int .i64 0, .string ⟨#[]⟩, .slice none 0 0] 25) = wa at *
       go_wp2_with fail
       refine (parse_err wa H2.out mw.out).mono ?_
       rintro e wb0 ⟨rfl, hb⟩
       have hb2 := hb.alloc (by have := hb.size; omega) (.cells #[.int .i64 0, .int .i64 0, .int .i64 0, .string ⟨#[]⟩, .slice none 0 0] 25)
       have Bb := hidden (Ba.out.trans (hb2.mono Ba.out.size))
       have Vwb := hidden (B5.new wb0 0 0 0 ⟨#[]⟩ (.slice none 0 0))
       have Va2 := hidden (Vwa.out.below hb2 (Nat.le_refl _))
       clear hb hb2
       go_upto_region 27 with fail
       generalize wb0.alloc (.cells #[.int .i64 0, .int .i64 0, .int .i64 0, .string ⟨#[]⟩, .slice none 0 0] 25) = wb at *
       obtain ⟨v0, v1, v2, v3, v4, vf⟩ := Va2.out.cells
       obtain ⟨u0, u1, u2, u3_, u4, uf⟩ := Vwb.out.cells
       go_wp2_with fail
       refine (same_zero _).mono ?_
       rintro e w6 ⟨rfl, hb⟩
       have Bc := hidden (Bb.out.trans (hb.mono Bb.out.size))
       clear hb
       go_wp2_with fail
       go_ret
       exact ⟨rfl, Bc.out⟩
   ·skip
    have e1 := HLi.out
    have e2 := HLm.out
    have HF : Hid (¬ (lvB m < lvB i ∨ (lvB i = lvB m ∧ leftL (lvB i) = true))) := by
     show ¬ (_ ∨ _)
     rintro (h | ⟨h, _⟩)
     ·have h1 := of_decide_eq_false d1
      omega
     ·rw [show Li = Lm by omega] at d2
      simp at d2
    clear e1 e2
    go_quiet (fail)
    have n0 := cell_below (drewN_b w7 nq) si
    have n1 := cell_below (drewN_b w7 nq) sm
    have n2 := cell_below (drewN_b w7 nq) li
    have n3 := cell_below (drewN_b w7 nq) lm
    have BX2 := hidden (BX.out.trans ((drewN_b w7 nq).mono BX.out.size))
    clear si sm li lm BX
    generalize w7.drewN nq = w8 at *
    have si := n0
    have sm := n1
    have li := n2
    have lm := n3
    have BX := BX2
    clear n0 n1 n2 n3 BX2
    go_upto_region 23 with fail
    clear si sm li lm d1 d2
    by_cases hbig : 4096 < ws.size
    ·have q1 : (4096 : Int) < (ws.size : Int) := by omega
     go_wp2_with fail
     go_ret
     exact ⟨rfl, BX.out⟩
    ·have q1 : ¬ (4096 : Int) < (ws.size : Int) := by omega
     have zps : ps.size ≤ 4096 := by have h1 := ZP.out; have h2 := ZW.out; omega
     have hlaw := binds_law (ps := ps) (ws := ws) GA.out GB.out GC.out hi hm zps (by omega) (by rw [DP.out, DA.out, DB.out, DC.out, HSi.out, HSm.out]) (by rw [if_neg HF.out, DW.out, DA.out, DB.out, DC.out, HSi.out, HSm.out])
     have mp : Hid (ps.size ≤ maxLen) := by show _ ≤ _; unfold maxLen; omega
     have mw : Hid (ws.size ≤ maxLen) := by show _ ≤ _; unfold maxLen; omega
     clear zps
     rcases hlaw with ⟨L, L2, h1, h2, h3⟩ | ⟨er, p1, p2, hr, h1, h2⟩
     ·have H1 := hidden h1
      have H2 := hidden h2
      have H3 := hidden h3
      obtain ⟨_, _, _, _, _, _, hcn⟩ := parse_read h1
      have HCN := hidden hcn
      clear h1 h2 h3 hcn
      go_wp2_with fail
      refine (parse_ok w8 H1.out mp.out).mono ?_
      rintro e wa0 ⟨ao, cp, rfl, hl, hb⟩
      have hb2 := hb.alloc (by have := hb.size; omega) (.cells #[.int .i64 211, .int .i64 0, .int .i64 0, .string ⟨#[]⟩, .slice ao L.length cp] 25)
      have Ba := hidden (BX.out.trans (hb2.mono BX.out.size))
      have Vwa := hidden (B5.new wa0 211 0 0 ⟨#[]⟩ (.slice ao L.length cp))
      have Xwa := hidden (hl.alloc (.cells #[.int .i64 211, .int .i64 0, .int .i64 0, .string ⟨#[]⟩, .slice ao L.length cp] 25))
      clear hb hb2 hl
      go_upto_region 26 with fail
      generalize wa0.alloc (.cells #[.int .i64 211, .int .i64 0, .int .i64 0, .string ⟨#[]⟩, .slice ao L.length cp] 25) = wa at *
      go_wp2_with fail
      refine (parse_ok wa H2.out mw.out).mono ?_
      rintro e wb0 ⟨ao2, cp2, rfl, hl, hb⟩
      have hb2 := hb.alloc (by have := hb.size; omega) (.cells #[.int .i64 211, .int .i64 0, .int .i64 0, .string ⟨#[]⟩, .slice ao2 L2.length cp2] 25)
      have Bb := hidden (Ba.out.trans (hb2.mono Ba.out.size))
      have Vwb := hidden (B5.new wb0 211 0 0 ⟨#[]⟩ (.slice ao2 L2.length cp2))
      have Xwb := hidden (hl.alloc (.cells #[.int .i64 211, .int .i64 0, .int .i64 0, .string ⟨#[]⟩, .slice ao2 L2.length cp2] 25))
      have Va2 := hidden (Vwa.out.below hb2 (Nat.le_refl _))
      have Xa2 := hidden (Xwa.out.keep (fun q _ hlt => hb2.block q hlt))
      clear hb hb2 hl
      go_upto_region 27 with fail
      generalize wb0.alloc (.cells #[.int .i64 211, .int .i64 0, .int .i64 0, .string ⟨#[]⟩, .slice ao2 L2.length cp2] 25) = wb at *
      obtain ⟨v0, v1, v2, v3, v4, vf⟩ := Va2.out.cells
      obtain ⟨u0, u1, u2, u3_, u4, uf⟩ := Vwb.out.cells
      go_wp2_with fail
      refine (same_np H3.out HCN.out Xa2.out Xwb.out).mono ?_
      rintro e w6 ⟨rfl, hb⟩
      have Bc := hidden (Bb.out.trans (hb.mono Bb.out.size))
      clear hb
      go_wp2_with fail
      go_ret
      exact ⟨rfl, Bc.out⟩
     ·have H1 := hidden h1
      have H2 := hidden h2
      clear h1 h2
      rcases hr with hr | hr
      all_goals
       subst hr
       go_wp2_with fail
       refine (parse_err w8 H1.out mp.out).mono ?_
       rintro e wa0 ⟨rfl, hb⟩
       have hb2 := hb.alloc (by have := hb.size; omega) (.cells #[.int .i64 0, .int .i64 0, .int .i64 0, .string ⟨#[]⟩, .slice none 0 0] 25)
       have Ba := hidden (BX.out.trans (hb2.mono BX.out.size))
       have Vwa := hidden (B5.new wa0 0 0 0 ⟨#[]⟩ (.slice none 0 0))
       clear hb hb2
       go_upto_region 26 with fail
       generalize wa0.alloc (.cells #[.int .i64 0, .int .i64 0, .int .i64 0, .string ⟨#[]⟩, .slice none 0 0] 25) = wa at *
       go_wp2_with fail
       refine (parse_err wa H2.out mw.out).mono ?_
       rintro e wb0 ⟨rfl, hb⟩
       have hb2 := hb.alloc (by have := hb.size; omega) (.cells #[.int .i64 0, .int .i64 0, .int .i64 0, .string ⟨#[]⟩, .slice none 0 0] 25)
       have Bb := hidden (Ba.out.trans (hb2.mono Ba.out.size))
       have Vwb := hidden (B5.new wb0 0 0 0 ⟨#[]⟩ (.slice none 0 0))
       have Va2 := hidden (Vwa.out.below hb2 (Nat.le_refl _))
       clear hb hb2
       go_upto_region 27 with fail
       generalize wb0.alloc (.cells #[.int .i64 0, .int .i64 0, .int .i64 0, .string ⟨#[]⟩, .slice none 0 0] 25) = wb at *
       obtain ⟨v0, v1, v2, v3, v4, vf⟩ := Va2.out.cells
       obtain ⟨u0, u1, u2, u3_, u4, uf⟩ := Vwb.out.cells
       go_wp2_with fail
       refine (same_zero _).mono ?_
       rintro e w6 ⟨rfl, hb⟩
       have Bc := hidden (Bb.out.trans (hb.mono Bb.out.size))
       clear hb
       go_wp2_with fail
       go_ret
       exact ⟨rfl, Bc.out⟩
   ·skip
    have e1 := HLi.out
    have e2 := HLm.out
    have HF : Hid (lvB m < lvB i ∨ (lvB i = lvB m ∧ leftL (lvB i) = true)) := by
     show _ ∨ _
     have h2 := eq_of_beq d2
     have h3 := eq_of_beq d3
     refine Or.inr ⟨by omega, ?_⟩
     rw [HLB.out, show lvB i = 5 by omega]
     rfl
    clear e1 e2
    go_quiet (fail)
    have n0 := cell_below (drewN_b w7 nq) si
    have n1 := cell_below (drewN_b w7 nq) sm
    have n2 := cell_below (drewN_b w7 nq) li
    have n3 := cell_below (drewN_b w7 nq) lm
    have BX2 := hidden (BX.out.trans ((drewN_b w7 nq).mono BX.out.size))
    clear si sm li lm BX
    generalize w7.drewN nq = w8 at *
    have si := n0
    have sm := n1
    have li := n2
    have lm := n3
    have BX := BX2
    clear n0 n1 n2 n3 BX2
    clear DW ZW
    go_upto_region 22 with fail
    go_quiet (fail)
    have n0 := cell_below (drewN_b w8 nq) si
    have n1 := cell_below (drewN_b w8 nq) sm
    have n2 := cell_below (drewN_b w8 nq) li
    have n3 := cell_below (drewN_b w8 nq) lm
    have BX2 := hidden (BX.out.trans ((drewN_b w8 nq).mono BX.out.size))
    clear si sm li lm BX
    generalize w8.drewN nq = w9 at *
    have si := n0
    have sm := n1
    have li := n2
    have lm := n3
    have BX := BX2
    clear n0 n1 n2 n3 BX2
    have DW := hidden (binds2_data A B C Si Sm)
    have ZW := hidden (binds2_size A B C Si Sm)
    generalize (⟨#[108, 101, 116, 32, 95, 32, 61, 32, 40]⟩ ++ A ++ ⟨#[32]⟩ ++ Si ++ ⟨#[32]⟩ ++ B ++ ⟨#[41, 32]⟩ ++ Sm ++ ⟨#[32]⟩ ++ C) = wt at *
    go_upto_region 23 with fail
    clear si sm li lm d1 d2 d3
    by_cases hbig : 4096 < wt.size
    ·have q1 : (4096 : Int) < (wt.size : Int) := by omega
     go_wp2_with fail
     go_ret
     exact ⟨rfl, BX.out⟩
    ·have q1 : ¬ (4096 : Int) < (wt.size : Int) := by omega
     have zps : ps.size ≤ 4096 := by have h1 := ZP.out; have h2 := ZW.out; omega
     have hlaw := binds_law (ps := ps) (ws := wt) GA.out GB.out GC.out hi hm zps (by omega) (by rw [DP.out, DA.out, DB.out, DC.out, HSi.out, HSm.out]) (by rw [if_pos HF.out, DW.out, DA.out, DB.out, DC.out, HSi.out, HSm.out])
     have mp : Hid (ps.size ≤ maxLen) := by show _ ≤ _; unfold maxLen; omega
     have mw : Hid (wt.size ≤ maxLen) := by show _ ≤ _; unfold maxLen; omega
     clear zps
     rcases hlaw with ⟨L, L2, h1, h2, h3⟩ | ⟨er, p1, p2, hr, h1, h2⟩
     ·have H1 := hidden h1
      have H2 := hidden h2
      have H3 := hidden h3
      obtain ⟨_, _, _, _, _, _, hcn⟩ := parse_read h1
      have HCN := hidden hcn
      clear h1 h2 h3 hcn
      go_wp2_with fail
      refine (parse_ok w9 H1.out mp.out).mono ?_
      rintro e wa0 ⟨ao, cp, rfl, hl, hb⟩
      have hb2 := hb.alloc (by have := hb.size; omega) (.cells #[.int .i64 211, .int .i64 0, .int .i64 0, .string ⟨#[]⟩, .slice ao L.length cp] 25)
      have Ba := hidden (BX.out.trans (hb2.mono BX.out.size))
      have Vwa := hidden (B5.new wa0 211 0 0 ⟨#[]⟩ (.slice ao L.length cp))
      have Xwa := hidden (hl.alloc (.cells #[.int .i64 211, .int .i64 0, .int .i64 0, .string ⟨#[]⟩, .slice ao L.length cp] 25))
      clear hb hb2 hl
      go_upto_region 26 with fail
      generalize wa0.alloc (.cells #[.int .i64 211, .int .i64 0, .int .i64 0, .string ⟨#[]⟩, .slice ao L.length cp] 25) = wa at *
      go_wp2_with fail
      refine (parse_ok wa H2.out mw.out).mono ?_
      rintro e wb0 ⟨ao2, cp2, rfl, hl, hb⟩
      have hb2 := hb.alloc (by have := hb.size; omega) (.cells #[.int .i64 211, .int .i64 0, .int .i64 0, .string ⟨#[]⟩, .slice ao2 L2.length cp2] 25)
      have Bb := hidden (Ba.out.trans (hb2.mono Ba.out.size))
      have Vwb := hidden (B5.new wb0 211 0 0 ⟨#[]⟩ (.slice ao2 L2.length cp2))
      have Xwb := hidden (hl.alloc (.cells #[.int .i64 211, .int .i64 0, .int .i64 0, .string ⟨#[]⟩, .slice ao2 L2.length cp2] 25))
      have Va2 := hidden (Vwa.out.below hb2 (Nat.le_refl _))
      have Xa2 := hidden (Xwa.out.keep (fun q _ hlt => hb2.block q hlt))
      clear hb hb2 hl
      go_upto_region 27 with fail
      generalize wb0.alloc (.cells #[.int .i64 211, .int .i64 0, .int .i64 0, .string ⟨#[]⟩, .slice ao2 L2.length cp2] 25) = wb at *
      obtain ⟨v0, v1, v2, v3, v4, vf⟩ := Va2.out.cells
      obtain ⟨u0, u1, u2, u3_, u4, uf⟩ := Vwb.out.cells
      go_wp2_with fail
      refine (same_np H3.out HCN.out Xa2.out Xwb.out).mono ?_
      rintro e w6 ⟨rfl, hb⟩
      have Bc := hidden (Bb.out.trans (hb.mono Bb.out.size))
      clear hb
      go_wp2_with fail
      go_ret
      exact ⟨rfl, Bc.out⟩
     ·have H1 := hidden h1
      have H2 := hidden h2
      clear h1 h2
      rcases hr with hr | hr
      all_goals
       subst hr
       go_wp2_with fail
       refine (parse_err w9 H1.out mp.out).mono ?_
       rintro e wa0 ⟨rfl, hb⟩
       have hb2 := hb.alloc (by have := hb.size; omega) (.cells #[.int .i64 0, .int .i64 0, .int .i64 0, .string ⟨#[]⟩, .slice none 0 0] 25)
       have Ba := hidden (BX.out.trans (hb2.mono BX.out.size))
       have Vwa := hidden (B5.new wa0 0 0 0 ⟨#[]⟩ (.slice none 0 0))
       clear hb hb2
       go_upto_region 26 with fail
       generalize wa0.alloc (.cells #[.int .i64 0, .int .i64 0, .int .i64 0, .string ⟨#[]⟩, .slice none 0 0] 25) = wa at *
       go_wp2_with fail
       refine (parse_err wa H2.out mw.out).mono ?_
       rintro e wb0 ⟨rfl, hb⟩
       have hb2 := hb.alloc (by have := hb.size; omega) (.cells #[.int .i64 0, .int .i64 0, .int .i64 0, .string ⟨#[]⟩, .slice none 0 0] 25)
       have Bb := hidden (Ba.out.trans (hb2.mono Ba.out.size))
       have Vwb := hidden (B5.new wb0 0 0 0 ⟨#[]⟩ (.slice none 0 0))
       have Va2 := hidden (Vwa.out.below hb2 (Nat.le_refl _))
       clear hb hb2
       go_upto_region 27 with fail
       generalize wb0.alloc (.cells #[.int .i64 0, .int .i64 0, .int .i64 0, .string ⟨#[]⟩, .slice none 0 0] 25) = wb at *
       obtain ⟨v0, v1, v2, v3, v4, vf⟩ := Va2.out.cells
       obtain ⟨u0, u1, u2, u3_, u4, uf⟩ := Vwb.out.cells
       go_wp2_with fail
       refine (same_zero _).mono ?_
       rintro e w6 ⟨rfl, hb⟩
       have Bc := hidden (Bb.out.trans (hb.mono Bb.out.size))
       clear hb
       go_wp2_with fail
       go_ret
       exact ⟨rfl, Bc.out⟩
   ·skip
    have e1 := HLi.out
    have e2 := HLm.out
    have HF : Hid (lvB m < lvB i ∨ (lvB i = lvB m ∧ leftL (lvB i) = true)) := by
     show _ ∨ _
     have h2 := eq_of_beq d2
     have h4 := of_decide_eq_true d4
     refine Or.inr ⟨by omega, ?_⟩
     rw [HLB.out, show decide (7 < lvB i) = true from decide_eq_true (by omega), Bool.or_true]
    clear e1 e2
    go_quiet (fail)
    have n0 := cell_below (drewN_b w7 nq) si
    have n1 := cell_below (drewN_b w7 nq) sm
    have n2 := cell_below (drewN_b w7 nq) li
    have n3 := cell_below (drewN_b w7 nq) lm
    have BX2 := hidden (BX.out.trans ((drewN_b w7 nq).mono BX.out.size))
    clear si sm li lm BX
    generalize w7.drewN nq = w8 at *
    have si := n0
    have sm := n1
    have li := n2
    have lm := n3
    have BX := BX2
    clear n0 n1 n2 n3 BX2
    clear DW ZW
    go_upto_region 22 with fail
    go_quiet (fail)
    have n0 := cell_below (drewN_b w8 nq) si
    have n1 := cell_below (drewN_b w8 nq) sm
    have n2 := cell_below (drewN_b w8 nq) li
    have n3 := cell_below (drewN_b w8 nq) lm
    have BX2 := hidden (BX.out.trans ((drewN_b w8 nq).mono BX.out.size))
    clear si sm li lm BX
    generalize w8.drewN nq = w9 at *
    have si := n0
    have sm := n1
    have li := n2
    have lm := n3
    have BX := BX2
    clear n0 n1 n2 n3 BX2
    have DW := hidden (binds2_data A B C Si Sm)
    have ZW := hidden (binds2_size A B C Si Sm)
    generalize (⟨#[108, 101, 116, 32, 95, 32, 61, 32, 40]⟩ ++ A ++ ⟨#[32]⟩ ++ Si ++ ⟨#[32]⟩ ++ B ++ ⟨#[41, 32]⟩ ++ Sm ++ ⟨#[32]⟩ ++ C) = wt at *
    go_upto_region 23 with fail
    clear si sm li lm d1 d2 d3 d4
    by_cases hbig : 4096 < wt.size
    ·have q1 : (4096 : Int) < (wt.size : Int) := by omega
     go_wp2_with fail
     go_ret
     exact ⟨rfl, BX.out⟩
    ·have q1 : ¬ (4096 : Int) < (wt.size : Int) := by omega
     have zps : ps.size ≤ 4096 := by have h1 := ZP.out; have h2 := ZW.out; omega
     have hlaw := binds_law (ps := ps) (ws := wt) GA.out GB.out GC.out hi hm zps (by omega) (by rw [DP.out, DA.out, DB.out, DC.out, HSi.out, HSm.out]) (by rw [if_pos HF.out, DW.out, DA.out, DB.out, DC.out, HSi.out, HSm.out])
     have mp : Hid (ps.size ≤ maxLen) := by show _ ≤ _; unfold maxLen; omega
     have mw : Hid (wt.size ≤ maxLen) := by show _ ≤ _; unfold maxLen; omega
     clear zps
     rcases hlaw with ⟨L, L2, h1, h2, h3⟩ | ⟨er, p1, p2, hr, h1, h2⟩
     ·have H1 := hidden h1
      have H2 := hidden h2
      have H3 := hidden h3
      obtain ⟨_, _, _, _, _, _, hcn⟩ := parse_read h1
      have HCN := hidden hcn
      clear h1 h2 h3 hcn
      go_wp2_with fail
      refine (parse_ok w9 H1.out mp.out).mono ?_
      rintro e wa0 ⟨ao, cp, rfl, hl, hb⟩
      have hb2 := hb.alloc (by have := hb.size; omega) (.cells #[.int .i64 211, .int .i64 0, .int .i64 0, .string ⟨#[]⟩, .slice ao L.length cp] 25)
      have Ba := hidden (BX.out.trans (hb2.mono BX.out.size))
      have Vwa := hidden (B5.new wa0 211 0 0 ⟨#[]⟩ (.slice ao L.length cp))
      have Xwa := hidden (hl.alloc (.cells #[.int .i64 211, .int .i64 0, .int .i64 0, .string ⟨#[]⟩, .slice ao L.length cp] 25))
      clear hb hb2 hl
      go_upto_region 26 with fail
      generalize wa0.alloc (.cells #[.int .i64 211, .int .i64 0, .int .i64 0, .string ⟨#[]⟩, .slice ao L.length cp] 25) = wa at *
      go_wp2_with fail
      refine (parse_ok wa H2.out mw.out).mono ?_
      rintro e wb0 ⟨ao2, cp2, rfl, hl, hb⟩
      have hb2 := hb.alloc (by have := hb.size; omega) (.cells #[.int .i64 211, .int .i64 0, .int .i64 0, .string ⟨#[]⟩, .slice ao2 L2.length cp2] 25)
      have Bb := hidden (Ba.out.trans (hb2.mono Ba.out.size))
      have Vwb := hidden (B5.new wb0 211 0 0 ⟨#[]⟩ (.slice ao2 L2.length cp2))
      have Xwb := hidden (hl.alloc (.cells #[.int .i64 211, .int .i64 0, .int .i64 0, .string ⟨#[]⟩, .slice ao2 L2.length cp2] 25))
      have Va2 := hidden (Vwa.out.below hb2 (Nat.le_refl _))
      have Xa2 := hidden (Xwa.out.keep (fun q _ hlt => hb2.block q hlt))
      clear hb hb2 hl
      go_upto_region 27 with fail
      generalize wb0.alloc (.cells #[.int .i64 211, .int .i64 0, .int .i64 0, .string ⟨#[]⟩, .slice ao2 L2.length cp2] 25) = wb at *
      obtain ⟨v0, v1, v2, v3, v4, vf⟩ := Va2.out.cells
      obtain ⟨u0, u1, u2, u3_, u4, uf⟩ := Vwb.out.cells
      go_wp2_with fail
      refine (same_np H3.out HCN.out Xa2.out Xwb.out).mono ?_
      rintro e w6 ⟨rfl, hb⟩
      have Bc := hidden (Bb.out.trans (hb.mono Bb.out.size))
      clear hb
      go_wp2_with fail
      go_ret
      exact ⟨rfl, Bc.out⟩
     ·have H1 := hidden h1
      have H2 := hidden h2
      clear h1 h2
      rcases hr with hr | hr
      all_goals
       subst hr
       go_wp2_with fail
       refine (parse_err w9 H1.out mp.out).mono ?_
       rintro e wa0 ⟨rfl, hb⟩
       have hb2 := hb.alloc (by have := hb.size; omega) (.cells #[.int .i64 0, .int .i64 0, .int .i64 0, .string ⟨#[]⟩, .slice none 0 0] 25)
       have Ba := hidden (BX.out.trans (hb2.mono BX.out.size))
       have Vwa := hidden (B5.new wa0 0 0 0 ⟨#[]⟩ (.slice none 0 0))
       clear hb hb2
       go_upto_region 26 with fail
       generalize wa0.alloc (.cells #[.int .i64 0, .int .i64 0, .int .i64 0, .string ⟨#[]⟩, .slice none 0 0] 25) = wa at *
       go_wp2_with fail
       refine (parse_err wa H2.out mw.out).mono ?_
       rintro e wb0 ⟨rfl, hb⟩
       have hb2 := hb.alloc (by have := hb.size; omega) (.cells #[.int .i64 0, .int .i64 0, .int .i64 0, .string ⟨#[]⟩, .slice none 0 0] 25)
       have Bb := hidden (Ba.out.trans (hb2.mono Ba.out.size))
       have Vwb := hidden (B5.new wb0 0 0 0 ⟨#[]⟩ (.slice none 0 0))
       have Va2 := hidden (Vwa.out.below hb2 (Nat.le_refl _))
       clear hb hb2
       go_upto_region 27 with fail
       generalize wb0.alloc (.cells #[.int .i64 0, .int .i64 0, .int .i64 0, .string ⟨#[]⟩, .slice none 0 0] 25) = wb at *
       obtain ⟨v0, v1, v2, v3, v4, vf⟩ := Va2.out.cells
       obtain ⟨u0, u1, u2, u3_, u4, uf⟩ := Vwb.out.cells
       go_wp2_with fail
       refine (same_zero _).mono ?_
       rintro e w6 ⟨rfl, hb⟩
       have Bc := hidden (Bb.out.trans (hb.mono Bb.out.size))
       clear hb
       go_wp2_with fail
       go_ret
       exact ⟨rfl, Bc.out⟩
   ·skip
    have e1 := HLi.out
    have e2 := HLm.out
    have HF : Hid (¬ (lvB m < lvB i ∨ (lvB i = lvB m ∧ leftL (lvB i) = true))) := by
     show ¬ (_ ∨ _)
     rintro (h | ⟨_, h⟩)
     ·have h1 := of_decide_eq_false d1
      omega
     ·have h4 := of_decide_eq_false d4
      rw [HLB.out, show decide (7 < lvB i) = false from decide_eq_false (by omega), Bool.or_false, beq_iff_eq] at h
      rw [show Li = 5 by omega] at d3
      simp at d3
    clear e1 e2
    go_quiet (fail)
    have n0 := cell_below (drewN_b w7 nq) si
    have n1 := cell_below (drewN_b w7 nq) sm
    have n2 := cell_below (drewN_b w7 nq) li
    have n3 := cell_below (drewN_b w7 nq) lm
    have BX2 := hidden (BX.out.trans ((drewN_b w7 nq).mono BX.out.size))
    clear si sm li lm BX
    generalize w7.drewN nq = w8 at *
    have si := n0
    have sm := n1
    have li := n2
    have lm := n3
    have BX := BX2
    clear n0 n1 n2 n3 BX2
    go_upto_region 23 with fail
    clear si sm li lm d1 d2 d3 d4
    by_cases hbig : 4096 < ws.size
    ·have q1 : (4096 : Int) < (ws.size : Int) := by omega
     go_wp2_with fail
     go_ret
     exact ⟨rfl, BX.out⟩
    ·have q1 : ¬ (4096 : Int) < (ws.size : Int) := by omega
     have zps : ps.size ≤ 4096 := by have h1 := ZP.out; have h2 := ZW.out; omega
     have hlaw := binds_law (ps := ps) (ws := ws) GA.out GB.out GC.out hi hm zps (by omega) (by rw [DP.out, DA.out, DB.out, DC.out, HSi.out, HSm.out]) (by rw [if_neg HF.out, DW.out, DA.out, DB.out, DC.out, HSi.out, HSm.out])
     have mp : Hid (ps.size ≤ maxLen) := by show _ ≤ _; unfold maxLen; omega
     have mw : Hid (ws.size ≤ maxLen) := by show _ ≤ _; unfold maxLen; omega
     clear zps
     rcases hlaw with ⟨L, L2, h1, h2, h3⟩ | ⟨er, p1, p2, hr, h1, h2⟩
     ·have H1 := hidden h1
      have H2 := hidden h2
      have H3 := hidden h3
      obtain ⟨_, _, _, _, _, _, hcn⟩ := parse_read h1
      have HCN := hidden hcn
      clear h1 h2 h3 hcn
      go_wp2_with fail
      refine (parse_ok w8 H1.out mp.out).mono ?_
      rintro e wa0 ⟨ao, cp, rfl, hl, hb⟩
      have hb2 := hb.alloc (by have := hb.size; omega) (.cells #[.int .i64 211, .int .i64 0, .int .i64 0, .string ⟨#[]⟩, .slice ao L.length cp] 25)
      have Ba := hidden (BX.out.trans (hb2.mono BX.out.size))
      have Vwa := hidden (B5.new wa0 211 0 0 ⟨#[]⟩ (.slice ao L.length cp))
      have Xwa := hidden (hl.alloc (.cells #[.int .i64 211, .int .i64 0, .int .i64 0, .string ⟨#[]⟩, .slice ao L.length cp] 25))
      clear hb hb2 hl
      go_upto_region 26 with fail
      generalize wa0.alloc (.cells #[.int .i64 211, .int .i64 0, .int .i64 0, .string ⟨#[]⟩, .slice ao L.length cp] 25) = wa at *
      go_wp2_with fail
      refine (parse_ok wa H2.out mw.out).mono ?_
      rintro e wb0 ⟨ao2, cp2, rfl, hl, hb⟩
      have hb2 := hb.alloc (by have := hb.size; omega) (.cells #[.int .i64 211, .int .i64 0, .int .i64 0, .string ⟨#[]⟩, .slice ao2 L2.length cp2] 25)
      have Bb := hidden (Ba.out.trans (hb2.mono Ba.out.size))
      have Vwb := hidden (B5.new wb0 211 0 0 ⟨#[]⟩ (.slice ao2 L2.length cp2))
      have Xwb := hidden (hl.alloc (.cells #[.int .i64 211, .int .i64 0, .int .i64 0, .string ⟨#[]⟩, .slice ao2 L2.length cp2] 25))
      have Va2 := hidden (Vwa.out.below hb2 (Nat.le_refl _))
      have Xa2 := hidden (Xwa.out.keep (fun q _ hlt => hb2.block q hlt))
      clear hb hb2 hl
      go_upto_region 27 with fail
      generalize wb0.alloc (.cells #[.int .i64 211, .int .i64 0, .int .i64 0, .string ⟨#[]⟩, .slice ao2 L2.length cp2] 25) = wb at *
      obtain ⟨v0, v1, v2, v3, v4, vf⟩ := Va2.out.cells
      obtain ⟨u0, u1, u2, u3_, u4, uf⟩ := Vwb.out.cells
      go_wp2_with fail
      refine (same_np H3.out HCN.out Xa2.out Xwb.out).mono ?_
      rintro e w6 ⟨rfl, hb⟩
      have Bc := hidden (Bb.out.trans (hb.mono Bb.out.size))
      clear hb
      go_wp2_with fail
      go_ret
      exact ⟨rfl, Bc.out⟩
     ·have H1 := hidden h1
      have H2 := hidden h2
      clear h1 h2
      rcases hr with hr | hr
      all_goals
       subst hr
       go_wp2_with fail
       refine (parse_err w8 H1.out mp.out).mono ?_
       rintro e wa0 ⟨rfl, hb⟩
       have hb2 := hb.alloc (by have := hb.size; omega) (.cells #[.int .i64 0, .int .i64 0, .int .i64 0, .string ⟨#[]⟩, .slice none 0 0] 25)
       have Ba := hidden (BX.out.trans (hb2.mono BX.out.size))
       have Vwa := hidden (B5.new wa0 0 0 0 ⟨#[]⟩ (.slice none 0 0))
       clear hb hb2
       go_upto_region 26 with fail
       generalize wa0.alloc (.cells #[.int .i64 0, .int .i64 0, .int .i64 0, .string ⟨#[]⟩, .slice none 0 0] 25) = wa at *
       go_wp2_with fail
       refine (parse_err wa H2.out mw.out).mono ?_
       rintro e wb0 ⟨rfl, hb⟩
       have hb2 := hb.alloc (by have := hb.size; omega) (.cells #[.int .i64 0, .int .i64 0, .int .i64 0, .string ⟨#[]⟩, .slice none 0 0] 25)
       have Bb := hidden (Ba.out.trans (hb2.mono Ba.out.size))
       have Vwb := hidden (B5.new wb0 0 0 0 ⟨#[]⟩ (.slice none 0 0))
       have Va2 := hidden (Vwa.out.below hb2 (Nat.le_refl _))
       clear hb hb2
       go_upto_region 27 with fail
       generalize wb0.alloc (.cells #[.int .i64 0, .int .i64 0, .int .i64 0, .string ⟨#[]⟩, .slice none 0 0] 25) = wb at *
       obtain ⟨v0, v1, v2, v3, v4, vf⟩ := Va2.out.cells
       obtain ⟨u0, u1, u2, u3_, u4, uf⟩ := Vwb.out.cells
       go_wp2_with fail
       refine (same_zero _).mono ?_
       rintro e w6 ⟨rfl, hb⟩
       have Bc := hidden (Bb.out.trans (hb.mono Bb.out.size))
       clear hb
       go_wp2_with fail
       go_ret
       exact ⟨rfl, Bc.out⟩
end Go.Proofs.YthjmakjhidjbaaaGreat
