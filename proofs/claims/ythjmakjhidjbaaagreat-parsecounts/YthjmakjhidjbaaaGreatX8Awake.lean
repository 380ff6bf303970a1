/-
 Layer 8, plain: the sources that awake asks for, read by the grammar. No program is named.
-/
import Derived.Test.YthjmakjhidjbaaaGreatX8Lex
import Derived.Test.YthjmakjhidjbaaaGreatLibAB
namespace Go.Proofs.YthjmakjhidjbaaaGreat
set_option linter.unusedVariables false
set_option maxHeartbeats 1000000

/-- let f x y = x + y * 2 -/
def awS1 : List UInt8 := [108, 101, 116, 32, 102, 32, 120, 32, 121, 32, 61, 32, 120, 32, 43, 32, 121, 32, 42, 32, 50]
/-- let _ = 1 <- 2 -/
def awS2 : List UInt8 := [108, 101, 116, 32, 95, 32, 61, 32, 49, 32, 60, 45, 32, 50]
def awT1 : List (Tk × Nat) := [(⟨5, [108, 101, 116], 0⟩, 21), (⟨3, [102], 0⟩, 17), (⟨3, [120], 0⟩, 15), (⟨3, [121], 0⟩, 13), (⟨5, [61], 0⟩, 11), (⟨3, [120], 0⟩, 9), (⟨5, [43], 0⟩, 7), (⟨3, [121], 0⟩, 5), (⟨5, [42], 0⟩, 3), (⟨1, [], 2⟩, 1)]
def awT2 : List (Tk × Nat) := [(⟨5, [108, 101, 116], 0⟩, 14), (⟨5, [95], 0⟩, 10), (⟨5, [61], 0⟩, 8), (⟨1, [], 1⟩, 6), (⟨5, [60, 45], 0⟩, 4), (⟨1, [], 2⟩, 1)]
theorem aw8_lex1 : lexF docW 30 awS1 = .ok awT1 := by kernel_rfl
theorem aw8_lex2 : lexF docW 30 awS2 = .ok awT2 := by kernel_rfl
def awTr : Tr := .mk 205 0 0 [] [.mk 20 1 0 [] [.mk 106 1 0 [102] [], .mk 17 2 0 [] [.mk 106 2 0 [120] [], .mk 106 3 0 [121] [], .mk 29 6 0 [43] [.mk 5 5 0 [120] [], .mk 29 8 0 [42] [.mk 5 7 0 [121] [], .mk 1 9 2 [] []]]]]]
theorem aw8_read1 : reads (awT1.map (·.1)) .items 0 = .ok (lst [awTr], 10) := by kernel_rfl
theorem aw8_read2 : reads (awT2.map (·.1)) .items 0 = .error 4 := by kernel_rfl
theorem aw8_cnt : awTr.cnt = 11 := by kernel_rfl
end Go.Proofs.YthjmakjhidjbaaaGreat
