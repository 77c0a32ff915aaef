/- peerageref11.Text at Notify; both texts -/
import Derived.Test.YtmcmhljonkijjaaDoorFnD
namespace Go.Proofs.YtmcmhljonkijjaaDoor
open Go.RowKit Go.Sort

def lits5 : Array Value := #[.string ⟨#[97, 99, 99, 101, 112, 116]⟩, .string ⟨#[100, 105, 115, 99, 97, 114, 100]⟩, .string ⟨#[119, 105, 116, 104, 100, 114, 97, 119]⟩, .string ⟨#[114, 101, 115, 101, 116]⟩, .string ⟨#[110, 111, 116, 105, 102, 121]⟩]
theorem vNote_ref (c s : Int) : (⟨#[110, 111, 116, 105, 102, 121]⟩ : ByteArray) ++ ⟨#[32]⟩ ++ decB c ++ ⟨#[32]⟩ ++ decB s = vNote c s := rfl
theorem dec_3 : Lib.decDigits 3 = [51] := by rw [Lib.decDigits_one (by omega)]; rfl
theorem dec_5 : Lib.decDigits 5 = [53] := by rw [Lib.decDigits_one (by omega)]; rfl
theorem dec_30 : Lib.decDigits 30 = [51, 48] := by rw [Lib.decDigits_two (by omega) (by omega)]; rfl
theorem ex11_text : vtext 4 3 5 [1, 2] 30 = ⟨#[110, 111, 116, 105, 102, 121, 32, 51, 32, 53, 32, 48, 49, 48, 50, 32, 97, 116, 32, 51, 48]⟩ := by
  have h1 : decB 3 = ⟨#[51]⟩ := congrArg (fun l : List UInt8 => ByteArray.mk l.toArray) dec_3
  have h2 : decB 5 = ⟨#[53]⟩ := congrArg (fun l : List UInt8 => ByteArray.mk l.toArray) dec_5
  have h3 : decB 30 = ⟨#[51, 48]⟩ := congrArg (fun l : List UInt8 => ByteArray.mk l.toArray) dec_30
  unfold vtext vAt vNote
  rw [h1, h2, h3]
  decide +kernel
set_option maxRecDepth 100000 in
/-- alive of layer 11. -/
theorem alive11_any (w : World) (ht : Tens w) : Calls Tryd.prog 16 #[] w fun e w' => e = .returned (.bool true) ∧ Below w.heap.size w w' := by
  have hb := bl_alloc (bl_refl w) (.cells #[.int .u8 1, .int .u8 2] 5)
  have hy := Bytes.of_owned (xs := [1, 2]) (Own.new w 5 #[.int .u8 1, .int .u8 2]) (by decide) (Own.new w 5 #[.int .u8 1, .int .u8 2]).lt
  have ht1 := ht.below hb
  have HE := Lib.hid ex11_text
  go_enter Tryd.func16, Tryd.ntmps16
  go_wp2_with fail
  refine (ftext_any 4 3 5 30 _ 2 2 [1, 2] _ ht1 hy (by omega) (by omega)).mono ?_
  rw [if_pos (by decide), HE.out]
  rintro e w1 ⟨rfl, hb1⟩
  go_wp2
  go_ret
  exact ⟨rfl, bl_trans hb hb1⟩
end Go.Proofs.YtmcmhljonkijjaaDoor
