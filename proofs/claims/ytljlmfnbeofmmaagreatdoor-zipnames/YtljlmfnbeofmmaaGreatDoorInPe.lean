import Derived.Test.YtljlmfnbeofmmaaGreatDoorInPm
namespace Go.Proofs.YtljlmfnbeofmmaaGreatDoor
theorem fix_ok : OkL fixL fixD := by
 refine ⟨⟨by decide +kernel, by decide +kernel, by decide +kernel, by decide +kernel⟩, by decide +kernel, by decide +kernel, by decide +kernel, fun _ => ⟨by decide +kernel, by decide +kernel, by decide +kernel, by decide +kernel⟩⟩

end Go.Proofs.YtljlmfnbeofmmaaGreatDoor
