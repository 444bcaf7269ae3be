/-
  A row over plain numbers whose call makes memory of its own and leaves all that was there: no place was read, so none can have turned.
-/
import Derived.Below
import Derived.ChangeSame
namespace Go.Proofs.Ytmdopndlnnapiaa
open Go.RowKit Go.WideShapes Go.ChangeShapes

theorem post_plain {H : Type} {enc : TypeId × Value → H} {P : Program} {f : Func} {s : ChangeSpec} {apart fresh handsOn again : Bool} {W W' : World} {args : Array Value} {v : Value} {ds gs : List (DataW H)}
    (hW : DataW.Whole enc P f.params.toList s.vars apart W args.toList ds gs [])
    (hres : ∀ (b : Nat) (sp : Nat → Bool) (hd : Bool), DataW.TrodAll enc P W' b sp hd f.resultTypes.toList (v.resultList f.resultTypes.size) (s.fn H (ds ++ gs)).results [])
    (hargs : ∀ sp : Nat → Bool, DataW.TrodAll enc P W' 0 sp true f.params.toList args.toList (s.fn H (ds ++ gs)).args [])
    (hvars : ∀ sp : Nat → Bool, DataW.TrodVars enc P W' sp s.vars (s.fn H (ds ++ gs)).vars [])
    (hb : Below W.heap.size W W')
    (hok : ∀ (j : Nat) (t : TypeId) (r : Value), f.resultTypes[j]? = some t → (v.resultList f.resultTypes.size)[j]? = some r → Value.okWide P W' .any 0 t r) :
    s.post enc P f apart fresh handsOn again W args v W' := by
  have hnone : ∀ {X : Prop} {p : MemPlace}, p ∈ ([] : List MemPlace) → X := fun hp => absurd hp (by simp)
  have hkeep : W.keptBut W' (fun _ => False) := hb.frame _
  refine ⟨ds, gs, [], [], [], [], hW, hres _ _ _, hargs _, hvars _, World.keptBut_mono (fun _ hp => hp.elim) hkeep, fun _ => ⟨hok, _, _, [], ⟨[], [], trodAll_append (hargs _) (hres _ _ _), hvars _, rfl, fun _ _ hp => hnone hp, fun _ => by simp⟩, fun _ hp _ => hnone hp⟩⟩
end Go.Proofs.Ytmdopndlnnapiaa
