/- append of a whole list of trees, which may be empty: 'n.Kids = append(n.Kids, list...)'. -/
import Derived.Test.YtflhniiemmahmaaDoorLoc
import Derived.Laws.AppendOwnNone
namespace Go.Proofs.YtflhniiemmahmaaDoor
open Go.RowKit

theorem append_block0 {P : Program} {w : World} {t ty e : TypeId} {i : TypeInfo} (ht : P.underlying t = some (.slice e)) (hi : P.info? e = some i) (hsize : i.size = 5)
    {v : Value} {n : Nat} {xs : List Value} (hown : w.ownsRow 0 e 5 v n xs) {a : Addr} {c : Nat} {v' : Value} {w' : World} (hr : (Builtin.append_ #[t, t] ty #[v, .slice (some a) 0 c]).run P w = .ok v' w') (hnil : v = .slice none 0 0 → v' = .slice none 0 0) : v'.ownBlock = v.ownBlock := by
  rcases hown.2 with ⟨rfl, rfl⟩ | ⟨g, cap, cur, rfl, hbg, hg, hnc, hcm, hcs, htake⟩
  · rw [hnil rfl]
  · have h := run_append_room (P := P) w t ty e i ht hi g n cap cur hg a 0 c [] (by simp) (by simp) (by simp) (by omega) (by rw [hcs, hsize]; simp; exact Nat.mul_le_mul_right _ hnc)
    rw [h] at hr
    cases hr
    rfl

theorem wp_append_kids {P : Program} {w : World} {o : Oper} {a : Act} {K : Act → World → Prop} {Q : Exit → Act → World → Prop} (s x : Operand) {t e : TypeId} (ho : o.op = .call { callee := .builtin .append, args := #[s, x], argTypes := #[t, t] })
    {i : TypeInfo} {z : Value} (I : NodeInfo P t e i z) {ks ts : List T} {S : Nat → Prop} {v y : Value} (hs : a.eval s = v) (hk : KAt e w ks S v) (hx : a.eval x = y)
    (hts : KAt e w ts (fun b => S b ∧ v.ownBlock ≠ some b) y) (hS : S w.heap.size) (hb : ks.length + ts.length ≤ 100000)
    (h : ∀ v' w', KAt e w' (ks ++ ts) S v' → w.grownBy w' v.ownBlock → K (a.put o.dst v') w') : o.wp P a w K Q := by
  obtain ⟨us, ho', hSu, hus⟩ := hts
  have hus' : TsAt e w ts (fun b => S b ∧ v.ownBlock ≠ some b) us := TsAt.keep ts hus fun b hb _ => ⟨hb.1, rfl⟩
  rcases ho'.2 with ⟨rfl, h0⟩ | ⟨g, cap, cur, rfl, hbg, hg, hnc, hcm, hcs, htake⟩
  · obtain rfl : ts = [] := List.eq_nil_of_length_eq_zero h0
    have hk' := hk
    obtain ⟨vs, hown, _⟩ := hk
    have hrun := run_append_owned_none (P := P) (w := w) 0 t o.type e i 5 I.ht I.hi v ks.length _ hown
    unfold Oper.wp
    simp [execOp, ho, resolve, invoke, builtin, hs, hx, hrun, Result.andThen]
    exact h v w (by rw [List.append_nil]; exact hk') ⟨rfl, rfl, rfl, Nat.le_refl _, fun _ _ _ => rfl⟩
  · by_cases hm : 0 < ts.length
    · exact wp_append_trees s x ho I hs hk hus' hS hx rfl hm (ho'.cells (g := g) rfl) hb fun v' w' h1 h2 _ => h v' w' h1 h2
    · obtain rfl : ts = [] := List.eq_nil_of_length_eq_zero (by omega)
      obtain ⟨vs, hown, hSv, hks⟩ := hk
      obtain ⟨v', w', hr, ho2, hg', hnil⟩ := run_append_own (P := P) w 0 t o.type e i z 5 64 I.ht I.hi I.hz I.size I.bytes I.zs (by decide) v ks.length (rowCells ks vs) hown ⟨g, 0, none⟩ 0 cap [] (by simp) (by simp) (by simp) (by unfold maxLen; simp at hb; omega) (by simp at hb; omega) (Nat.zero_le _)
      have hbk := append_block0 I.ht I.hi I.size hown hr (fun hv => hnil.2 ⟨hv, rfl⟩)
      unfold Oper.wp execOp
      simp only [ho, resolve, invoke, builtin, Sem.run_bind, Sem.run_pure, Result.andThen_ok, List.map_toArray, List.map_cons, List.map_nil, hs, hx, List.length_nil, hr]
      refine h v' w' ⟨vs, ?_, fun g hg => hSv g (hbk ▸ hg), ?_⟩ hg'
      · rw [List.append_nil]
        simpa using ho2
      · rw [List.append_nil]
        exact TsAt.keep ks hks fun b hb hl => ⟨⟨hb.1, fun he => hb.2 (hbk ▸ he)⟩, hg'.block b hl (Ne.symm hb.2)⟩

end Go.Proofs.YtflhniiemmahmaaDoor
