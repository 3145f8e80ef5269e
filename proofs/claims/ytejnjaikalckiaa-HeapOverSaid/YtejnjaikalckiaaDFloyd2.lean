/- What the document's table says: it is refused just where there is no solution; else its rows' least numbers are the plain solution, and its numbers are what follows. And the bounds of what it reads. -/
import Derived.Test.YtejnjaikalckiaaDFloyd
namespace Go.Proofs.Ytejnjaikalckiaa

theorem stops_none {fs : List F} {n m x : Nat} (fit : FitS n fs) (hmn : m < n) (hx : x < n) (h : TInv fs n m (fwT fs n m)) (hs : stops fs n m x) (v : Nat → Int) : ¬ Sol fs v := by
  intro hv
  have hd := init_diag fit m
  by_cases hmm : fwT fs n m m m = 0
  · have h2 := hs.2
    rw [rndS_good hmm hmn (x + 1) (by omega) x x hx hx, if_pos (by omega)] at h2
    rcases upd_is (fwT fs n m) m x x with e | ⟨h3, h4, e, _⟩
    · rw [e] at h2
      have := h.snd v hv x x hx hx (by unfold FAR; omega)
      omega
    · rw [e] at h2
      have := h.snd v hv x m hx hmn h3
      have := h.snd v hv m x hmn hx h4
      omega
  · have hdm := h.diag m hmn
    have := h.snd v hv m m hmn hmn (by rw [hdm]; unfold FAR; omega)
    omega

/- No row ends it. -/
def Fine (fs : List F) (n : Nat) : Prop := ∀ m x, m < n → x < n → ¬ stops fs n m x

theorem fine_of_sol {fs : List F} {n : Nat} (fit : FitS n fs) {v : Nat → Int} (hv : Sol fs v) : Fine fs n := by
  have key : ∀ m, m ≤ n → ∀ m' x, m' < m → x < n → ¬ stops fs n m' x := by
    intro m
    induction m with
    | zero => intro _ m' x h; omega
    | succ m ih =>
      intro hm m' x h1 h2
      rcases Nat.lt_succ_iff_lt_or_eq.1 h1 with hlt | rfl
      · exact ih (by omega) m' x hlt h2
      · exact fun hs => stops_none fit (by omega) h2 (fw_inv fit m' (by omega) (ih (by omega))) hs v hv
  exact fun m x hm hx => key n (Nat.le_refl _) m x hm hx

theorem fine_inv {fs : List F} {n : Nat} (fit : FitS n fs) (h : Fine fs n) : TInv fs n n (fwT fs n n) := fw_inv fit n (Nat.le_refl _) fun m x hm hx => h m x hm hx

theorem table_sol {fs : List F} {n : Nat} {t : Tab} (fit : FitS n fs) (h : TInv fs n n t) : Sol fs (fun x => rowMin t x n) := fun f hf => by
  have ft := fit.fit f hf
  have := ft.x0; have := ft.xn; have := ft.y0; have := ft.yn
  exact rowMin_sol h (Nat.le_refl _) fit.fit f hf (by omega) (by omega)

theorem table_greatest {fs : List F} {n : Nat} {t : Tab} (fit : FitS n fs) (h : TInv fs n n t) : Greatest n fs (fun x => rowMin t x n) := by
  refine ⟨fun x _ => rowMin_zero t x n, table_sol fit h, fun u hu hs x hx => ?_⟩
  show u x ≤ rowMin t x n
  rcases rowMin_is t x n with e | ⟨y, hy, e, h2⟩
  · rw [e]; exact hu x hx
  · rw [e]
    have := h.snd u hs x y hx hy (by unfold FAR; omega)
    have := hu y hy
    omega

theorem rowMin_low {fs : List F} {n : Nat} {t : Tab} (fit : FitS n fs) (h : TInv fs n n t) (x : Nat) (hx : x < n) : -1152939096792891392 ≤ rowMin t x n := by
  rcases rowMin_is t x n with e | ⟨y, hy, e, h2⟩
  · rw [e]; omega
  · rw [e]
    exact (h.bounds fit (Nat.le_refl _) hx hy (by unfold FAR; omega)).1

theorem table_ent {fs : List F} {n : Nat} {t : Tab} (fit : FitS n fs) (h : TInv fs n n t) {g : F} (hg : FitF n g) : t g.x.toNat g.y.toNat ≤ g.c ↔ Ent fs g := by
  have hx : g.x.toNat < n := by have := hg.x0; have := hg.xn; omega
  have hy : g.y.toNat < n := by have := hg.y0; have := hg.yn; omega
  have hc := hg.c1
  constructor
  · intro hle v hv
    have := h.snd v hv g.x.toNat g.y.toNat hx hy (by unfold FAR; omega)
    unfold Hold
    omega
  · intro hent
    apply Classical.byContradiction
    intro hnot
    have hbd : ∀ x, x < n → t x g.y.toNat ≠ FAR → -1152939096792891392 ≤ t x g.y.toNat ∧ t x g.y.toNat ≤ 853221023154176 := fun x hx hf => h.bounds fit (Nat.le_refl _) hx hy hf
    have hbb : t g.y.toNat g.y.toNat = 0 := (h.diag _ hy).trans (h.zero _ hy)
    have hv := hent (fun z => if t z g.y.toNat = FAR then 2305843009213693952 + rowMin t z n else t z g.y.toNat) (fun f hf => by
      have ft := fit.fit f hf
      have hfx : f.x.toNat < n := by have := ft.x0; have := ft.xn; omega
      have hfy : f.y.toNat < n := by have := ft.y0; have := ft.yn; omega
      have f0 := ft.c0
      have f1 := ft.c1
      have hfc := h.fact f hf
      unfold Hold
      simp only
      by_cases hyf : t f.y.toNat g.y.toNat = FAR
      · rw [if_pos hyf]
        have l1 := rowMin_low fit h f.y.toNat hfy
        by_cases hxf : t f.x.toNat g.y.toNat = FAR
        · rw [if_pos hxf]
          have := table_sol fit h f hf
          unfold Hold at this
          simp only at this
          omega
        · rw [if_neg hxf]
          have := hbd _ hfx hxf
          omega
      · have hb1 := hbd _ hfy hyf
        have hcl := h.clos f.y.toNat f.x.toNat g.y.toNat hfy hfx hy (by unfold FAR; omega) hyf
        have hxf : t f.x.toNat g.y.toNat ≠ FAR := by unfold FAR; omega
        rw [if_neg hyf, if_neg hxf]
        omega)
    unfold Hold at hv
    simp only at hv
    rw [if_neg (show t g.y.toNat g.y.toNat ≠ FAR by rw [hbb]; unfold FAR; omega), hbb] at hv
    by_cases hxf : t g.x.toNat g.y.toNat = FAR
    · rw [if_pos hxf] at hv
      have := rowMin_low fit h g.x.toNat hx
      omega
    · rw [if_neg hxf] at hv
      omega

/- What a row reads on its way: the round's own row as it was, its own number of the round's column within bounds. -/
theorem reads {fs : List F} {n m x k : Nat} (fit : FitS n fs) (hmn : m < n) (hx : x < n) (hk : k < n) (h : TInv fs n m (fwT fs n m)) (hns : ∀ x', x' < x → ¬ stops fs n m x')
    (hr : rndS (fwT fs n m) m n x x m ≠ FAR) :
    rowS (rndS (fwT fs n m) m n x) m x k m k = fwT fs n m m k ∧ (rowS (rndS (fwT fs n m) m n x) m x k x m ≠ FAR ∧ -2305878193585782784 ≤ rowS (rndS (fwT fs n m) m n x) m x k x m ∧ rowS (rndS (fwT fs n m) m n x) m x k x m ≤ 853221023154176) := by
  have hd := init_diag fit m
  have hdm := h.diag m hmn
  have hxm : rndS (fwT fs n m) m n x x m = fwT fs n m x m := rndS_ge x (Nat.le_refl _)
  rw [hxm] at hr
  have hb := h.bounds fit (by omega) hx hmn hr
  by_cases hmm : fwT fs n m m m = 0
  · have hrow : ∀ y, y < n → rndS (fwT fs n m) m n x m y = fwT fs n m m y := fun y hy => by
      rw [rndS_good hmm hmn x (by omega) m y hmn hy]
      split
      · exact upd_row hmm
      · rfl
    have e1 : rowS (rndS (fwT fs n m) m n x) m x k m k = fwT fs n m m k := by
      rw [rowS_other _ _ _ _ (by omega), hrow k hk]
    have e2 : rowS (rndS (fwT fs n m) m n x) m x k x m = fwT fs n m x m := by
      by_cases hmk : m < k
      · rw [rowS_good (by rw [hrow m hmn]; exact hmm) (by rw [hxm]; exact hr) k m hmk, upd_col (by rw [hrow m hmn]; exact hmm), hxm]
      · rw [rowS_other _ _ _ _ (by omega), hxm]
    rw [e1, e2]
    exact ⟨rfl, hr, by omega, by omega⟩
  · have hle : x ≤ m := by
      rcases Nat.lt_or_ge m x with hlt | hge
      · exfalso
        apply hns m hlt
        have e : rndS (fwT fs n m) m n m m m = fwT fs n m m m := rndS_ge m (Nat.le_refl _)
        have hf : rndS (fwT fs n m) m n m m m ≠ FAR := by rw [e, hdm]; unfold FAR; omega
        refine ⟨hf, ?_⟩
        show rowAll (rndS (fwT fs n m) m n m) m m n m m < 0
        unfold rowAll
        rw [if_neg hf]
        have := rowS_le (rndS (fwT fs n m) m n m) m m n m m
        rw [e] at this
        omega
      · exact hge
    have hrow : ∀ y, rndS (fwT fs n m) m n x m y = fwT fs n m m y := fun y => rndS_ge x hle
    have e1 : rowS (rndS (fwT fs n m) m n x) m x k m k = fwT fs n m m k := by
      rw [rowS_other _ _ _ _ (by omega), hrow k]
    refine ⟨e1, ?_⟩
    have e2 : rowS (rndS (fwT fs n m) m n x) m x k x m = fwT fs n m x m ∨ rowS (rndS (fwT fs n m) m n x) m x k x m = fwT fs n m x m + fwT fs n m m m := by
      by_cases hmk : m < k
      · have hcol : ∀ j, m < j → rowS (rndS (fwT fs n m) m n x) m x j x m = rowS (rndS (fwT fs n m) m n x) m x (m + 1) x m := by
          intro j
          induction j with
          | zero => intro h0; omega
          | succ j ih =>
            intro hj
            by_cases e : j = m
            · rw [e]
            · show cellS (rowS (rndS (fwT fs n m) m n x) m x j) m x j x m = _
              rw [cellS_other _ (by omega)]
              exact ih (by omega)
        rw [hcol k hmk]
        show cellS (rowS (rndS (fwT fs n m) m n x) m x m) m x m x m = _ ∨ cellS (rowS (rndS (fwT fs n m) m n x) m x m) m x m x m = _
        rw [cellS_at, rowS_other _ _ _ _ (show ¬ (m = x ∧ m < m) by omega), rowS_other _ _ _ _ (show ¬ (x = x ∧ m < m) by omega), hrow m, hxm]
        split
        · exact .inl rfl
        · split
          · exact .inr rfl
          · exact .inl rfl
      · left
        rw [rowS_other _ _ _ _ (by omega), hxm]
    rcases e2 with e2 | e2
    · rw [e2]; exact ⟨hr, by omega, by omega⟩
    · rw [e2]; refine ⟨by unfold FAR; omega, by omega, by omega⟩

end Go.Proofs.Ytejnjaikalckiaa
