import PyProof.Rows.All
import HandS.ForMost
import HandS.AnyAll
import HandS.Evl
import HandS.IsInst
import HandS.TupLe
import HandS.TupSets
import HandS.DictComp
import HandS.SetBool
import HandS.Strs
import HandS.SetFor
import HandS.Conv
import HandS.Wide
import HandS.Style
import KE.GoesEnum
import HandS.JoinGen
import PyProof.SumAny
import HandS.Nested
import PyProof.Rows.SeqGenD
import HandS.EndOwn
import PyProof.SumWalkG
import PySem.Challenge.RW_shiftcore_k56_whole_order_of_periods
set_option Elab.async false
set_option linter.all false
set_option maxRecDepth 100000
set_option maxHeartbeats 2000000
namespace Vf
open PySem PySem.Spec PyProof.Rows L2
open Evl hiding Ex Ex.refl Ex.trans Ex.new Ex.mut ex_rd ex_l ex_t fresh_back

/-! ### heaps that went on: what stood stands; a table of code objects may have grown -/
def Ho (H : Hp) (b : Addr) : HO → Prop
  | .tbl ps => ∃ ps', H b = some (.tbl ps') ∧ (TriplesOk ps.toList → TriplesOk ps'.toList)
  | o => H b = some o
theorem Ho.of {H : Hp} {b : Addr} {o : HO} (h : H b = some o) : Ho H b o := by
  cases o with
  | tbl ps => exact ⟨ps, h, id⟩
  | _ => exact h
theorem Ho.ex {H : Hp} {b : Addr} {o : HO} (h : Ho H b o) : ∃ o', H b = some o' := by
  cases o with
  | tbl ps => obtain ⟨ps', e, _⟩ := h; exact ⟨_, e⟩
  | _ => exact ⟨_, h⟩
def NoTab (o : HO) : Prop := ∀ ps, o ≠ .tbl ps
theorem Ho.eq {H : Hp} {b : Addr} {o : HO} (h : Ho H b o) (n : NoTab o) : H b = some o := by
  cases o with
  | tbl ps => exact (n ps rfl).elim
  | _ => exact h
theorem Ho.away {H : Hp} {b p : Addr} {o u : HO} (h : Ho H b o) (n : b ≠ p) : Ho (upd H p u) b o := by
  cases o with
  | tbl ps => obtain ⟨ps', e, f⟩ := h; exact ⟨ps', by rw [upd_ne n]; exact e, f⟩
  | _ => exact (by rw [upd_ne n]; exact h : upd H p u b = some _)
def Ex (H H' : Hp) : Prop := ∀ b o, H b = some o → Ho H' b o
theorem Ho.trans {H H' : Hp} {b : Addr} {o : HO} (h : Ho H b o) (e : Ex H H') : Ho H' b o := by
  cases o with
  | tbl ps =>
    obtain ⟨ps', h1, f⟩ := h
    obtain ⟨p2, h2, f2⟩ := e b _ h1
    exact ⟨p2, h2, f2 ∘ f⟩
  | _ => exact e b _ h
theorem Ex.refl (H : Hp) : Ex H H := fun _ _ h => .of h
theorem Ex.trans {H H1 H2 : Hp} (a : Ex H H1) (b : Ex H1 H2) : Ex H H2 := fun x o h => (a x o h).trans b
theorem Ex.new {H : Hp} {p : Addr} {o : HO} (h : H p = none) : Ex H (upd H p o) := fun a u e => .of (by
  rw [upd_ne (ne_of_none e h)]
  exact e)
/-- an object that H does not know may change -/
theorem Ex.mut {H H' : Hp} {p : Addr} {o : HO} (e : Ex H H') (h : H p = none) : Ex H (upd H' p o) := fun a u ha => (e a u ha).away (ne_of_none ha h)
theorem ex_rd {H H' : Hp} {a : Addr} {u : HO} (e : Ex H H') (h : Rd H a u) (n : NoTab u) : Rd H' a u := by
  rcases h with h | ⟨o, h⟩
  · exact Or.inl ((e a _ h).eq n)
  · exact Or.inr ⟨o, e a _ h⟩
theorem ex_l {K : PySem.W.Frag} {H H' : Hp} {a : Addr} {xs : List V} (e : Ex H H') (h : SqL K H a xs) : SqL K H' a xs := by
  rcases h with h | h
  · exact Or.inl (ex_rd e h fun _ z => nomatch z)
  · exact Or.inr h
theorem ex_t {K : PySem.W.Frag} {H H' : Hp} {a : Addr} {xs : List V} (e : Ex H H') (h : SqT K H a xs) : SqT K H' a xs := by
  rcases h with h | h
  · exact Or.inl (ex_rd e h fun _ z => nomatch z)
  · exact Or.inr h
/-- fresh ahead of an extension is fresh before -/
theorem fresh_back {H H' : Hp} {p : Addr} (e : Ex H H') (h : H' p = none) : H p = none := by
  cases h1 : H p with
  | none => rfl
  | some o =>
    obtain ⟨o', h2⟩ := (e p o h1).ex
    rw [h] at h2
    cases h2
/-- what it does to a table -/
theorem Ex.tab {H H' : Hp} {P : Addr} (e : Ex H H') (h : GxR.TabG H P) : GxR.TabG H' P := by
  obtain ⟨ps, h1, f⟩ := h
  obtain ⟨p2, h2, f2⟩ := e P _ h1
  exact ⟨p2, h2, f2 f⟩
theorem Ex.tabbed {H H' : Hp} {P : Addr} (h : GxR.TabG H P) (t : GxR.Tabbed P H H') : Ex H H' := fun b o e => by
  by_cases hb : b = P
  · subst hb
    obtain ⟨ps, h1, f⟩ := h
    obtain ⟨⟨p2, h2, f2⟩, _⟩ := t
    rw [e] at h1
    cases h1
    exact ⟨p2, h2, fun _ => f2⟩
  · exact .of (by rw [t.2 b hb]; exact e)

/-! ### data -/
mutual
/-- the value stands for the datum; a list is an object of its own -/
inductive Rp (K : PySem.W.Frag) (H : Hp) : V → PyData → Prop
  | non : Rp K H .non .none
  | bl (b : Bool) : Rp K H (.bl b) (.bool b)
  | int (i : Int) : Rp K H (.int i) (.int i)
  | str (x : Str) : Rp K H (.str x) (.str x)
  | lst {a : Addr} {xs : List V} {ds : List PyData} : H a = some (.lst xs) → RpAll K H xs ds → Rp K H (.ref a) (.list ds)
  | tup {a : Addr} {xs : List V} {ds : List PyData} : SqT K H a xs → RpAll K H xs ds → Rp K H (.ref a) (.tuple ds)
inductive RpAll (K : PySem.W.Frag) (H : Hp) : List V → List PyData → Prop
  | nil : RpAll K H [] []
  | cons {v : V} {vs : List V} {d : PyData} {ds : List PyData} : Rp K H v d → RpAll K H vs ds → RpAll K H (v :: vs) (d :: ds)
end
mutual
theorem Rp.ex {K : PySem.W.Frag} {H H' : Hp} (e : Ex H H') : ∀ {d : PyData} {v : V}, Rp K H v d → Rp K H' v d
  | .none, _, h => by cases h; exact .non
  | .bool b, _, h => by cases h; exact .bl b
  | .int i, _, h => by cases h; exact .int i
  | .str s, _, h => by cases h; exact .str s
  | .list ds, _, h => by
    cases h with
    | lst hs ha => exact .lst (e _ _ hs) (RpAll.ex e ha)
  | .tuple ds, _, h => by
    cases h with
    | tup hs ha => exact .tup (ex_t e hs) (RpAll.ex e ha)
  | .dict _, _, h => by cases h
theorem RpAll.ex {K : PySem.W.Frag} {H H' : Hp} (e : Ex H H') : ∀ {ds : List PyData} {vs : List V}, RpAll K H vs ds → RpAll K H' vs ds
  | [], _, h => by cases h; exact .nil
  | d :: ds, _, h => by
    cases h with
    | cons h1 h2 => exact .cons (Rp.ex e h1) (RpAll.ex e h2)
end
mutual
theorem Rp.dp {K : PySem.W.Frag} {H : Hp} : ∀ {d : PyData} {v : V}, Rp K H v d → Dp K H v d
  | .none, _, h => by cases h; exact .non
  | .bool b, _, h => by cases h; exact .bl b
  | .int i, _, h => by cases h; exact .int i
  | .str s, _, h => by cases h; exact .str s
  | .list ds, _, h => by
    cases h with
    | lst hs ha => exact .lst (SqL.of hs) (RpAll.dp ha)
  | .tuple ds, _, h => by
    cases h with
    | tup hs ha => exact .tup hs (RpAll.dp ha)
  | .dict _, _, h => by cases h
theorem RpAll.dp {K : PySem.W.Frag} {H : Hp} : ∀ {ds : List PyData} {vs : List V}, RpAll K H vs ds → DpAll K H vs ds
  | [], _, h => by cases h; exact .nil
  | d :: ds, _, h => by
    cases h with
    | cons h1 h2 => exact .cons (Rp.dp h1) (RpAll.dp h2)
end
section
variable {K : PySem.W.Frag} {H : Hp}
theorem rpa_len : ∀ {vs : List V} {ds : List PyData}, RpAll K H vs ds → vs.length = ds.length
  | _, _, .nil => rfl
  | _, _, .cons _ h => by rw [List.length_cons, List.length_cons, rpa_len h]
theorem rpa_get : ∀ {vs : List V} {ds : List PyData} {i : Nat} {v : V}, RpAll K H vs ds → vs[i]? = some v → ∃ d, ds[i]? = some d ∧ Rp K H v d
  | _, _, i, v, .nil, e => by simp at e
  | _, _, 0, v, .cons (d := d) h _, e => by simp at e; subst e; exact ⟨d, rfl, h⟩
  | _, _, i + 1, v, .cons _ t, e => by
    obtain ⟨d, h1, h2⟩ := rpa_get (i := i) t (by simpa using e)
    exact ⟨d, by simpa using h1, h2⟩
theorem rpa_get' : ∀ {vs : List V} {ds : List PyData} {i : Nat} {d : PyData}, RpAll K H vs ds → ds[i]? = some d → ∃ v, vs[i]? = some v ∧ Rp K H v d
  | _, _, i, v, .nil, e => by simp at e
  | _, _, 0, _, .cons (v := v) h _, e => by simp at e; subst e; exact ⟨v, rfl, h⟩
  | _, _, i + 1, _, .cons _ t, e => by
    obtain ⟨d, h1, h2⟩ := rpa_get' (i := i) t (by simpa using e)
    exact ⟨d, by simpa using h1, h2⟩
theorem rpa_at {vs : List V} {ds : List PyData} {i : Int} {d : PyData} (h : RpAll K H vs ds) (e : atI ds i = some d) : ∃ v, atI vs i = some v ∧ Rp K H v d := by
  unfold atI at e ⊢
  rw [rpa_len h]
  cases q : ixN ds.length i with
  | none => rw [q] at e; cases e
  | some j =>
    rw [q] at e
    exact rpa_get' h e
theorem rpa_app : ∀ {vs ws : List V} {ds es : List PyData}, RpAll K H vs ds → RpAll K H ws es → RpAll K H (vs ++ ws) (ds ++ es)
  | _, _, _, _, .nil, h => h
  | _, _, _, _, .cons h t, h' => .cons h (rpa_app t h')
theorem rpa_take : ∀ {vs : List V} {ds : List PyData} (n : Nat), RpAll K H vs ds → RpAll K H (vs.take n) (ds.take n)
  | _, _, 0, _ => by simp; exact .nil
  | _, _, _ + 1, .nil => .nil
  | _, _, n + 1, .cons h t => .cons h (rpa_take n t)
theorem rpa_drop : ∀ {vs : List V} {ds : List PyData} (n : Nat), RpAll K H vs ds → RpAll K H (vs.drop n) (ds.drop n)
  | _, _, 0, h => h
  | _, _, _ + 1, .nil => .nil
  | _, _, n + 1, .cons _ t => rpa_drop n t
theorem rpa_set {v : V} {d : PyData} (h : Rp K H v d) : ∀ {vs : List V} {ds : List PyData} (n : Nat), RpAll K H vs ds → RpAll K H (vs.set n v) (ds.set n d)
  | _, _, _, .nil => .nil
  | _, _, 0, .cons _ t => .cons h t
  | _, _, n + 1, .cons g t => .cons g (rpa_set h n t)
theorem rp_int {v : V} {i : Int} (h : Rp K H v (.int i)) : v = .int i := by cases h; rfl
theorem rp_bool {v : V} {i : Bool} (h : Rp K H v (.bool i)) : v = .bl i := by cases h; rfl
theorem rp_str {v : V} {i : Str} (h : Rp K H v (.str i)) : v = .str i := by cases h; rfl
theorem rp_none {v : V} (h : Rp K H v .none) : v = .non := by cases h; rfl
theorem rpa_ints : ∀ {ns : List Int} {vs : List V}, RpAll K H vs (ns.map .int) → vs = ns.map .int
  | [], _, h => by cases h; rfl
  | n :: ns, _, h => by
    cases h with
    | cons h1 h2 => rw [rp_int h1, rpa_ints h2]; rfl
theorem ints_rpa : ∀ (ns : List Int), RpAll K H (ns.map .int) (ns.map .int)
  | [] => .nil
  | n :: ns => .cons (.int n) (ints_rpa ns)
end

/-! ### states: G what stands still, H all -/
structure Adv (G H G' H' : Hp) : Prop where
  g : Ex G G'
  h : Ex H H'
  o : Ex G' H'
  n : ∀ b o, H b = some o → G b = none → G' b = none
/-- all but what stands at rs -/
structure AdvR (rs : List Addr) (G H G' H' : Hp) : Prop where
  g : Ex G G'
  h : ∀ b o, b ∉ rs → H b = some o → Ho H' b o
  o : Ex G' H'
  n : ∀ b o, b ∉ rs → H b = some o → G b = none → G' b = none
section
variable {G H G' H' G1 H1 G2 H2 : Hp} {p r : Addr} {o u : HO} {rs qs : List Addr}
theorem Adv.refl (h : Ex G H) : Adv G H G H := ⟨Ex.refl _, Ex.refl _, h, fun _ _ _ h => h⟩
theorem Adv.trans (a : Adv G H G1 H1) (b : Adv G1 H1 G2 H2) : Adv G H G2 H2 := ⟨a.g.trans b.g, a.h.trans b.h, b.o, fun c o h n => by
  obtain ⟨o', h'⟩ := (a.h c o h).ex
  exact b.n c o' h' (a.n c o h n)⟩
theorem Adv.ok (a : Adv G H G1 H1) : Adv G1 H1 G1 H1 := .refl a.o
theorem Adv.free (a : Adv G H G1 H1) (h : H1 p = none) : H p = none := fresh_back a.h h
/-- a new thing that stands still -/
theorem Adv.new (k : Ex G H) (h : H p = none) : Adv G H (upd G p o) (upd H p o) :=
  ⟨Ex.new (fresh_back k h), Ex.new h, fun b u e => by
    by_cases hb : b = p
    · subst hb; rw [upd_same] at e; exact .of (by rw [upd_same]; exact e)
    · rw [upd_ne hb] at e; exact (k b u e).away hb, fun b u e n => by
    rw [upd_ne (ne_of_none e h)]; exact n⟩
/-- a new thing that may change -/
theorem Adv.lay (k : Ex G H) (h : H p = none) : Adv G H G (upd H p o) :=
  ⟨Ex.refl _, Ex.new h, Ex.mut k (fresh_back k h), fun _ _ _ n => n⟩
/-- a table has grown -/
theorem Adv.tab {P : Addr} (k : Ex G H) (h : GxR.TabG H P) (t : GxR.Tabbed P H H') : Adv G H G H' :=
  ⟨Ex.refl _, Ex.tabbed h t, k.trans (Ex.tabbed h t), fun _ _ _ n => n⟩
/-- a thing of one's own -/
structure Own (G H : Hp) (p : Addr) (o : HO) : Prop where
  h : H p = some o
  g : G p = none
  t : NoTab o
theorem Own.adv (w : Own G H p o) (a : Adv G H G1 H1) : Own G1 H1 p o := ⟨(a.h _ _ w.h).eq w.t, a.n _ _ w.h w.g, w.t⟩
theorem Own.advR (w : Own G H p o) (a : AdvR rs G H G1 H1) (n : p ∉ rs) : Own G1 H1 p o := ⟨(a.h _ _ n w.h).eq w.t, a.n _ _ n w.h w.g, w.t⟩
theorem Own.ne {q : Addr} (w : Own G H p o) (h : G q = some u) : p ≠ q := fun e => by rw [← e, w.g] at h; cases h
/-- it changes -/
theorem Own.chg (k : Ex G H) (w : Own G H p o) : AdvR [p] G H G (upd H p u) :=
  ⟨Ex.refl _, fun b x hb e => .of (by rw [upd_ne (fun z => hb (by rw [z]; exact List.mem_cons_self))]; exact e), Ex.mut k w.g, fun _ _ _ _ n => n⟩
theorem Own.put (w : Own G H p o) (t : NoTab u := by exact fun _ z => nomatch z) : Own G (upd H p u) p u := ⟨upd_same, w.g, t⟩
theorem Own.put_ne {q : Addr} {x : HO} (w : Own G H q x) (n : q ≠ p) : Own G (upd H p u) q x := ⟨by rw [upd_ne n]; exact w.h, w.g, w.t⟩
/-- it stands still from now on -/
theorem Own.fix (k : Ex G H) (w : Own G H p o) : AdvR [p] G H (upd G p o) H :=
  ⟨Ex.new w.g, fun b x _ e => .of e, fun b u e => by
    by_cases hb : b = p
    · subst hb; rw [upd_same] at e; exact .of (by rw [w.h]; exact e)
    · rw [upd_ne hb] at e; exact k b u e, fun b u hb e n => by
    rw [upd_ne (fun z => hb (by rw [z]; exact List.mem_cons_self))]; exact n⟩
theorem Adv.toR (a : Adv G H G1 H1) : AdvR rs G H G1 H1 := ⟨a.g, fun b o _ e => a.h b o e, a.o, fun b o _ => a.n b o⟩
theorem AdvR.trans (a : AdvR rs G H G1 H1) (b : AdvR rs G1 H1 G2 H2) : AdvR rs G H G2 H2 := ⟨a.g.trans b.g, fun c o m h => by
  have := a.h c o m h
  cases o with
  | tbl ps =>
    obtain ⟨p1, e1, f1⟩ := this
    obtain ⟨p2, e2, f2⟩ := b.h c _ m e1
    exact ⟨p2, e2, f2 ∘ f1⟩
  | _ => exact b.h c _ m this, b.o, fun c o m h n => by
  obtain ⟨o', h'⟩ := (a.h c o m h).ex
  exact b.n c o' m h' (a.n c o m h n)⟩
theorem AdvR.wk (a : AdvR rs G H G1 H1) (s : ∀ b ∈ rs, b ∈ qs) : AdvR qs G H G1 H1 := ⟨a.g, fun b o m e => a.h b o (fun z => m (s b z)) e, a.o, fun b o m e n => a.n b o (fun z => m (s b z)) e n⟩
theorem AdvR.out (a : AdvR rs G H G1 H1) (f : ∀ b ∈ rs, H b = none) : Adv G H G1 H1 := ⟨a.g, fun b o e => a.h b o (fun z => by rw [f b z] at e; cases e) e, a.o, fun b o e n => a.n b o (fun z => by rw [f b z] at e; cases e) e n⟩
/-- what was made since may be left out -/
theorem AdvR.drop (a : AdvR (p :: rs) G H G1 H1) (f : H p = none) : AdvR rs G H G1 H1 :=
  ⟨a.g, fun b o m e => a.h b o (fun z => by
    rcases List.mem_cons.mp z with z | z
    · rw [z, f] at e; cases e
    · exact m z) e, a.o, fun b o m e n => a.n b o (fun z => by
    rcases List.mem_cons.mp z with z | z
    · rw [z, f] at e; cases e
    · exact m z) e n⟩
theorem AdvR.free (a : AdvR rs G H G1 H1) (h : H1 p = none) (m : p ∉ rs) : H p = none := by
  cases q : H p with
  | none => rfl
  | some o =>
    obtain ⟨o', e⟩ := (a.h p o m q).ex
    rw [e] at h; cases h
end
/-! ### what an expression gives -/
def Eva (K : PySem.W.Frag) (te : TE) (σ : L2.St) (G H : Hp) (d : PyData) : Prop := ∀ G1 H1, Adv G H G1 H1 → ∀ Q : VK, (∀ v G2 H2, Adv G1 H1 G2 H2 → Rp K G2 v d → Q v H2) → te σ H1 Q
def EvaA (K : PySem.W.Frag) (ta : TA) (σ : L2.St) (G H : Hp) (ds : List PyData) : Prop := ∀ G1 H1, Adv G H G1 H1 → ∀ Q : List V → Hp → Prop, (∀ vs G2 H2, Adv G1 H1 G2 H2 → RpAll K G2 vs ds → Q vs H2) → ta σ H1 Q
def EvaT (tt : TT) (σ : L2.St) (G H : Hp) (b : Bool) : Prop := ∀ G1 H1, Adv G H G1 H1 → ∀ Q : Bool → Hp → Prop, (∀ G2 H2, Adv G1 H1 G2 H2 → Q b H2) → tt σ H1 Q
/-- a thing of one's own | a value as it stands -/
def EvaN (te : TE) (σ : L2.St) (G H : Hp) (P : Hp → HO → Prop) : Prop := ∀ G1 H1, Adv G H G1 H1 → ∀ Q : VK, (∀ p o G2 H2, H1 p = none → Adv G1 H1 G2 H2 → Own G2 H2 p o → P G2 o → Q (.ref p) H2) → te σ H1 Q
def EvaV (te : TE) (σ : L2.St) (G H : Hp) (v : V) : Prop := ∀ G1 H1, Adv G H G1 H1 → ∀ Q : VK, (∀ G2 H2, Adv G1 H1 G2 H2 → Q v H2) → te σ H1 Q
def EvaO (to : TO) (σ : L2.St) (G H : Hp) (o : Option Int) : Prop := ∀ G1 H1, Adv G H G1 H1 → ∀ Q : Option Int → Hp → Prop, (∀ G2 H2, Adv G1 H1 G2 H2 → Q o H2) → to σ H1 Q
section
variable {K : PySem.W.Frag} {σ : L2.St} {G H G' H' : Hp} {ta tb te tx : TE} {t u : TT} {r : R2} {d e d' : PyData} {v : V}
theorem Eva.mono (a : Adv G H G' H') (h : Eva K te σ G H d) : Eva K te σ G' H' d := fun G1 H1 b Q q => h G1 H1 (a.trans b) Q q
theorem EvaT.mono {b : Bool} (a : Adv G H G' H') (h : EvaT t σ G H b) : EvaT t σ G' H' b := fun G1 H1 c Q q => h G1 H1 (a.trans c) Q q
theorem eva_var {i : Nat} (hs : σ[i]? = some (some v)) (h : Rp K G v d) : Eva K (tVar i) σ G H d := fun G1 H1 a Q q => ⟨v, hs, q v G1 H1 a.ok (h.ex a.g)⟩
theorem evv_var {i : Nat} (hs : σ[i]? = some (some v)) : EvaV (tVar i) σ G H v := fun G1 H1 a Q q => ⟨v, hs, q G1 H1 a.ok⟩
theorem eva_int {i : Int} : Eva K (tC (.int i)) σ G H (.int i) := fun G1 H1 a _ q => q _ G1 H1 a.ok (.int i)
theorem eva_bl {b : Bool} : Eva K (tC (.bl b)) σ G H (.bool b) := fun G1 H1 a _ q => q _ G1 H1 a.ok (.bl b)
theorem eva_non : Eva K (tC .non) σ G H .none := fun G1 H1 a _ q => q _ G1 H1 a.ok .non
theorem eva_str {s : Str} : Eva K (tC (.str s)) σ G H (.str s) := fun G1 H1 a _ q => q _ G1 H1 a.ok (.str s)
theorem eva_is (h : Eva K te σ G H d) (e : d = d') : Eva K te σ G H d' := by rw [← e]; exact h
theorem evt_is {b c : Bool} (h : EvaT t σ G H b) (e : b = c) : EvaT t σ G H c := by rw [← e]; exact h
/-- two ints, an int -/
theorem eva_op {g : Int → Int → Int} {i j : Int} (ha : Eva K ta σ G H (.int i)) (hb : Eva K tb σ G H (.int j)) : Eva K (tOp (rI0 fun i j => .int (g i j)) ta tb) σ G H (.int (g i j)) := fun G1 H1 a Q q =>
  ha G1 H1 a _ fun _ G2 H2 a2 e2 => by
    cases rp_int e2
    exact hb G2 H2 (a.trans a2) _ fun _ G3 H3 a3 e3 => by
      cases rp_int e3
      exact ⟨i, j, rfl, rfl, q _ G3 H3 (a2.trans a3) (.int _)⟩
theorem eva_opc {C : Int → Int → Prop} {g : Int → Int → Int} {i j : Int} (ha : Eva K ta σ G H (.int i)) (hb : Eva K tb σ G H (.int j)) (hc : C i j) : Eva K (tOp (rI C fun i j => .int (g i j)) ta tb) σ G H (.int (g i j)) := fun G1 H1 a Q q =>
  ha G1 H1 a _ fun _ G2 H2 a2 e2 => by
    cases rp_int e2
    exact hb G2 H2 (a.trans a2) _ fun _ G3 H3 a3 e3 => by
      cases rp_int e3
      exact ⟨i, j, rfl, rfl, hc, q _ G3 H3 (a2.trans a3) (.int _)⟩
/-- two ints, a truth value -/
theorem eva_cmp {g : Int → Int → Bool} {i j : Int} (ha : Eva K ta σ G H (.int i)) (hb : Eva K tb σ G H (.int j)) : Eva K (tOp (rI0 fun i j => .bl (g i j)) ta tb) σ G H (.bool (g i j)) := fun G1 H1 a Q q =>
  ha G1 H1 a _ fun _ G2 H2 a2 e2 => by
    cases rp_int e2
    exact hb G2 H2 (a.trans a2) _ fun _ G3 H3 a3 e3 => by
      cases rp_int e3
      exact ⟨i, j, rfl, rfl, q _ G3 H3 (a2.trans a3) (.bl _)⟩
theorem evt_test {b : Bool} (h : Eva K te σ G H (.bool b)) : EvaT (tTest te) σ G H b := fun G1 H1 a Q q => h G1 H1 a _ fun v G2 H2 a2 e => by
  cases rp_bool e
  exact ⟨b, rfl, q G2 H2 a2⟩
theorem evt_B {b : Bool} (h : Eva K te σ G H (.bool b)) : EvaT (tB te) σ G H b := fun G1 H1 a Q q => h G1 H1 a _ fun v G2 H2 a2 e => by
  cases rp_bool e
  exact ⟨b, rfl, q G2 H2 a2⟩
end
end Vf

set_option Elab.async false
set_option linter.all false
set_option maxRecDepth 100000
set_option maxHeartbeats 2000000
namespace Vf
open PySem PySem.Spec PyProof.Rows L2
open Evl hiding Ex Ex.refl Ex.trans Ex.new Ex.mut ex_rd ex_l ex_t fresh_back

theorem filter_yes {α : Type} (l : List α) : l.filter (fun _ => true) = l := List.filter_eq_self.mpr fun _ _ => rfl
def isL (K : PySem.W.Frag) (ds : List PyData) (G : Hp) (o : HO) : Prop := ∃ vs, o = .lst vs ∧ RpAll K G vs ds
section
variable {K : PySem.W.Frag} {σ : L2.St} {G H G' H' : Hp} {ta tb te tx tc : TE} {t u : TT} {r : R2} {d e d' : PyData} {v : V} {ds es : List PyData} {tA tr : TA} {a p : Addr}
theorem Adv.fix {G1 H1 G2 H2 : Hp} {o : HO} (hn : H1 p = none) (a : Adv G1 H1 G2 H2) (w : Own G2 H2 p o) : Adv G1 H1 (upd G2 p o) H2 :=
  ((a.toR (rs := [p])).trans (Own.fix a.o w)).out (fun b hb => by rw [List.mem_singleton.mp hb]; exact hn)
theorem evan_eva (h : EvaN te σ G H (isL K ds)) : Eva K te σ G H (.list ds) := fun G1 H1 a Q q => h G1 H1 a Q fun p o G2 H2 hn a2 w hp => by
  obtain ⟨vs, rfl, hr⟩ := hp
  exact q _ (upd G2 p (.lst vs)) H2 (a2.fix hn w) (.lst upd_same (hr.ex (Ex.new w.g)))
theorem evaA_nil : EvaA K tNil σ G H [] := fun G1 H1 a Q q => q [] G1 H1 a.ok .nil
theorem evaA_cons (h : Eva K te σ G H d) (hr : EvaA K tr σ G H ds) : EvaA K (tCons te tr) σ G H (d :: ds) := fun G1 H1 a Q q =>
  h G1 H1 a _ fun v G2 H2 a2 e => hr G2 H2 (a.trans a2) _ fun vs G3 H3 a3 es => q _ G3 H3 (a2.trans a3) (.cons (e.ex a3.g) es)
theorem eva_tup (h : EvaA K tA σ G H ds) (hl : ds.length ≤ 100000 := by first | decide | simp) : Eva K (tTup tA) σ G H (.tuple ds) := fun G1 H1 a Q q =>
  h G1 H1 a _ fun vs G2 H2 a2 e => ⟨sz_of (by rw [rpa_len e]; exact hl), fun p hp => q _ (upd G2 p (.tup vs)) _ (a2.trans (Adv.new a2.o hp)) (.tup (SqT.of upd_same) (e.ex (Ex.new (fresh_back a2.o hp))))⟩
theorem evan_lst (h : EvaA K tA σ G H ds) (hl : ds.length ≤ 100000 := by first | decide | simp) : EvaN (tLst tA) σ G H (isL K ds) := fun G1 H1 a Q q =>
  h G1 H1 a _ fun vs G2 H2 a2 e => ⟨sz_of (by rw [rpa_len e]; exact hl), fun p hp => q p _ G2 _ (a2.free hp) (a2.trans (Adv.lay a2.o hp)) ⟨upd_same, fresh_back a2.o hp, fun _ z => nomatch z⟩ ⟨vs, rfl, e⟩⟩
theorem eva_lst (h : EvaA K tA σ G H ds) (hl : ds.length ≤ 100000 := by first | decide | simp) : Eva K (tLst tA) σ G H (.list ds) := evan_eva (evan_lst h hl)
theorem eva_ixL {i : Int} (ha : Eva K ta σ G H (.list ds)) (hb : Eva K tb σ G H (.int i)) (e : atI ds i = some d) : Eva K (tOp (rIx K) ta tb) σ G H d := fun G1 H1 a Q q =>
  ha G1 H1 a _ fun v G2 H2 a2 h2 => hb G2 H2 (a.trans a2) _ fun w G3 H3 a3 h3 => by
    cases rp_int h3
    cases h2 with
    | lst hs hr =>
      obtain ⟨v, hv, rv⟩ := rpa_at hr e
      exact .inl ⟨_, _, i, v, rfl, rfl, SqL.of (a3.o _ _ (a3.g _ _ hs)), hv, q v G3 H3 (a2.trans a3) (rv.ex a3.g)⟩
theorem eva_ixT {i : Int} (ha : Eva K ta σ G H (.tuple ds)) (hb : Eva K tb σ G H (.int i)) (e : atI ds i = some d) : Eva K (tOp (rIx K) ta tb) σ G H d := fun G1 H1 a Q q =>
  ha G1 H1 a _ fun v G2 H2 a2 h2 => hb G2 H2 (a.trans a2) _ fun w G3 H3 a3 h3 => by
    cases rp_int h3
    cases h2 with
    | tup hs hr =>
      obtain ⟨v, hv, rv⟩ := rpa_at hr e
      exact .inr (.inl ⟨_, _, i, v, rfl, rfl, ex_t (a3.g.trans a3.o) hs, hv, q v G3 H3 (a2.trans a3) (rv.ex a3.g)⟩)
/-- an item of a list of one's own -/
theorem eva_ixO {i : Int} {vs : List V} (ha : EvaV ta σ G H (.ref p)) (hb : Eva K tb σ G H (.int i)) (w : H p = some (.lst vs)) (e : atI vs i = some v) (hv : Rp K G v d) : Eva K (tOp (rIx K) ta tb) σ G H d := fun G1 H1 a Q q =>
  ha G1 H1 a _ fun G2 H2 a2 => hb G2 H2 (a.trans a2) _ fun x G3 H3 a3 h3 => by
    cases rp_int h3
    exact .inl ⟨p, vs, i, v, rfl, rfl, SqL.of (((a.trans a2).trans a3).h _ _ w), e, q v G3 H3 (a2.trans a3) (hv.ex ((a.trans a2).trans a3).g)⟩
theorem eva_len (ha : Eva K ta σ G H d) (hd : d = .list ds ∨ d = .tuple ds) : Eva K (tCB (fun xs H Q => ∃ p ys, xs = [.ref p] ∧ (SqL K H p ys ∨ SqT K H p ys) ∧ Q (.int ys.length) H) (tCons ta tNil)) σ G H (.int ds.length) := fun G1 H1 a Q q =>
  ha G1 H1 a _ fun v G2 H2 a2 h2 => by
    rcases hd with rfl | rfl
    · cases h2 with
      | lst hs hr => exact ⟨_, _, rfl, .inl (SqL.of (a2.o _ _ hs)), q _ G2 H2 a2 (by rw [rpa_len hr]; exact .int _)⟩
    · cases h2 with
      | tup hs hr => exact ⟨_, _, rfl, .inr (ex_t a2.o hs), q _ G2 H2 a2 (by rw [rpa_len hr]; exact .int _)⟩
theorem eva_lenO {vs : List V} (ha : EvaV ta σ G H (.ref p)) (w : H p = some (.lst vs)) : Eva K (tCB (fun xs H Q => ∃ p ys, xs = [.ref p] ∧ (SqL K H p ys ∨ SqT K H p ys) ∧ Q (.int ys.length) H) (tCons ta tNil)) σ G H (.int vs.length) := fun G1 H1 a Q q =>
  ha G1 H1 a _ fun G2 H2 a2 => ⟨p, vs, rfl, .inl (SqL.of ((a.trans a2).h _ _ w)), q _ G2 H2 a2 (.int _)⟩
theorem eva_eq (ha : Eva K ta σ G H d) (hb : Eva K tb σ G H e) (sd : SeqAt.shaped d = true) (se : SeqAt.shaped e = true) : Eva K (tOp (rEqD K) ta tb) σ G H (.bool (PyData.eqv d e)) := fun G1 H1 a Q q =>
  ha G1 H1 a _ fun v G2 H2 a2 h2 => hb G2 H2 (a.trans a2) _ fun w G3 H3 a3 h3 =>
    ⟨d, e, (h2.ex (a3.g.trans a3.o)).dp, (h3.ex a3.o).dp, sd, se, q _ G3 H3 (a2.trans a3) (.bl _)⟩
theorem eva_ne (ha : Eva K ta σ G H d) (hb : Eva K tb σ G H e) (sd : SeqAt.shaped d = true) (se : SeqAt.shaped e = true) : Eva K (tOp (rNeD K) ta tb) σ G H (.bool (!PyData.eqv d e)) := fun G1 H1 a Q q =>
  ha G1 H1 a _ fun v G2 H2 a2 h2 => hb G2 H2 (a.trans a2) _ fun w G3 H3 a3 h3 =>
    ⟨d, e, (h2.ex (a3.g.trans a3.o)).dp, (h3.ex a3.o).dp, sd, se, q _ G3 H3 (a2.trans a3) (.bl _)⟩
theorem shaped_int (i : Int) : SeqAt.shaped (.int i) = true := rfl
theorem shaped_bool (i : Bool) : SeqAt.shaped (.bool i) = true := rfl
theorem eqv_int (i j : Int) : PyData.eqv (.int i) (.int j) = (i == j) := by simp [PyData.eqv]
theorem eqv_bool (i j : Bool) : PyData.eqv (.bool i) (.bool j) = (i == j) := by simp [PyData.eqv]
theorem eva_eqI {i j : Int} (ha : Eva K ta σ G H (.int i)) (hb : Eva K tb σ G H (.int j)) : Eva K (tOp (rEqD K) ta tb) σ G H (.bool (i == j)) := by
  rw [← eqv_int]; exact eva_eq ha hb rfl rfl
theorem eva_neI {i j : Int} (ha : Eva K ta σ G H (.int i)) (hb : Eva K tb σ G H (.int j)) : Eva K (tOp (rNeD K) ta tb) σ G H (.bool (!(i == j))) := by
  rw [← eqv_int]; exact eva_ne ha hb rfl rfl
theorem inV_ints (i : Int) (ns : List Int) : inV (.int i) (ns.map V.int) = ns.contains i := by
  unfold inV
  induction ns with
  | nil => rfl
  | cons n ns ih =>
    rw [List.map_cons, List.any_cons, ih, List.contains_cons]
    show ((n == i) || _) = _
    rw [show (n == i) = (i == n) by rw [Bool.eq_iff_iff, beq_iff_eq, beq_iff_eq]; exact eq_comm]
theorem flat_ints (ns : List Int) : (ns.map V.int).all flatV = true := by
  rw [List.all_eq_true]; intro x hx; obtain ⟨n, _, rfl⟩ := List.mem_map.mp hx; rfl
theorem eva_in {neg : Bool} {i : Int} {ns : List Int} (ha : Eva K ta σ G H (.int i)) (hb : Eva K tb σ G H (.list (ns.map .int))) : Eva K (tOp (rIn K neg) ta tb) σ G H (.bool (if neg then !ns.contains i else ns.contains i)) := fun G1 H1 a Q q =>
  ha G1 H1 a _ fun v G2 H2 a2 h2 => hb G2 H2 (a.trans a2) _ fun w G3 H3 a3 h3 => by
    cases rp_int h2
    cases h3 with
    | lst hs hr =>
      cases rpa_ints hr
      refine ⟨_, _, rfl, .inl (SqL.of (a3.o _ _ hs)), rfl, flat_ints ns, ?_⟩
      rw [inV_ints]
      exact q _ G3 H3 (a2.trans a3) (.bl _)
theorem eva_chain {g g' : Int → Int → Bool} {i j k : Int} (ha : Eva K ta σ G H (.int i)) (hb : Eva K tb σ G H (.int j)) (hc : Eva K tc σ G H (.int k)) :
    Eva K (tChain (rI0 fun i j => .bl (g i j)) (rI0 fun i j => .bl (g' i j)) ta tb tc) σ G H (.bool (g i j && g' j k)) := fun G1 H1 a Q q =>
  ha G1 H1 a _ fun v G2 H2 a2 h2 => hb G2 H2 (a.trans a2) _ fun w G3 H3 a3 h3 => by
    cases rp_int h2
    cases rp_int h3
    refine ⟨i, j, rfl, rfl, g i j, rfl, ?_⟩
    cases hg : g i j with
    | true => exact iteT (hc G3 H3 ((a.trans a2).trans a3) _ fun x G4 H4 a4 h4 => by
        cases rp_int h4
        exact ⟨j, k, rfl, rfl, q _ G4 H4 ((a2.trans a3).trans a4) (by rw [hg]; exact .bl _)⟩)
    | false => exact iteF (q _ G3 H3 (a2.trans a3) (by rw [hg]; exact .bl _))
/-! tests -/
theorem evt_and {b c : Bool} (h1 : EvaT t σ G H b) (h2 : b = true → EvaT u σ G H c) : EvaT (tAnd t u) σ G H (b && c) := fun G1 H1 a Q q => h1 G1 H1 a _ fun G2 H2 a2 => by
  cases b with
  | true => exact iteT (h2 rfl G2 H2 (a.trans a2) Q fun G3 H3 a3 => q G3 H3 (a2.trans a3))
  | false => exact iteF (q G2 H2 a2)
theorem evt_or {b c : Bool} (h1 : EvaT t σ G H b) (h2 : b = false → EvaT u σ G H c) : EvaT (tOr t u) σ G H (b || c) := fun G1 H1 a Q q => h1 G1 H1 a _ fun G2 H2 a2 => by
  cases b with
  | true => exact iteT (q G2 H2 a2)
  | false => exact iteF (h2 rfl G2 H2 (a.trans a2) Q fun G3 H3 a3 => q G3 H3 (a2.trans a3))
theorem evt_not {b : Bool} (h1 : EvaT t σ G H b) : EvaT (tNot t) σ G H (!b) := fun G1 H1 a Q q => h1 G1 H1 a _ fun G2 H2 a2 => q G2 H2 a2
theorem evt_yes : EvaT tYes σ G H true := fun G1 H1 a Q q => q G1 H1 a.ok
theorem eva_and {b c : Bool} (h1 : Eva K ta σ G H (.bool b)) (h2 : b = true → Eva K tb σ G H (.bool c)) : Eva K (tAndV ta tb) σ G H (.bool (b && c)) := fun G1 H1 a Q q => h1 G1 H1 a _ fun v G2 H2 a2 e => by
  cases rp_bool e
  refine ⟨b, rfl, ?_⟩
  cases b with
  | true => exact iteT (h2 rfl G2 H2 (a.trans a2) Q fun v G3 H3 a3 r => q v G3 H3 (a2.trans a3) r)
  | false => exact iteF (q _ G2 H2 a2 (.bl _))
theorem eva_or {b c : Bool} (h1 : Eva K ta σ G H (.bool b)) (h2 : b = false → Eva K tb σ G H (.bool c)) : Eva K (tOrV ta tb) σ G H (.bool (b || c)) := fun G1 H1 a Q q => h1 G1 H1 a _ fun v G2 H2 a2 e => by
  cases rp_bool e
  refine ⟨b, rfl, ?_⟩
  cases b with
  | true => exact iteT (q _ G2 H2 a2 (.bl _))
  | false => exact iteF (h2 rfl G2 H2 (a.trans a2) Q fun v G3 H3 a3 r => q v G3 H3 (a2.trans a3) r)
theorem eva_not {b : Bool} (h1 : Eva K ta σ G H (.bool b)) : Eva K (tNotV ta) σ G H (.bool (!b)) := fun G1 H1 a Q q => h1 G1 H1 a _ fun v G2 H2 a2 e => by
  cases rp_bool e
  exact ⟨b, rfl, q _ G2 H2 a2 (.bl _)⟩
theorem eva_if {b : Bool} (h : EvaT t σ G H b) (h1 : b = true → Eva K ta σ G H d) (h2 : b = false → Eva K tb σ G H d) : Eva K (tIf t ta tb) σ G H d := fun G1 H1 a Q q => h G1 H1 a _ fun G2 H2 a2 => by
  cases b with
  | true => exact iteT (h1 rfl G2 H2 (a.trans a2) Q fun v G3 H3 a3 r => q v G3 H3 (a2.trans a3) r)
  | false => exact iteF (h2 rfl G2 H2 (a.trans a2) Q fun v G3 H3 a3 r => q v G3 H3 (a2.trans a3) r)
/-! built-ins -/
theorem eva_int1 {i : Int} (ha : Eva K ta σ G H (.int i)) : Eva K (tCB (fun xs H Q => (∃ i, xs = [.int i] ∧ Q (.int i) H) ∨ ∃ k, xs = [.bl k] ∧ Q (.int (if k then 1 else 0)) H) (tCons ta tNil)) σ G H (.int i) := fun G1 H1 a Q q =>
  ha G1 H1 a _ fun v G2 H2 a2 h2 => by
    cases rp_int h2
    exact .inl ⟨i, rfl, q _ G2 H2 a2 (.int _)⟩
theorem eva_tupleL (ha : Eva K ta σ G H (.list ds)) : Eva K (tCB (fun xs H Q => ∃ p ys, xs = [.ref p] ∧ ((SqL K H p ys ∧ ∀ l, H l = none → Q (.ref l) (upd H l (.tup ys))) ∨ (SqT K H p ys ∧ Q (.ref p) H))) (tCons ta tNil)) σ G H (.tuple ds) := fun G1 H1 a Q q =>
  ha G1 H1 a _ fun v G2 H2 a2 h2 => by
    cases h2 with
    | lst hs hr => exact ⟨_, _, rfl, .inl ⟨SqL.of (a2.o _ _ hs), fun l hl => q _ (upd G2 l (.tup _)) _ (a2.trans (Adv.new a2.o hl)) (.tup (SqT.of upd_same) (hr.ex (Ex.new (fresh_back a2.o hl))))⟩⟩
theorem evan_list (ha : Eva K ta σ G H d) (hd : d = .list ds ∨ d = .tuple ds) : EvaN (tCB (fun xs H Q => ∃ p ys, xs = [.ref p] ∧ (SqL K H p ys ∨ SqT K H p ys) ∧ ∀ l, H l = none → Q (.ref l) (upd H l (.lst ys))) (tCons ta tNil)) σ G H (isL K ds) := fun G1 H1 a Q q =>
  ha G1 H1 a _ fun v G2 H2 a2 h2 => by
    rcases hd with rfl | rfl
    · cases h2 with
      | lst hs hr => exact ⟨_, _, rfl, .inl (SqL.of (a2.o _ _ hs)), fun l hl => q l _ G2 _ (a2.free hl) (a2.trans (Adv.lay a2.o hl)) ⟨upd_same, fresh_back a2.o hl, fun _ z => nomatch z⟩ ⟨_, rfl, hr⟩⟩
    · cases h2 with
      | tup hs hr => exact ⟨_, _, rfl, .inr (ex_t a2.o hs), fun l hl => q l _ G2 _ (a2.free hl) (a2.trans (Adv.lay a2.o hl)) ⟨upd_same, fresh_back a2.o hl, fun _ z => nomatch z⟩ ⟨_, rfl, hr⟩⟩
theorem evan_cat (ha : Eva K ta σ G H (.list ds)) (hb : Eva K tb σ G H (.list es)) (hz : ds.length + es.length ≤ 100000) : EvaN (tOp rCat ta tb) σ G H (isL K (ds ++ es)) := fun G1 H1 a Q q =>
  ha G1 H1 a _ fun v G2 H2 a2 h2 => hb G2 H2 (a.trans a2) _ fun w G3 H3 a3 h3 => by
    cases h2 with
    | lst hs hr =>
      cases h3 with
      | lst hs' hr' =>
        exact ⟨_, _, _, _, rfl, rfl, a3.o _ _ (a3.g _ _ hs), a3.o _ _ hs', sz_of (by rw [rpa_len hr, rpa_len hr']; exact hz), fun l hl => q l _ G3 _ ((a2.trans a3).free hl) ((a2.trans a3).trans (Adv.lay a3.o hl)) ⟨upd_same, fresh_back a3.o hl, fun _ z => nomatch z⟩ ⟨_, rfl, rpa_app (hr.ex a3.g) hr'⟩⟩
/-! dicts that stand -/
theorem eva_din {k : Int} {kvs : List (Key × V)} (ha : Eva K ta σ G H (.int k)) (hd : EvaV tb σ G H (.ref p)) (w : H p = some (.dK kvs)) : Eva K (tDIn ta tb) σ G H (.bool (valV kvs (.inl k)).isSome) := fun G1 H1 a Q q =>
  ha G1 H1 a _ fun v G2 H2 a2 h2 => hd G2 H2 (a.trans a2) _ fun G3 H3 a3 => by
    cases rp_int h2
    exact ⟨p, _, rfl, DGet.k (k := Sum.inl k) (((a.trans a2).trans a3).h _ _ w), q _ G3 H3 (a2.trans a3) (.bl _)⟩
theorem eva_dget {k : Int} {kvs : List (Key × V)} (hd : EvaV ta σ G H (.ref p)) (ha : Eva K tb σ G H (.int k)) (w : H p = some (.dK kvs)) (hv : valV kvs (.inl k) = some v) (hr : Rp K G v d) : Eva K (tDGet ta tb) σ G H d := fun G1 H1 a Q q =>
  hd G1 H1 a _ fun G2 H2 a2 => ha G2 H2 (a.trans a2) _ fun x G3 H3 a3 h3 => by
    cases rp_int h3
    refine ⟨p, v, rfl, ?_, q v G3 H3 (a2.trans a3) (hr.ex ((a.trans a2).trans a3).g)⟩
    rw [← hv]
    exact DGet.k (k := Sum.inl k) (((a.trans a2).trans a3).h _ _ w)
/-! calls -/
/-- a def that changes nothing: R tells what comes of what -/
def PureSp (K : PySem.W.Frag) (R : List PyData → PyData → Prop) : Sp := fun vs H Q _ => ∃ G ds d, Ex G H ∧ RpAll K G vs ds ∧ R ds d ∧ ∀ v G' H', Adv G H G' H' → Rp K G' v d → Q v H'
theorem eva_call {R : List PyData → PyData → Prop} {E : XK} (h : EvaA K tA σ G H ds) (hr : R ds d) : Eva K (tCall (PureSp K R) [] E tA) σ G H d := fun G1 H1 a Q q =>
  h G1 H1 a _ fun vs G2 H2 a2 e => by
    rw [List.append_nil]
    exact ⟨G2, ds, d, a2.o, e, hr, fun v G3 H3 a3 r => q v G3 H3 (a2.trans a3) r⟩
end
/-! ### statements -/
section
variable {K : PySem.W.Frag} {σ : L2.St} {G H G' H' : Hp} {ta tb te tx tc : TE} {t u : TT} {d e d' : PyData} {v : V} {ds es : List PyData} {tA tr : TA} {a p : Addr} {D : Ends} {tz tu tw : TS} {g : TG}
theorem st_ret (k : Ex G H) (h : Eva K te σ G H d) (c : ∀ v G1 H1, Adv G H G1 H1 → Rp K G1 v d → D.rt v H1) : tRet te D σ H := h G H (.refl k) _ c
theorem st_asg {i : Nat} (k : Ex G H) (h : Eva K te σ G H d) (c : ∀ v G1 H1, Adv G H G1 H1 → Rp K G1 v d → D.nx (σ.set i (some v)) H1) : tAsg te (gName i) D σ H := h G H (.refl k) _ c
theorem st_asgN {i : Nat} {P : Hp → HO → Prop} (k : Ex G H) (h : EvaN te σ G H P) (c : ∀ p o G1 H1, H p = none → Adv G H G1 H1 → Own G1 H1 p o → P G1 o → D.nx (σ.set i (some (.ref p))) H1) : tAsg te (gName i) D σ H := h G H (.refl k) _ c
theorem st_drop (k : Ex G H) (h : Eva K te σ G H d) (c : ∀ G1 H1, Adv G H G1 H1 → D.nx σ H1) : tDrop te D σ H := h G H (.refl k) _ fun _ G1 H1 a _ => c G1 H1 a
theorem st_if {b : Bool} (k : Ex G H) (h : EvaT t σ G H b) (h1 : b = true → ∀ G1 H1, Adv G H G1 H1 → tu D σ H1) (h2 : b = false → ∀ G1 H1, Adv G H G1 H1 → tw D σ H1) : tIfS t tu tw D σ H := h G H (.refl k) _ fun G1 H1 a => by
  cases b with
  | true => exact iteT (h1 rfl G1 H1 a)
  | false => exact iteF (h2 rfl G1 H1 a)
theorem st_unless {b : Bool} (k : Ex G H) (h : EvaT t σ G H b) (hb : b = false) (c : ∀ G1 H1, Adv G H G1 H1 → D.nx σ H1) : tIfS t tu tNext D σ H := st_if k h (fun z => by rw [hb] at z; cases z) fun _ G1 H1 a => c G1 H1 a
/-- xs.append(e), xs one's own -/
theorem st_app {vs : List V} (k : Ex G H) (ha : EvaV ta σ G H (.ref p)) (w : Own G H p (.lst vs)) (h : Eva K te σ G H d) (hz : vs.length < 100000)
    (c : ∀ v G1 H1, Adv G H G1 H1 → Rp K G1 v d → Ex G1 (upd H1 p (.lst (vs ++ [v]))) → D.nx σ (upd H1 p (.lst (vs ++ [v])))) : tDrop (tBM K "list" rAppend ta (tCons te tNil)) D σ H :=
  ha G H (.refl k) _ fun G1 H1 a1 => ⟨.inl ⟨rfl, vs, SqL.of (a1.h _ _ w.h)⟩, h G1 H1 a1 _ fun v G2 H2 a2 r => by
    have w2 := w.adv (a1.trans a2)
    exact ⟨p, vs, v, rfl, rfl, w2.h, sz_lt hz, c v G2 H2 (a1.trans a2) r (Ex.mut a2.o w2.g)⟩⟩
/-- xs[i] = e, xs one's own -/
theorem st_setO {vs : List V} {j : Nat} (k : Ex G H) (h : Eva K te σ G H d) (ha : EvaV ta σ G H (.ref p)) (hi : Eva K tb σ G H (.int j)) (w : Own G H p (.lst vs)) (hj : j < vs.length)
    (c : ∀ v G1 H1, Adv G H G1 H1 → Rp K G1 v d → Ex G1 (upd H1 p (.lst (vs.set j v))) → D.nx σ (upd H1 p (.lst (vs.set j v)))) : tAsg te (gSub ta tb rSetL) D σ H :=
  h G H (.refl k) _ fun v G1 H1 a1 r => ha G1 H1 a1 _ fun G2 H2 a2 => hi G2 H2 (a1.trans a2) _ fun x G3 H3 a3 rx => by
    cases rp_int rx
    have w2 := w.adv ((a1.trans a2).trans a3)
    exact ⟨p, vs, j, j, rfl, rfl, w2.h, ixN_nat hj, c v G3 H3 ((a1.trans a2).trans a3) (r.ex (a2.trans a3).g) (Ex.mut a3.o w2.g)⟩
end
end Vf

set_option Elab.async false
set_option linter.all false
set_option maxRecDepth 100000
set_option maxHeartbeats 2000000
namespace Vf
open PySem PySem.Spec PyProof.Rows L2
open Evl hiding Ex Ex.refl Ex.trans Ex.new Ex.mut ex_rd ex_l ex_t fresh_back

/-! ### what is stored -/
def Bd (g : TG) (σ : L2.St) (v : V) (H : Hp) (P : L2.St → Prop) : Prop := ∀ Q : L2.St → Hp → Prop, (∀ σ2, P σ2 → Q σ2 H) → g v σ H Q
section
variable {K : PySem.W.Frag} {σ : L2.St} {G H : Hp} {v : V} {P : L2.St → Prop} {d1 d2 d3 : PyData} {g1 g2 g3 : TG}
theorem bd_name {i : Nat} (h : P (σ.set i (some v))) : Bd (gName i) σ v H P := fun Q q => q _ h
theorem bd_tup2 {i j : Nat} (k : Ex G H) (r : Rp K G v (.tuple [d1, d2])) (h : ∀ v1 v2, Rp K G v1 d1 → Rp K G v2 d2 → P ((σ.set i (some v1)).set j (some v2))) :
    Bd (gTup K 2 (gCons (gName i) (gCons (gName j) gNil))) σ v H P := fun Q q => by
  cases r with
  | tup hs ha =>
    cases ha with
    | cons r1 ha => cases ha with
      | cons r2 ha =>
        cases ha
        exact ⟨_, _, rfl, ex_t k hs, rfl, _, _, rfl, _, _, rfl, rfl, q _ (h _ _ r1 r2)⟩
theorem bd_tup3 {i j l : Nat} (k : Ex G H) (r : Rp K G v (.tuple [d1, d2, d3])) (h : ∀ v1 v2 v3, Rp K G v1 d1 → Rp K G v2 d2 → Rp K G v3 d3 → P (((σ.set i (some v1)).set j (some v2)).set l (some v3))) :
    Bd (gTup K 3 (gCons (gName i) (gCons (gName j) (gCons (gName l) gNil)))) σ v H P := fun Q q => by
  cases r with
  | tup hs ha =>
    cases ha with
    | cons r1 ha => cases ha with
      | cons r2 ha => cases ha with
        | cons r3 ha =>
          cases ha
          exact ⟨_, _, rfl, ex_t k hs, rfl, _, _, rfl, _, _, rfl, _, _, rfl, rfl, q _ (h _ _ _ r1 r2 r3)⟩
/-- a, b = e -/
theorem st_asg2 {te : TE} {D : Ends} {i j : Nat} (k : Ex G H) (h : Eva K te σ G H (.tuple [d1, d2])) (c : ∀ v1 v2 G1 H1, Adv G H G1 H1 → Rp K G1 v1 d1 → Rp K G1 v2 d2 → D.nx ((σ.set i (some v1)).set j (some v2)) H1) :
    tAsg te (gTup K 2 (gCons (gName i) (gCons (gName j) gNil))) D σ H := h G H (.refl k) _ fun v G1 H1 a r =>
  bd_tup2 (P := fun σ2 => D.nx σ2 H1) a.o r (fun v1 v2 r1 r2 => c v1 v2 G1 H1 a r1 r2) D.nx fun σ2 q => q
theorem st_asg3 {te : TE} {D : Ends} {i j l : Nat} (k : Ex G H) (h : Eva K te σ G H (.tuple [d1, d2, d3])) (c : ∀ v1 v2 v3 G1 H1, Adv G H G1 H1 → Rp K G1 v1 d1 → Rp K G1 v2 d2 → Rp K G1 v3 d3 → D.nx (((σ.set i (some v1)).set j (some v2)).set l (some v3)) H1) :
    tAsg te (gTup K 3 (gCons (gName i) (gCons (gName j) (gCons (gName l) gNil)))) D σ H := h G H (.refl k) _ fun v G1 H1 a r =>
  bd_tup3 (P := fun σ2 => D.nx σ2 H1) a.o r (fun v1 v2 v3 r1 r2 r3 => c v1 v2 v3 G1 H1 a r1 r2 r3) D.nx fun σ2 q => q
end

/-! ### what is walked -/
/-- the walk J gives ds, made at B -/
def Walks (K : PySem.W.Frag) (J : It) (ds : List PyData) (B : Hp) : Prop := ∀ i G H, Ex B G → Ex G H →
  (i < ds.length → J.go i H) ∧ (ds.length ≤ i → J.stop i H) ∧ ∀ x H', J.yld i H x H' → i < ds.length → ∃ d G', ds[i]? = some d ∧ Adv G H G' H' ∧ Rp K G' x d
def Src (K : PySem.W.Frag) (wi : TI) (σ : L2.St) (G H : Hp) (ds : List PyData) : Prop := ∀ G1 H1, Adv G H G1 H1 → ∀ R : It → Hp → Prop, (∀ J G2 H2, Adv G1 H1 G2 H2 → Walks K J ds G2 → R J H2) → wi σ H1 R
section
variable {K : PySem.W.Frag} {σ : L2.St} {G H G' H' : Hp} {te tl : TE} {ds es : List PyData} {ta : TA}
theorem src_list (h : Eva K tl σ G H (.list ds)) : Src K (iList K tl) σ G H ds := fun G1 H1 a R q => h G1 H1 a _ fun v G2 H2 a2 r => by
  cases r with
  | @lst p xs _ hs hr =>
    refine ⟨_, rfl, ⟨_, SqL.of (a2.o _ _ hs)⟩, q _ G2 H2 a2 fun i G3 H3 e3 k3 => ?_⟩
    have hp : SqL K H3 p xs := SqL.of (k3 _ _ (e3 _ _ hs))
    have hl := rpa_len hr
    refine ⟨fun hi => ⟨xs, xs[i]'(by omega), hp, List.getElem?_eq_getElem _⟩, fun hi => ⟨xs, hp, by omega⟩, fun x H' y hi => ?_⟩
    obtain ⟨rfl, y⟩ := y
    obtain ⟨d, hd, rd⟩ := rpa_get hr (y xs hp)
    exact ⟨d, G3, hd, .refl k3, rd.ex e3⟩
theorem src_tup (h : Eva K tl σ G H (.tuple ds)) : Src K (iTup K tl) σ G H ds := fun G1 H1 a R q => h G1 H1 a _ fun v G2 H2 a2 r => by
  cases r with
  | @tup p xs _ hs hr =>
    refine ⟨_, rfl, ⟨_, ex_t a2.o hs⟩, q _ G2 H2 a2 fun i G3 H3 e3 k3 => ?_⟩
    have hp : SqT K H3 p xs := ex_t (e3.trans k3) hs
    have hl := rpa_len hr
    refine ⟨fun hi => ⟨xs, xs[i]'(by omega), hp, List.getElem?_eq_getElem _⟩, fun hi => ⟨xs, hp, by omega⟩, fun x H' y hi => ?_⟩
    obtain ⟨rfl, y⟩ := y
    obtain ⟨d, hd, rd⟩ := rpa_get hr (y xs hp)
    exact ⟨d, G3, hd, .refl k3, rd.ex e3⟩
/-- lo, lo + 1, .. -/
def rngD (lo : Int) (n : Nat) : List PyData := (List.range n).map fun i => .int (lo + (i : Nat))
theorem rngD_len (lo : Int) (n : Nat) : (rngD lo n).length = n := by unfold rngD; rw [List.length_map, List.length_range]
theorem rngD_get {lo : Int} {n i : Nat} (h : i < n) : (rngD lo n)[i]? = some (.int (lo + (i : Nat))) := by
  unfold rngD; rw [List.getElem?_map, List.getElem?_range h]; rfl
theorem walks_rng (lo : Int) (n : Nat) (B : Hp) : Walks K (Itr lo n) (rngD lo n) B := fun i G H _ k => by
  rw [rngD_len]
  refine ⟨id, id, fun x H' y hi => ?_⟩
  obtain ⟨rfl, rfl⟩ := y
  exact ⟨_, G, rngD_get hi, .refl k, .int _⟩
theorem src_rng1 {n : Int} (h : Eva K te σ G H (.int n)) (b : n ≤ 1000000 := by omega) (b' : -1000000 ≤ n := by omega) : Src K (iRng1 (tCons te tNil)) σ G H (rngD 0 n.toNat) := fun G1 H1 a R q => h G1 H1 a _ fun v G2 H2 a2 r => by
  cases rp_int r
  exact ⟨n, rfl, by omega, by omega, q _ G2 H2 a2 (walks_rng _ _ _)⟩
theorem src_rng2 {m n : Int} (h1 : Eva K te σ G H (.int m)) (h : Eva K tl σ G H (.int n)) (b1 : m ≤ 1000000 := by omega) (b2 : -1000000 ≤ m := by omega) (b3 : n ≤ 1000000 := by omega) (b4 : -1000000 ≤ n := by omega) :
    Src K (iRng2 (tCons te (tCons tl tNil))) σ G H (rngD m (n - m).toNat) := fun G1 H1 a R q => h1 G1 H1 a _ fun v G2 H2 a2 r => h G2 H2 (a.trans a2) _ fun v' G3 H3 a3 r' => by
  cases rp_int r
  cases rp_int r'
  exact ⟨m, n, rfl, ⟨by omega, by omega, by omega, by omega⟩, q _ G3 H3 (a2.trans a3) (walks_rng _ _ _)⟩
/-- (0, x), (1, y), .. -/
def enumD (ds : List PyData) : List PyData := (List.range ds.length).map fun i => .tuple [.int (i : Nat), ds.getD i .none]
theorem enumD_len (ds : List PyData) : (enumD ds).length = ds.length := by unfold enumD; rw [List.length_map, List.length_range]
theorem enumD_get {ds : List PyData} {i : Nat} {d : PyData} (h : ds[i]? = some d) : (enumD ds)[i]? = some (.tuple [.int (i : Nat), d]) := by
  have hi := (List.getElem?_eq_some_iff.mp h).1
  unfold enumD; rw [List.getElem?_map, List.getElem?_range hi]
  show some (PyData.tuple [.int (i : Nat), ds.getD i .none]) = _
  rw [List.getD_eq_getElem?_getD, h]; rfl
theorem src_enum (h : Eva K te σ G H (.list ds)) : Src K (iEnum K (tCons te tNil)) σ G H (enumD ds) := fun G1 H1 a R q => h G1 H1 a _ fun v G2 H2 a2 r => by
  cases r with
  | @lst p xs _ hs hr =>
    refine ⟨_, _, rfl, SqL.of (a2.o _ _ hs), q _ G2 H2 a2 fun i G3 H3 e3 k3 => ?_⟩
    have hp : SqL K H3 p xs := SqL.of (k3 _ _ (e3 _ _ hs))
    have hl := rpa_len hr
    rw [enumD_len]
    refine ⟨fun hi => ⟨xs, xs[i]'(by omega), hp, List.getElem?_eq_getElem _⟩, fun hi => ⟨xs, hp, by omega⟩, fun x H' y hi => ?_⟩
    obtain ⟨T, x, rfl, nT, rfl, y⟩ := y
    obtain ⟨d, hd, rd⟩ := rpa_get hr (y xs hp)
    exact ⟨_, upd G3 T _, enumD_get hd, .new k3 nT, .tup (SqT.of upd_same) (.cons (.int _) (.cons (rd.ex (e3.trans (Ex.new (fresh_back k3 nT)))) .nil))⟩
def zipD (ds es : List PyData) : List PyData := List.zipWith (fun d e => .tuple [d, e]) ds es
theorem src_zip (h1 : Eva K te σ G H (.list ds)) (h2 : Eva K tl σ G H (.list es)) : Src K (iZip K (tCons te (tCons tl tNil))) σ G H (zipD ds es) := fun G1 H1 a R q => h1 G1 H1 a _ fun v G2 H2 a2 r => h2 G2 H2 (a.trans a2) _ fun v' G3 H3 a3 r' => by
  cases r with
  | @lst p xs _ hs hr =>
    cases r' with
    | @lst p' xs' _ hs' hr' =>
      have hs := a3.g _ _ hs
      have hr := hr.ex a3.g
      refine ⟨_, _, _, _, rfl, SqL.of (a3.o _ _ hs), SqL.of (a3.o _ _ hs'), q _ G3 H3 (a2.trans a3) fun i G4 H4 e4 k4 => ?_⟩
      have hp : SqL K H4 p xs := SqL.of (k4 _ _ (e4 _ _ hs))
      have hp' : SqL K H4 p' xs' := SqL.of (k4 _ _ (e4 _ _ hs'))
      have hl := rpa_len hr
      have hl' := rpa_len hr'
      have hz : (zipD ds es).length = min ds.length es.length := by unfold zipD; rw [List.length_zipWith]
      rw [hz]
      refine ⟨fun hi => ⟨xs, xs', xs[i]'(by omega), xs'[i]'(by omega), hp, hp', List.getElem?_eq_getElem _, List.getElem?_eq_getElem _⟩, fun hi => ⟨xs, xs', hp, hp', by omega⟩, fun x H' y hi => ?_⟩
      obtain ⟨T, x, x', rfl, nT, rfl, y, y'⟩ := y
      obtain ⟨d, hd, rd⟩ := rpa_get hr (y xs hp)
      obtain ⟨d', hd', rd'⟩ := rpa_get hr' (y' xs' hp')
      have ex := e4.trans (Ex.new (o := .tup [x, x']) (fresh_back k4 nT))
      refine ⟨.tuple [d, d'], upd G4 T _, ?_, .new k4 nT, .tup (SqT.of upd_same) (.cons (rd.ex ex) (.cons (rd'.ex ex) .nil))⟩
      unfold zipD
      rw [List.getElem?_zipWith, hd, hd']
end
section
variable {K : PySem.W.Frag} {σ : L2.St} {G H G' H' : Hp} {te tk tv tl : TE} {tt : TT} {wi : TI} {g : TG} {tb : TS} {vs : List Nat} {D : Ends}
theorem lt_of_some {α : Type} {l : List α} {i : Nat} {x : α} (h : l[i]? = some x) : i < l.length := (List.getElem?_eq_some_iff.mp h).1
theorem take_some {α : Type} {l : List α} {i : Nat} {x : α} (h : l[i]? = some x) : l.take (i + 1) = l.take i ++ [x] := by
  rw [List.take_add_one, h]; rfl
/-- [f x for x in xs if p x] -/
theorem evan_lc {α : Type} (xs : List α) (enc : α → PyData) (p : α → Bool) (f : α → PyData) (S : Src K wi σ G H (xs.map enc)) (hz : xs.length ≤ 40000)
    (hb : ∀ (i : Nat) x v G' H', xs[i]? = some x → Adv G H G' H' → Rp K G' v (enc x) → Bd g (wipe σ vs) v H' fun σ2 => wipe σ2 vs = wipe σ vs ∧ EvaT tt σ2 G' H' (p x) ∧ (p x = true → Eva K te σ2 G' H' (f x))) :
    EvaN (tLc wi g tt te vs) σ G H (isL K ((xs.filter p).map f)) := fun G1 H1 a Q q => S G1 H1 a _ fun J G2 H2 a2 wk D hD => by
  refine ⟨fun i m H' => m = xs.length - i ∧ i ≤ xs.length ∧ ∃ G' acc, Adv G2 H2 G' H' ∧ Own G' H' D (.lst acc) ∧ RpAll K G' acc (((xs.take i).filter p).map f),
    ⟨xs.length, rfl, Nat.zero_le _, G2, [], .lay a2.o hD, ⟨upd_same, fresh_back a2.o hD, fun _ z => nomatch z⟩, .nil⟩, ?_⟩
  rintro i m H' ⟨rfl, hi, G', acc, a3, ow, ra⟩
  obtain ⟨w1, w2, w3⟩ := wk i G' H' a3.g a3.o
  rw [List.length_map] at w1 w2 w3
  by_cases hlt : i < xs.length
  · refine .inr ⟨w1 hlt, fun H' => ∃ G' acc, Adv G2 H2 G' H' ∧ Own G' H' D (.lst acc) ∧ RpAll K G' acc (((xs.take (i + 1)).filter p).map f), fun H'' hN => ⟨xs.length - (i + 1), by omega, rfl, hlt, hN⟩, fun x H'' y => ?_⟩
    obtain ⟨d, G'', hd, a4, rx⟩ := w3 x H'' y hlt
    rw [List.getElem?_map, List.getElem?_eq_getElem hlt] at hd
    cases hd
    have hxi : xs[i]? = some xs[i] := List.getElem?_eq_getElem hlt
    refine hb i xs[i] x G'' H'' hxi ((a.trans a2).trans (a3.trans a4)) rx _ fun σ2 hσ => ?_
    obtain ⟨hw, ht, he⟩ := hσ
    have ow := ow.adv a4
    refine ⟨hw, ht G'' H'' a4.ok _ fun G5 H5 a5 => ?_⟩
    cases hp : p xs[i] with
    | false =>
      refine iteF ⟨G5, acc, (a3.trans a4).trans a5, ow.adv a5, ?_⟩
      rw [take_some hxi, List.filter_append, List.filter_cons, if_neg (by rw [hp]; exact Bool.false_ne_true)]
      simpa using ra.ex (a4.g.trans a5.g)
    | true =>
      refine iteT (he hp G5 H5 a5 _ fun v G6 H6 a6 rv => ?_)
      have ow := (ow.adv a5).adv a6
      have hl := rpa_len ra
      have h1 : (((xs.take i).filter p).map f).length ≤ xs.length := by
        rw [List.length_map]
        exact Nat.le_trans (List.length_filter_le _ _) (by rw [List.length_take]; omega)
      refine ⟨acc, ow.h, sz_lt (by omega), G6, acc ++ [v], (((((a3.trans a4).trans a5).trans a6).toR (rs := [D])).trans (ow.chg a6.o)).out (fun b hb => by rw [List.mem_singleton.mp hb]; exact hD), ow.put, ?_⟩
      rw [take_some hxi, List.filter_append, List.filter_cons, if_pos hp, List.map_append]
      exact rpa_app (ra.ex ((a4.g.trans a5.g).trans a6.g)) (.cons rv .nil)
  · have e : i = xs.length := by omega
    subst e
    refine .inl ⟨w2 (Nat.le_refl _), q D _ G' H' (a2.free hD) (a2.trans a3) ow ⟨acc, rfl, ?_⟩⟩
    rw [List.take_length] at ra
    exact ra
/-- what a dict tells of ints -/
def isD (K : PySem.W.Frag) (m : Int → Option PyData) (G : Hp) (o : HO) : Prop := ∃ kvs : List (Key × V), o = .dK kvs ∧ ∀ k, match m k with
  | none => valV kvs (.inl k) = none
  | some d => ∃ v, valV kvs (.inl k) = some v ∧ Rp K G v d
def dictOf {α : Type} (k : α → Int) (f : α → PyData) : List α → Int → Option PyData
  | [], _ => none
  | x :: xs, j => match dictOf k f xs j with
    | some d => some d
    | none => if j = k x then some (f x) else none
theorem dictOf_app {α : Type} (k : α → Int) (f : α → PyData) (x : α) (j : Int) : ∀ xs : List α, dictOf k f (xs ++ [x]) j = if j = k x then some (f x) else dictOf k f xs j
  | [] => by simp only [List.nil_append, dictOf]
  | y :: ys => by
    rw [List.cons_append]
    simp only [dictOf]
    rw [dictOf_app k f x j ys]
    by_cases h : j = k x
    · rw [if_pos h]; simp [h]
    · rw [if_neg h, if_neg h]
/-- {k x: f x for x in xs} -/
theorem evan_dc {α : Type} (xs : List α) (enc : α → PyData) (key : α → Int) (f : α → PyData) (S : Src K wi σ G H (xs.map enc)) (hz : xs.length ≤ 40000)
    (hb : ∀ (i : Nat) x v G' H', xs[i]? = some x → Adv G H G' H' → Rp K G' v (enc x) → Bd g (wipe σ vs) v H' fun σ2 => wipe σ2 vs = wipe σ vs ∧ Eva K tk σ2 G' H' (.int (key x)) ∧ Eva K tv σ2 G' H' (f x)) :
    EvaN (tDc wi g tYes tk tv vs) σ G H (isD K (dictOf key f xs)) := fun G1 H1 a Q q => S G1 H1 a _ fun J G2 H2 a2 wk D hD => by
  refine ⟨fun i m H' => m = xs.length - i ∧ i ≤ xs.length ∧ ∃ G' kvs, Adv G2 H2 G' H' ∧ Own G' H' D (.dK kvs) ∧ kvs.length ≤ i ∧ isD K (dictOf key f (xs.take i)) G' (.dK kvs),
    ⟨xs.length, rfl, Nat.zero_le _, G2, [], .lay a2.o hD, ⟨upd_same, fresh_back a2.o hD, fun _ z => nomatch z⟩, Nat.le_refl _, [], rfl, fun k => rfl⟩, ?_⟩
  rintro i m H' ⟨rfl, hi, G', kvs, a3, ow, hlen, ra⟩
  obtain ⟨w1, w2, w3⟩ := wk i G' H' a3.g a3.o
  rw [List.length_map] at w1 w2 w3
  by_cases hlt : i < xs.length
  · refine .inr ⟨w1 hlt, fun H' => ∃ G' kvs, Adv G2 H2 G' H' ∧ Own G' H' D (.dK kvs) ∧ kvs.length ≤ i + 1 ∧ isD K (dictOf key f (xs.take (i + 1))) G' (.dK kvs), fun H'' hN => ⟨xs.length - (i + 1), by omega, rfl, hlt, hN⟩, fun x H'' y => ?_⟩
    obtain ⟨d, G'', hd, a4, rx⟩ := w3 x H'' y hlt
    rw [List.getElem?_map, List.getElem?_eq_getElem hlt] at hd
    cases hd
    have hxi : xs[i]? = some xs[i] := List.getElem?_eq_getElem hlt
    refine hb i xs[i] x G'' H'' hxi ((a.trans a2).trans (a3.trans a4)) rx _ fun σ2 hσ => ?_
    obtain ⟨hw, hk, hv⟩ := hσ
    have ow := ow.adv a4
    refine ⟨hw, ?_⟩
    dsimp only [tYes]
    rw [if_pos rfl]
    refine hk G'' H'' a4.ok _ fun kv G5 H5 a5 rk => hv G5 H5 a5 _ fun vv G6 H6 a6 rv => ?_
    cases rp_int rk
    have ow := (ow.adv a5).adv a6
    have hl1 := length_putK kvs (Sum.inl (key xs[i]) : Key) vv
    refine ⟨kvs, .inl (key xs[i]), rfl, ow.h, sz_lt (by omega), G6, _, (((((a3.trans a4).trans a5).trans a6).toR (rs := [D])).trans (ow.chg a6.o)).out (fun b hb => by rw [List.mem_singleton.mp hb]; exact hD), ow.put, by omega, _, rfl, fun j => ?_⟩
    rw [take_some hxi, dictOf_app]
    rw [valV_put]
    by_cases hj : j = key xs[i]
    · rw [if_pos hj, if_pos (by rw [hj])]
      exact ⟨vv, rfl, rv⟩
    · rw [if_neg hj, if_neg (fun z => hj (Sum.inl.inj z))]
      obtain ⟨kvs', e, h⟩ := ra
      cases e
      have h := h j
      cases hd : dictOf key f (xs.take i) j with
      | none => rw [hd] at h; exact h
      | some d => rw [hd] at h; obtain ⟨v, h1, h2⟩ := h; exact ⟨v, h1, h2.ex ((a4.g.trans a5.g).trans a6.g)⟩
  · have e : i = xs.length := by omega
    subst e
    rw [List.take_length] at ra
    exact .inl ⟨w2 (Nat.le_refl _), q D _ G' H' (a2.free hD) (a2.trans a3) ow ra⟩
/-- for x in xs: Pv tells of the turn, the slots and the heaps; B: what stood still when the walk began -/
theorem st_for {α : Type} (xs : List α) (enc : α → PyData) (Pv : Hp → Nat → L2.St → Hp → Hp → Prop) (k : Ex G H) (S : Src K wi σ G H (xs.map enc)) (h0 : ∀ G1 H1, Adv G H G1 H1 → Pv G1 0 σ G1 H1)
    (hx : ∀ B i σ' G' H', Pv B i σ' G' H' → Ex B G' ∧ Ex G' H')
    (hs : ∀ B (i : Nat) x v σ' G' H' G'' H'', xs[i]? = some x → Pv B i σ' G' H' → Adv G' H' G'' H'' → Rp K G'' v (enc x) → Bd g σ' v H'' fun σ2 => tb { D with nx := fun σ H => ∃ G, Pv B (i + 1) σ G H, ct := fun σ H => ∃ G, Pv B (i + 1) σ G H, bk := D.nx } σ2 H'')
    (hd : ∀ B σ' G' H', Pv B xs.length σ' G' H' → D.nx σ' H') : tFor wi g tb D σ H := S G H (.refl k) _ fun J G2 H2 a2 wk => by
  refine ⟨fun i m σ' H' => m = xs.length - i ∧ i ≤ xs.length ∧ ∃ G', Pv G2 i σ' G' H', ⟨xs.length, rfl, Nat.zero_le _, G2, h0 G2 H2 a2⟩, ?_⟩
  rintro i m σ' H' ⟨rfl, hi, G', p⟩
  obtain ⟨e1, e2⟩ := hx _ _ _ _ _ p
  obtain ⟨w1, w2, w3⟩ := wk i G' H' e1 e2
  rw [List.length_map] at w1 w2 w3
  by_cases hlt : i < xs.length
  · refine .inr ⟨w1 hlt, fun σ H => ∃ G, Pv G2 (i + 1) σ G H, fun σ'' H'' hN => ⟨xs.length - (i + 1), by omega, rfl, hlt, hN⟩, fun x H'' y => ?_⟩
    obtain ⟨d, G'', hd, a4, rx⟩ := w3 x H'' y hlt
    rw [List.getElem?_map, List.getElem?_eq_getElem hlt] at hd
    cases hd
    exact hs G2 i xs[i] x σ' G' H' G'' H'' (List.getElem?_eq_getElem hlt) p a4 rx _ fun σ2 q => q
  · have e : i = xs.length := by omega
    subst e
    exact .inl ⟨w2 (Nat.le_refl _), hd _ _ _ _ p⟩
/-- while: W falls -/
theorem st_while {c : TT} (W : Nat → L2.St → Hp → Hp → Prop) (m0 : Nat) (h0 : W m0 σ G H)
    (hs : ∀ m σ' G' H', W m σ' G' H' → Ex G' H' ∧ ∃ b, EvaT c σ' G' H' b ∧
      (b = true → ∀ G1 H1, Adv G' H' G1 H1 → tb { D with nx := fun σ H => ∃ m' G, m' < m ∧ W m' σ G H, ct := fun σ H => ∃ m' G, m' < m ∧ W m' σ G H, bk := D.nx } σ' H1) ∧ (b = false → ∀ G1 H1, Adv G' H' G1 H1 → D.nx σ' H1)) : tWhile c tb D σ H :=
  ⟨fun m σ H => ∃ G, W m σ G H, ⟨m0, G, h0⟩, fun m σ' H' hw => by
    obtain ⟨G', hw⟩ := hw
    obtain ⟨k, b, ht, h1, h2⟩ := hs m σ' G' H' hw
    refine ht G' H' (.refl k) _ fun G1 H1 a => ?_
    cases b with
    | true => exact iteT ⟨_, fun σ' H' ⟨m', G, hm, hw⟩ => ⟨m', hm, G, hw⟩, h1 rfl G1 H1 a⟩
    | false => exact iteF (h2 rfl G1 H1 a)⟩
end
end Vf

set_option Elab.async false
set_option linter.all false
set_option maxRecDepth 100000
set_option maxHeartbeats 2000000
namespace Vf
open PySem PySem.Spec PyProof.Rows L2
open Evl hiding Ex Ex.refl Ex.trans Ex.new Ex.mut ex_rd ex_l ex_t fresh_back

/-! ### enumerate(tuple) -/
theorem wpAny_pyNext_enum_endT {prog : Program} {w : World} {A : Around} {E : Value → Shared → Prop} {s : Shared} {e it l : Addr} {i : Nat} {items : Array Value} {old : Value} {Q : Option Value → Shared → Prop} (hh : A.handled = none)
    (he : IsEnum s.heap e it i old) (hit : s.heap.IsTupleIter it l i) (hl : s.heap.IsTuple l items) (hx : items[i]? = none)
    (hQ : ∀ h', Heap.ExtBut it s.heap h' → Q none { s with heap := h' }) : wpAny (model prog w) A (pyNext (.ref e)) Q E s := by
  have hT : s.TypeIs (.ref e) "enumerate" := ⟨_, he, rfl⟩
  unfold pyNext
  refine wpAny_bind (wpAny_attempt (wpAny_callSpecial?_slot (name := Str.ofString "__next__") hT F.slot_enumerate_next
    (wpAny_call_entry F.slot_enumerate_next hT F.entry_enumerate_next ?_ (F.args_enumerate_next_1 _))))
  show wpAny _ _ (field (.ref e) 2 >>= _) _ _ _
  refine wpAny_bind (wpAny_field he rfl (x := .ref it) rfl ?_)
  refine wpAny_bind (wpAny_nextOf_tuple_end hh hit hl hx fun h' x he' hx' => ?_)
  obtain ⟨o, ho, hc⟩ := hx'
  refine wpAny_bind (wpAny_isInstance (T := "StopIteration") (b := true) ⟨o, ho, hc⟩ isSubtype_stop ?_)
  exact wpAny_pure (hQ _ he')
theorem meets_enumerate_newT {v : Value} {o : Obj} {H : Heap → Prop} (B : Begins v o H) :
    Meets (Builtin.«enumerate.__new__» ⟨[.type "enumerate", v], []⟩) (fun _ R s => H s.heap ∧
      R (.ok (.ret (.ref (s.heap.push o).objs.size))) { s with heap := (s.heap.push o).push { cls := .type "enumerate", data := .fields #[.none, .bool false, .ref s.heap.objs.size, rawInt 0, .none, .none] } }) :=
  .of_wp fun prog w A R s h => by
    obtain ⟨hp, g, d, tk, os⟩ := s; obtain ⟨h1, h⟩ := h
    have hsub := sub_enumerate
    have q1 : ∀ {A' : Around} {E : Value → Shared → Prop} {Q : Value → Shared → Prop}, Q (.ref hp.objs.size) ⟨hp.push o, g, d, tk, os⟩ → wpAny (model prog w) A' (pyIter v) Q E ⟨hp, g, d, tk, os⟩ :=
      fun q => B.iter prog w _ _ ⟨hp, g, d, tk, os⟩ _ h1 q
    wp_walk using q1
    refine wpAny_stack_any fun st => wpAny_pure ?_
    split
    · rename_i c _ _ _ _ _
      cases (c == Value.type "enumerate")
      · wp_walk using q1
        exact ⟨_, rfl, h⟩
      · wp_walk using q1
        exact ⟨_, rfl, h⟩
    · wp_walk using q1
      exact ⟨_, rfl, h⟩
section
variable {prog : Program} {w : World} {A : Around} {E : Value → Shared → Prop} {s : Shared}
theorem enum_begins1 {v : Value} {o : Obj} {H : Heap → Prop} {Q : Value → Shared → Prop} (B : Begins v o H) (h1 : H s.heap)
    (h : ∀ h', IsEnum h' (s.heap.objs.size + 1) s.heap.objs.size 0 .none → h'.get? s.heap.objs.size = some o → h'.objs.size = s.heap.objs.size + 2 →
      (∀ b o, s.heap.get? b = some o → h'.get? b = some o) → Q (.ref (s.heap.objs.size + 1)) { s with heap := h' }) :
    wpAny (model prog w) A (call (.type "enumerate") [v]) Q E s := by
  refine callType_new F.called_enumerate (by decide) (F.typeCall_enumerate_1 _) (F.newCall_enumerate_1 _) (fun obj => F.args_object_init_2 obj _) F.entry_enumerate_new
    (meets_enumerate_newT B) ⟨h1, ?_⟩
  have hz : (s.heap.push o).objs.size = s.heap.objs.size + 1 := Heap.size_push ..
  show _ ∧ _
  rw [hz]
  have he : IsEnum ((s.heap.push o).push { cls := .type "enumerate", data := .fields #[.none, .bool false, .ref s.heap.objs.size, rawInt 0, .none, .none] }) (s.heap.objs.size + 1) s.heap.objs.size 0 .none := by
    have := Heap.get?_push_size (s.heap.push o) (o := { cls := .type "enumerate", data := .fields #[.none, .bool false, .ref s.heap.objs.size, rawInt 0, .none, .none] }) rfl
    rw [hz] at this; exact this
  refine ⟨⟨_, he, rfl⟩, h _ he (Heap.get?_push_of_some _ (Heap.get?_push_size _ B.free)) (by rw [Heap.size_push, hz]) fun b o x => Heap.get?_push_of_some _ (Heap.get?_push_of_some _ x)⟩
end
def ItTe (K : PySem.W.Frag) (a : Addr) : It :=
  ⟨fun i H => ∃ (xs : List V) (x : V), SqT K H a xs ∧ xs[i]? = some x, fun i H v H' => ∃ T x, v = .ref T ∧ H T = none ∧ H' = upd H T (.tup [.int (i : Nat), x]) ∧ ∀ xs, SqT K H a xs → xs[i]? = some x, fun i H => ∃ xs : List V, SqT K H a xs ∧ xs.length ≤ i⟩
theorem turn_enumT {P : Program} {w : World} {K : PySem.W.Frag} {elts : List Expr} {kk : Nat} {tpos : Pos} (a e it : Addr) :
    Turn P w K (.Tuple elts kk tpos) (ItTe K a) [e, it] e (fun i h => (∃ old, IsEnum h e it ((i : Nat) : Int) old) ∧ h.IsTupleIter it a i ∧ e ≠ it) where
  mem := by simp
  obj := fun i h st b hb => by
    obtain ⟨⟨old, he⟩, ⟨o, ho, hc, hd⟩, _⟩ := st
    have e' : b = e ∨ b = it := by simpa using hb
    rcases e' with z | z
    · rw [z]; exact ⟨_, he, fun v q => nomatch q⟩
    · rw [z]; exact ⟨o, ho, fun v q => by rw [hd] at q; cases q⟩
  keep := fun i h h' st k => let ⟨⟨old, he⟩, hi, hne⟩ := st; ⟨⟨old, k e (by simp) _ he⟩, hi.at fun o q => k it (by simp) o q, hne⟩
  item := by
    intro X hP hw hK hc i pins s σ H E I hf st hg
    subst hP hw hK
    obtain ⟨⟨old, he⟩, hit, hne⟩ := st
    obtain ⟨xs, x, hq, hx⟩ := hg
    obtain ⟨its, rv, p, hz⟩ := I.tuple hq
    obtain ⟨u, hu, ru⟩ := rv.get hx
    have hel : e < s.heap.objs.size := Heap.lt_size he
    have hil : it < s.heap.objs.size := by obtain ⟨_, q, _⟩ := hit; exact Heap.lt_size q
    have hait : a ≠ it := fun z => by
      obtain ⟨o, ho, hcl, _⟩ := hit
      obtain ⟨o', ho', hcl', _⟩ := p
      rw [z, ho] at ho'
      cases ho'
      rw [hcl] at hcl'
      exact absurd hcl' (by decide)
    have hae : a ≠ e := fun z => by
      obtain ⟨o', ho', hcl', _⟩ := p
      rw [z, he] at ho'
      cases ho'
      exact absurd (show Value.type "enumerate" = Value.type "tuple" from hcl') (by decide)
    have pt : s.heap.IsTuple a its.toArray := p
    refine wpAny_pyNext_enum_itemC (Draws.tuple (A := X.A.in1) (I.ok.hd hc) it a hait its.toArray) he ⟨hit, pt⟩ (i := i) (by have := (List.getElem?_eq_some_iff.mp hu).1; simpa using this) hne (by simp [hne, Ne.symm hae]) fun x' h' tk hx' ho st' hT hsz hk => ?_
    have ex : x' = u := by
      have e1 : its[i]? = some x' := by simpa using hx'
      rw [hu] at e1; exact (Option.some.inj e1).symm
    subst ex
    refine ⟨_, rfl, wpAny_letOwnedTupleGo_enum (s := { s with heap := h', toks := tk + 1 }) ho fun h'' he' sb => ?_⟩
    have hT2 : h''.get? s.heap.objs.size = some { cls := .type "tuple", data := .seq #[.int i tk, x'] } := (sb.2 _ (Nat.ne_of_gt hel)).trans hT
    have new : ObjOk X.prog X.w (upd H s.heap.objs.size (.tup [.int (i : Nat), x])) h'' s.heap.objs.size (.tup [.int (i : Nat), x]) :=
      ⟨by show 2 ≤ sizeLine; decide, [.int i tk, x'], .cons ⟨_, rfl⟩ (.cons ru .nil), ⟨_, hT2, rfl, _, rfl⟩⟩
    have I1 : Inv X pins σ (upd H s.heap.objs.size (.tup [.int (i : Nat), x])) { s with heap := h'', toks := tk + 1 } :=
      I.turnedNew (ch := [e, it]) (fun b ob hb q => (sb.2 b (fun z => hb (by simp [z]))).trans (hk b ob (fun z => hb (by simp [z])) (fun z => hb (by simp [z])) q)) hf (Nat.le_refl _) new
    refine ⟨.ref s.heap.objs.size, _, I1, rfl, ⟨_, x, rfl, I.hok.fresh (Nat.le_refl _), rfl, fun ys hy => by rw [I.tuple_inj hy hq]; exact hx⟩, ⟨⟨x', ?_⟩, st'.1.at fun o q => (sb.2 it (Ne.symm hne)).trans q, hne⟩, fun b hb => ?_⟩
    · have e1 : ((i + 1 : Nat) : Int) = (i : Int) + 1 := by omega
      rw [e1]; exact he'
    · have hb' : b < s.heap.objs.size := by
        have e' : b = e ∨ b = it := by simpa using hb
        rcases e' with z | z
        · rw [z]; exact hel
        · rw [z]; exact hil
      rw [upd_ne (Nat.ne_of_lt hb')]
      exact (hf b hb).1
  done := by
    intro X hP hw hK hc i pins s σ H E I hf st hg
    subst hP hw hK
    obtain ⟨⟨old, he⟩, hit, hne⟩ := st
    obtain ⟨xs, hq, hx⟩ := hg
    obtain ⟨its, rv, p, hz⟩ := I.tuple hq
    obtain ⟨f0, f1, f2, f3, f4, f5⟩ := hf it (by simp)
    have hl := rv.length
    have pt : s.heap.IsTuple a its.toArray := p
    exact wpAny_pyNext_enum_endT (I.ok.hd hc) he hit pt (by simp; omega) fun h' eb => ⟨rfl, I.turned (t' := s.toks) (fun b o hb q => eb b o hb q) f0 f1 f3 f4 f5⟩
  self := fun A i s Q E st h => let ⟨⟨_, he⟩, _⟩ := st; wpAny_pyIter_enum he h
def iEnumT (K : PySem.W.Frag) (ta : TA) : TI := fun σ H R => ta σ H fun vs H1 => ∃ a xs, vs = [.ref a] ∧ SqT K H1 a xs ∧ R (ItTe K a) H1
theorem pi_enumT {X : Cx} {e : Expr} {ta : TA} {p pos tpos : Pos} {elts : List Expr} {kk : Nat} (hg : Gl X "enumerate") (hm : X.mg "enumerate" = none) (ha : PA X [e] ta) (hs : starEach [e] X.env = [(false, eval e X.env)] := by rfl) :
    PI X (.Tuple elts kk tpos) (.Call (.Name "enumerate" p) [e] [] pos) (iEnumT X.K ta) := by
  refine ⟨fun pins s σ H R I h => ?_⟩
  refine Call_ (ld_blt I hg hm boot_enumerate (PyProof.Rows.callWith_type1 (thn (ha.run pos pins s σ H _ I h) fun us s1 ⟨vs, H1, I1, r1, q1⟩ => ?_) hs rfl))
  obtain ⟨a, xs, ex, hq, q⟩ := q1
  subst ex
  cases r1 with
  | cons r rr =>
    cases rr
    cases r
    obtain ⟨its, rv, p', hz⟩ := I1.tuple hq
    refine enum_begins1 (begins_tuple a its.toArray) p' fun h' he hit hsz hk => wpAny_pyIter_enum he ?_
    have I2 : Inv X pins σ H1 { s1 with heap := h' } := I1.kept (t' := s1.toks) hk
    refine ⟨s1.heap.objs.size + 1, [s1.heap.objs.size + 1, s1.heap.objs.size], _, _, H1, rfl, I2, turn_enumT a (s1.heap.objs.size + 1) s1.heap.objs.size, ⟨⟨.none, he⟩, ⟨_, hit, rfl, rfl⟩, Nat.succ_ne_self _⟩, fun b hb => ?_, q⟩
    have e' : b = s1.heap.objs.size + 1 ∨ b = s1.heap.objs.size := by simpa using hb
    have hle : s1.heap.objs.size ≤ b := by
      rcases e' with z | z
      · rw [z]; exact Nat.le_add_right _ _
      · rw [z]; exact Nat.le_refl _
    exact I1.fpOk hle (I1.hok.fresh hle)
theorem src_enumT {K : PySem.W.Frag} {σ : L2.St} {G H : Hp} {te : TE} {ds : List PyData} (h : Eva K te σ G H (.tuple ds)) : Src K (iEnumT K (tCons te tNil)) σ G H (enumD ds) := fun G1 H1 a R q => h G1 H1 a _ fun v G2 H2 a2 r => by
  cases r with
  | @tup p xs _ hs hr =>
    refine ⟨_, _, rfl, ex_t a2.o hs, q _ G2 H2 a2 fun i G3 H3 e3 k3 => ?_⟩
    have hp : SqT K H3 p xs := ex_t (e3.trans k3) hs
    have hl := rpa_len hr
    rw [enumD_len]
    refine ⟨fun hi => ⟨xs, xs[i]'(by omega), hp, List.getElem?_eq_getElem _⟩, fun hi => ⟨xs, hp, by omega⟩, fun x H' y hi => ?_⟩
    obtain ⟨T, x, rfl, nT, rfl, y⟩ := y
    obtain ⟨d, hd, rd⟩ := rpa_get hr (y xs hp)
    exact ⟨_, upd G3 T _, enumD_get hd, .new k3 nT, .tup (SqT.of upd_same) (.cons (.int _) (.cons (rd.ex (e3.trans (Ex.new (fresh_back k3 nT)))) .nil))⟩
end Vf

set_option Elab.async false
set_option linter.all false
set_option maxRecDepth 100000
set_option maxHeartbeats 2000000
namespace Vf
open PySem PySem.Spec PyProof.Rows L2
open Evl hiding Ex Ex.refl Ex.trans Ex.new Ex.mut ex_rd ex_l ex_t fresh_back

/-! ### {e for t in it}: ints -/
section
variable {X : Cx}
abbrev noInt : Int → Bool := fun _ => false
abbrev withInt (S : Int → Bool) (c : Int) : Int → Bool := fun j => S j || decide (j = c)
abbrev sizeWith (S : Int → Bool) (c : Int) (n : Nat) : Nat := if S c = true then n else n + 1
theorem add_one {pins : List (Addr × Obj)} {σ : L2.St} {H : Hp} {s : Shared} {E : Value → Shared → Prop} {a : Addr} {S : Int → Bool} {n : Nat} {y : Int} {tk : Tok} {Q : Value → Shared → Prop} (J : Inv X pins σ H s)
    (ha : H a = some (SetO X.w a S n)) (room : n + 1 < scanBound) (go : ∀ s', Inv X pins σ (upd H a (SetO X.w a (withInt S y) (sizeWith S y n))) s' → Q .none s') :
    wpAny (model X.prog X.w) X.A (call (.builtin "set.add") [.ref a, .int y tk]) Q E s :=
  setR_add (setO_get J ha) room fun h' sb new => go _ (J.write (e := a) (t' := s.toks + 1) (by rw [ha]; exact True.intro) (.inl rfl) (fun b u hb hu => (sb.2 b hb).trans hu)
    (by obtain ⟨o, _, _, _, ho, _⟩ := new; exact ⟨o, ho⟩) (setO_new new))
/-- the turn of such a walk, D the new set -/
def TurnS (w : World) (J : It) (g : TG) (tt : TT) (te : TE) (vs : List Nat) (σ : L2.St) (D : Addr) (W : Nat → Nat → Hp → Prop) (Q : VK) : Prop := ∀ i m H, W i m H →
  (J.stop i H ∧ Q (.ref D) H) ∨ (J.go i H ∧ ∃ Nx : Hp → Prop, (∀ H', Nx H' → ∃ m', m' < m ∧ W (i + 1) m' H') ∧ ∀ x H', J.yld i H x H' → g x (wipe σ vs) H' fun σ2 H2 => wipe σ2 vs = wipe σ vs ∧ tt σ2 H2 fun b H3 =>
    if b = true then te σ2 H3 fun y H4 => ∃ c S n, y = .int c ∧ H4 D = some (SetO w D S n) ∧ n + 1 < scanBound ∧ Nx (upd H4 D (SetO w D (withInt S c) (sizeWith S c n))) else Nx H3)
def tScI (w : World) (wi : TI) (g : TG) (tt : TT) (te : TE) (vs : List Nat) : TE := fun σ H Q => wi σ H fun J H1 => ∀ D, H1 D = none → ∃ W : Nat → Nat → Hp → Prop, (∃ m, W 0 m (upd H1 D (SetO w D noInt 0))) ∧ TurnS w J g tt te vs σ D W Q
abbrev blkEnv (X : Cx) (sc : Scope) (n : Nat) : Env := compEnvC sc (cellsFrom (n + 1) sc.names (cloFrom X.env.cells sc.names [])) n X.env
theorem pe_scI {elt tg iter : Expr} {ifs : List Expr} {scope : Scope} {own : List (PySem.Str × Nat)} {pos : Pos} {wi : TI} {g : TG} {tt : TT} {te : TE} (hc : X.calm = true) (hN : X.N.Nodup) (hi : PI X tg iter wi) (ok : BlkOk X.N X.env.scope scope own)
    (hg : ∀ (s : Shared) (H : Hp) (C : Addr) (cl : List (PySem.Str × Addr)) (fp : List Addr), PG (X.blk s H scope (compEnvC scope cl C X.env) fp) tg g)
    (ht : ∀ (s : Shared) (H : Hp) (C : Addr) (cl : List (PySem.Str × Addr)) (fp : List Addr), PTs (X.blk s H scope (compEnvC scope cl C X.env) fp) ifs tt)
    (he : ∀ (s : Shared) (H : Hp) (C : Addr) (cl : List (PySem.Str × Addr)) (fp : List Addr), PE (X.blk s H scope (compEnvC scope cl C X.env) fp) elt te) (hs : ∀ x, foldedSetIterable iter X.env x = pure x := by intro _; rfl) :
    PE X (.SetComp elt [⟨tg, iter, ifs, 0⟩] scope pos) (tScI X.w wi g tt te (own.map (·.2))) := by
  refine ⟨fun pins s σ H Q I h => ?_⟩
  rw [PpSet.eval_SetComp]
  have cap : ∀ y ∈ scope.names, y.2 = .free → ∃ c, X.env.cells.lookup y.1 = some c := fun y hy e => (ok.free y hy e).elim (fun z => I.ok.has _ (.inl z)) fun z => I.ok.has _ (.inr z)
  refine wpAny_comprehension_free (use := none) rfl hs (closure_ok cap) ok.kind (fun y hy e => by rw [ok.uniq y hy, e]) (thn (hi.run pins s σ H _ I h) fun xv s1 hx => thn hx fun itv s2 h2 => ?_)
  obtain ⟨it, fp, tn, J, H2, rfl, I2, T, st2, f2, q⟩ := h2
  refine PpSet.newSet_ok (newEnv_comp ?_)
  -- the set is laid
  obtain ⟨W, ⟨m0, w0⟩, turn⟩ := q s2.heap.objs.size (I2.hok.fresh (Nat.le_refl _))
  have below : ∀ b ∈ fp, b < s2.heap.objs.size := fun b hb => by obtain ⟨o, e, _⟩ := T.obj _ _ st2 b hb; exact Heap.lt_size e
  generalize hD : s2.heap.objs.size = D at w0 turn below ⊢
  have J3 : Inv X pins σ (upd H2 D (SetO X.w D noInt 0)) { s2 with heap := s2.heap.push { cls := .type "set", dict := none, data := .set #[] 0 (.fresh 0 0 (!X.w.params.followText "set-order")) } } :=
    I2.laid (t' := s2.toks) (fun b o e => Heap.get?_push_of_some _ e) (Nat.le_of_eq hD) (by rw [← hD]; exact setO_new (setR_fresh X.w))
  generalize hK : ({ s2 with heap := s2.heap.push { cls := .type "set", dict := none, data := .set #[] 0 (.fresh 0 0 (!X.w.params.followText "set-order")) } } : Shared) = sK at J3
  have heapK : sK.heap = s2.heap.push { cls := .type "set", dict := none, data := .set #[] 0 (.fresh 0 0 (!X.w.params.followText "set-order")) } := by rw [← hK]
  have keptK : ∀ b o, s2.heap.get? b = some o → sK.heap.get? b = some o := fun b o e => by rw [heapK]; exact Heap.get?_push_of_some _ e
  generalize hH : upd H2 D (SetO X.w D noInt 0) = HK at J3 w0
  have fK : ∀ b ∈ fp, FpOk X pins HK b ∧ b < sK.heap.objs.size := fun b hb => by
    refine ⟨⟨?_, (f2 b hb).2⟩, by rw [heapK, Heap.size_push, hD]; exact Nat.lt_succ_of_lt (below b hb)⟩
    rw [← hH, upd_ne (Nat.ne_of_lt (below b hb))]; exact (f2 b hb).1
  have B0 := block_start J3 ok hN fK
  -- the block
  have pg := hg sK HK sK.heap.objs.size (cellsFrom (sK.heap.objs.size + 1) scope.names (cloFrom X.env.cells scope.names [])) fp
  have pt := ht sK HK sK.heap.objs.size (cellsFrom (sK.heap.objs.size + 1) scope.names (cloFrom X.env.cells scope.names [])) fp
  have pe := he sK HK sK.heap.objs.size (cellsFrom (sK.heap.objs.size + 1) scope.names (cloFrom X.env.cells scope.names [])) fp
  show codeAny _ _ (.compStart (.SetComp elt [⟨tg, iter, ifs, 0⟩] scope pos) 0 (.ref it) (.ref D) (blkEnv X scope sK.heap.objs.size)) _ _
  generalize hce : blkEnv X scope sK.heap.objs.size = ce
  change Inv (X.blk sK HK scope (blkEnv X scope sK.heap.objs.size) fp) _ _ _ _ at B0
  change PG (X.blk sK HK scope (blkEnv X scope sK.heap.objs.size) fp) _ _ at pg
  change PTs (X.blk sK HK scope (blkEnv X scope sK.heap.objs.size) fp) _ _ at pt
  change PE (X.blk sK HK scope (blkEnv X scope sK.heap.objs.size) fp) _ _ at pe
  have cL : ce.locals = sK.heap.objs.size := by rw [← hce]; rfl
  rw [hce] at B0 pg pt pe
  let Y : Cx := X.blk sK HK scope ce fp
  generalize hB : ({ sK with heap := pushCells (sK.heap.push { cls := .type "dict", data := .dict #[] }) scope.names } : Shared) = sB at B0
  have stB : tn 0 sB.heap := T.keep _ _ _ st2 fun b _ o e => by rw [← hB]; exact pushCells_keeps _ _ _ _ (Heap.get?_push_of_some _ (keptK b o e))
  have still : ∀ {τ : L2.St} {H' : Hp} {s' : Shared}, Inv Y [] τ H' s' → (∀ b ∈ fp, H' b = none) → ∀ b ∈ fp, FpOk Y [] H' b := fun {τ H' s'} I' hn b hb =>
    ⟨hn b hb, (I'.ok.exf b hb).1, I'.ok.exfs b hb, .inl hb, fun x c e => (I'.ok.exf b hb).2 x c e, fun p hp => absurd (show p ∈ ([] : List (Addr × Obj)) ++ [] from hp) (by simp)⟩
  -- what holds between two turns
  let Iv : Nat → Shared → Prop := fun n s' => ∃ i H', Inv Y [] (wipe σ (own.map (·.2))) H' s' ∧ tn i s'.heap ∧ (∀ b ∈ fp, H' b = none) ∧ W i n H'
  have loop : ∀ R : Result → Shared → Prop, (∀ s6 H5, Inv Y [] (wipe σ (own.map (·.2))) H5 s6 → Q (.ref D) H5 → R (.ok .next) s6) → codeAny (model X.prog X.w) X.A (.compLoop (.SetComp elt [⟨tg, iter, ifs, 0⟩] scope pos) 0 (.ref it) (.ref D) ce) R sB := fun R hR => by
    refine PpSet.compLoopS_any Iv ?_ m0 ⟨0, HK, B0, stB, fun b hb => (fK b hb).1.1, w0⟩
    rintro n s5 ⟨i, H5, I5, st5, n5, w5⟩
    rcases turn i n H5 w5 with ⟨stop, qq⟩ | ⟨go, Nx, hNx, step⟩
    · exact thnF (T.done Y rfl rfl rfl hc i [] s5 _ H5 (fun _ _ => False) I5 (still I5 n5) st5 stop) fun r s6 z => by
        obtain ⟨rfl, I6⟩ := z
        exact hR s6 H5 I6 qq
    · refine thnF (T.item Y rfl rfl rfl hc i [] s5 _ H5 (fun _ _ => False) I5 (still I5 n5) st5 go) fun r s6 z => ?_
      obtain ⟨u, rfl, h6⟩ := z
      refine thnF h6 fun _ s7 z => ?_
      obtain ⟨x, H7, I7, r7, y7, st7, n7⟩ := z
      refine thnF (pg.run _ s7 _ H7 x u _ (I7.pinned (still I7 n7) (T.obj _ _ st7)) r7 (step x H7 y7)) fun _ s8 z => ?_
      obtain ⟨τ, H8, I8, hw8, q8⟩ := z
      refine thnF (pt.run _ s8 τ H8 _ I8 q8) fun b s9 z => ?_
      obtain ⟨H9, I9, q9⟩ := z
      have fin : ∀ {s' : Shared} {H' : Hp}, Inv Y ([] ++ pinsAt fp s7.heap) τ H' s' → Nx H' → ∃ m, m < n ∧ Iv m s' := fun {s' H'} I' nx => by
        obtain ⟨m', hm, w'⟩ := hNx H' nx
        have pin : ∀ b ∈ fp, ∀ o, s7.heap.get? b = some o → s'.heap.get? b = some o ∧ H' b = none := fun b hb o e => by
          have z := I'.pin (b, o) (List.mem_append_right _ (List.mem_append_right _ (mem_pinsAt hb e)))
          exact ⟨z.1, z.2.1⟩
        refine ⟨m', hm, i + 1, H', (I'.unpinned (pins := [])).weak (by rw [← hw8, wipe_length]) (fun j v e => (wipe_some (by rw [hw8]; exact e)).1), T.keep _ _ _ st7 fun b hb o e => (pin b hb o e).1, fun b hb => ?_, w'⟩
        obtain ⟨o, e, _⟩ := T.obj _ _ st7 b hb
        exact (pin b hb o e).2
      cases b with
      | false => exact fin I9 (by simpa using q9)
      | true =>
        simp only [if_true] at q9 ⊢
        refine thnF (pe.run _ s9 τ H9 _ I9 q9) fun z s10 w10 => ?_
        obtain ⟨yv, H10, I10, r10, c, S0, n0, rfl, hD10, room, nx⟩ := w10
        obtain ⟨tk, rfl⟩ := r10
        exact add_one (X := Y) I10 hD10 room fun s11 I11 => fin I11 nx
  have whole : ∀ R : Result → Shared → Prop, (∀ s6 H5, Inv Y [] (wipe σ (own.map (·.2))) H5 s6 → Q (.ref D) H5 → R (.ok .next) s6) → codeAny (model X.prog X.w) X.A (.compStart (.SetComp elt [⟨tg, iter, ifs, 0⟩] scope pos) 0 (.ref it) (.ref D) ce) R sB := fun R hR =>
    PpSet.codeAny_compStart_set (loop R hR) (T.self X.A 0 _ _ _ stB (loop R hR))
  refine whole _ fun s6 H5 I6 qq => ?_
  have I7 : Inv X pins σ H5 s6 := J3.call' (ch := fp) I6.os I6.base I6.hok I6.bare fun b hb => ⟨(fK b hb).1.2.2.2.1, (fK b hb).1.2.1, (fK b hb).1.2.2.2.2.1, (fK b hb).1.2.2.2.2.2⟩
  have nC : H5 ce.locals = none := I6.free
  obtain ⟨m, hn, _⟩ := I6.loc
  have hn : s6.heap.Ns ce.locals m := hn
  rw [cL] at nC hn
  refine ⟨m, hn, fun h'' sb => ?_⟩
  obtain ⟨f0, f1, f2, f3, f4, f5⟩ := J3.fpOk (Nat.le_refl _) nC
  exact ⟨.ref D, H5, I7.turned (t' := s6.toks) (fun b o hb e => (sb.2 b hb).trans e) f0 f1 f3 f4 f5, rfl, qq⟩
end
end Vf

set_option Elab.async false
set_option linter.all false
namespace Vf
/-! ### ascending lists -/
section
variable {α : Type} (k : α → Int)
def ins (x : α) : List α → List α
  | [] => [x]
  | y :: ys => if k x < k y then x :: y :: ys else if k x = k y then y :: ys else y :: ins x ys
def ascBy (l : List α) : List α := l.foldl (fun a x => ins k x a) []
abbrev Asc (l : List α) : Prop := l.Pairwise fun x y => k x < k y
variable {k}
theorem mem_ins {x y : α} : ∀ {l : List α}, y ∈ ins k x l → y = x ∨ y ∈ l
  | [], h => .inl (List.mem_singleton.mp h)
  | z :: zs, h => by
    unfold ins at h
    split at h
    · exact List.mem_cons.mp h
    · split at h
      · exact .inr h
      · rcases List.mem_cons.mp h with e | h
        · exact .inr (e ▸ List.mem_cons_self)
        · rcases mem_ins h with e | h
          · exact .inl e
          · exact .inr (List.mem_cons_of_mem _ h)
theorem ins_key {x : α} : ∀ {l : List α}, ∃ y ∈ ins k x l, k y = k x
  | [] => ⟨x, List.mem_singleton.mpr rfl, rfl⟩
  | z :: zs => by
    unfold ins
    split
    · exact ⟨x, List.mem_cons_self, rfl⟩
    · split
      · rename_i h1 h2
        exact ⟨z, List.mem_cons_self, h2.symm⟩
      · obtain ⟨y, h, e⟩ := ins_key (x := x) (l := zs)
        exact ⟨y, List.mem_cons_of_mem _ h, e⟩
theorem ins_old {x y : α} : ∀ {l : List α}, y ∈ l → y ∈ ins k x l
  | [], h => by cases h
  | z :: zs, h => by
    unfold ins
    split
    · exact List.mem_cons_of_mem _ h
    · split
      · exact h
      · rcases List.mem_cons.mp h with e | h
        · exact e ▸ List.mem_cons_self
        · exact List.mem_cons_of_mem _ (ins_old h)
theorem ins_asc {x : α} : ∀ {l : List α}, Asc k l → Asc k (ins k x l)
  | [], _ => List.pairwise_singleton _ _
  | z :: zs, h => by
    obtain ⟨h1, h2⟩ := List.pairwise_cons.mp h
    unfold ins
    split
    · rename_i hx
      refine List.pairwise_cons.mpr ⟨fun y hy => ?_, h⟩
      rcases List.mem_cons.mp hy with e | hy
      · rw [e]; exact hx
      · exact Int.lt_trans hx (h1 y hy)
    · split
      · exact h
      · rename_i a b
        refine List.pairwise_cons.mpr ⟨fun y hy => ?_, ins_asc h2⟩
        rcases mem_ins hy with e | hy
        · rw [e]; omega
        · exact h1 y hy
theorem ins_len {x : α} : ∀ {l : List α}, Asc k l → ((∃ y ∈ l, k y = k x) → (ins k x l).length = l.length) ∧ ((¬ ∃ y ∈ l, k y = k x) → (ins k x l).length = l.length + 1)
  | [], _ => ⟨fun ⟨y, h, _⟩ => (by cases h), fun _ => rfl⟩
  | z :: zs, h => by
    obtain ⟨h1, h2⟩ := List.pairwise_cons.mp h
    unfold ins
    split
    · rename_i hx
      refine ⟨fun ⟨y, hy, e⟩ => ?_, fun _ => rfl⟩
      rcases List.mem_cons.mp hy with e' | hy
      · rw [e'] at e; omega
      · have := h1 y hy; omega
    · split
      · rename_i a b
        exact ⟨fun _ => rfl, fun n => absurd ⟨z, List.mem_cons_self, b.symm⟩ n⟩
      · rename_i a b
        obtain ⟨i1, i2⟩ := ins_len (x := x) h2
        refine ⟨fun ⟨y, hy, e⟩ => ?_, fun n => ?_⟩
        · rcases List.mem_cons.mp hy with e' | hy
          · rw [e'] at e; exact absurd e.symm b
          · rw [List.length_cons, List.length_cons, i1 ⟨y, hy, e⟩]
        · rw [List.length_cons, List.length_cons, i2 fun ⟨y, hy, e⟩ => n ⟨y, List.mem_cons_of_mem _ hy, e⟩]
theorem ascBy_app (l : List α) (x : α) : ascBy k (l ++ [x]) = ins k x (ascBy k l) := by unfold ascBy; rw [List.foldl_append]; rfl
theorem ascBy_asc (l : List α) : Asc k (ascBy k l) := by
  have h : ∀ (l a : List α), Asc k a → Asc k (l.foldl (fun a x => ins k x a) a) := by
    intro l
    induction l with
    | nil => intro a h; exact h
    | cons x xs ih => intro a h; exact ih _ (ins_asc h)
  exact h l [] List.Pairwise.nil
theorem mem_ascBy {l : List α} {y : α} (h : y ∈ ascBy k l) : y ∈ l := by
  have g : ∀ (l a : List α), y ∈ l.foldl (fun a x => ins k x a) a → y ∈ l ∨ y ∈ a := by
    intro l
    induction l with
    | nil => intro a h; exact .inr h
    | cons x xs ih =>
      intro a h
      rcases ih _ h with h | h
      · exact .inl (List.mem_cons_of_mem _ h)
      · rcases mem_ins h with e | h
        · exact .inl (e ▸ List.mem_cons_self)
        · exact .inr h
  rcases g l [] h with h | h
  · exact h
  · cases h
theorem ascBy_key {l : List α} {x : α} (h : x ∈ l) : ∃ y ∈ ascBy k l, k y = k x := by
  have g : ∀ (l a : List α), (∃ y ∈ a, k y = k x) ∨ x ∈ l → ∃ y ∈ l.foldl (fun a x => ins k x a) a, k y = k x := by
    intro l
    induction l with
    | nil =>
      intro a h
      rcases h with h | h
      · exact h
      · cases h
    | cons z zs ih =>
      intro a h
      refine ih _ ?_
      rcases h with ⟨y, hy, e⟩ | h
      · exact .inl ⟨y, ins_old hy, e⟩
      · rcases List.mem_cons.mp h with e | h
        · exact .inl (e ▸ ins_key)
        · exact .inr h
  exact g l [] (.inr h)
theorem asc_unique : ∀ {l m : List α}, Asc k l → Asc k m → (∀ x, x ∈ l ↔ x ∈ m) → l = m
  | [], [], _, _, _ => rfl
  | [], y :: ys, _, _, h => absurd ((h y).mpr List.mem_cons_self) (by simp)
  | x :: xs, [], _, _, h => absurd ((h x).mp List.mem_cons_self) (by simp)
  | x :: xs, y :: ys, hl, hm, h => by
    obtain ⟨h1, h2⟩ := List.pairwise_cons.mp hl
    obtain ⟨h3, h4⟩ := List.pairwise_cons.mp hm
    have e : x = y := by
      rcases List.mem_cons.mp ((h x).mp List.mem_cons_self) with e | hx
      · exact e
      · rcases List.mem_cons.mp ((h y).mpr List.mem_cons_self) with e | hy
        · exact e.symm
        · have := h1 y hy; have := h3 x hx; omega
    subst e
    rw [asc_unique h2 h4 fun z => ?_]
    have hz := h z
    rw [List.mem_cons, List.mem_cons] at hz
    constructor
    · intro q
      rcases hz.mp (.inr q) with e | q'
      · subst e; have := h1 z q; omega
      · exact q'
    · intro q
      rcases hz.mpr (.inr q) with e | q'
      · subst e; have := h3 z q; omega
      · exact q'
theorem mem_ascBy_iff {l : List α} (inj : ∀ x ∈ l, ∀ y ∈ l, k x = k y → x = y) {x : α} : x ∈ ascBy k l ↔ x ∈ l :=
  ⟨mem_ascBy, fun h => by
    obtain ⟨y, hy, e⟩ := ascBy_key (k := k) h
    exact inj y (mem_ascBy hy) x h e ▸ hy⟩
end
theorem ascBy_le {α : Type} (k : α → Int) (l m : List α) : (ascBy k l).length ≤ (ascBy k (l ++ m)).length := by
  have h : ∀ (m a : List α), Asc k a → a.length ≤ (m.foldl (fun a x => ins k x a) a).length := by
    intro m
    induction m with
    | nil => intro a _; exact Nat.le_refl _
    | cons x xs ih =>
      intro a ha
      have h1 := ih _ (ins_asc (x := x) ha)
      have h2 := ins_len (x := x) ha
      rw [List.foldl_cons]
      by_cases hx : ∃ y ∈ a, k y = k x
      · have := h2.1 hx; omega
      · have := h2.2 hx; omega
  unfold ascBy
  rw [List.foldl_append]
  exact h m _ (ascBy_asc l)
theorem ascBy_len {α : Type} (k : α → Int) (l : List α) : (ascBy k l).length ≤ l.length := by
  have h : ∀ (m a : List α), Asc k a → (m.foldl (fun a x => ins k x a) a).length ≤ m.length + a.length := by
    intro m
    induction m with
    | nil => intro a _; simp
    | cons x xs ih =>
      intro a ha
      have h1 := ih _ (ins_asc (x := x) ha)
      have h2 := ins_len (x := x) ha
      rw [List.foldl_cons, List.length_cons]
      by_cases hx : ∃ y ∈ a, k y = k x
      · have := h2.1 hx; omega
      · have := h2.2 hx; omega
  have := h l [] List.Pairwise.nil
  rw [List.length_nil] at this
  exact this
theorem mem_asc_id {l : List Int} {x : Int} : x ∈ ascBy id l ↔ x ∈ l := mem_ascBy_iff fun _ _ _ _ e => e
end Vf

set_option Elab.async false
set_option linter.all false
set_option maxRecDepth 100000
set_option maxHeartbeats 2000000
namespace Vf
open PySem PySem.Spec PyProof.Rows L2
open Evl hiding Ex Ex.refl Ex.trans Ex.new Ex.mut ex_rd ex_l ex_t fresh_back

section
variable {K : PySem.W.Frag} {P : Program} {w : World} {σ : L2.St} {G H G' H' : Hp} {te tl : TE} {tt : TT} {wi : TI} {g : TG} {vs : List Nat}
/-- sorted({key x for x in xs if p x}) -/
theorem eva_sortedSI {α : Type} (xs : List α) (enc : α → PyData) (p : α → Bool) (key : α → Int) (S : Src K wi σ G H (xs.map enc)) (hz : xs.length ≤ 40000) (hf : (ascBy id ((xs.filter p).map key)).length < 64)
    (hb : ∀ (i : Nat) x v G' H', xs[i]? = some x → Adv G H G' H' → Rp K G' v (enc x) → Bd g (wipe σ vs) v H' fun σ2 => wipe σ2 vs = wipe σ vs ∧ EvaT tt σ2 G' H' (p x) ∧ (p x = true → Eva K te σ2 G' H' (.int (key x)))) :
    Eva K (tCB (rSortedSet w) (tCons (tScI w wi g tt te vs) tNil)) σ G H (.list ((ascBy id ((xs.filter p).map key)).map .int)) := fun G1 H1 a Q q => S G1 H1 a _ fun J G2 H2 a2 wk D hD => by
  refine ⟨fun i m H' => m = xs.length - i ∧ i ≤ xs.length ∧ ∃ G' Z, Adv G2 H2 G' H' ∧ Own G' H' D (SetO w D Z (ascBy id (((xs.take i).filter p).map key)).length) ∧ (∀ j, Z j = true ↔ j ∈ ascBy id (((xs.take i).filter p).map key)),
    ⟨xs.length, rfl, Nat.zero_le _, G2, _, .lay a2.o hD, ⟨upd_same, fresh_back a2.o hD, fun _ z => nomatch z⟩, fun j => by simp [ascBy]⟩, ?_⟩
  rintro i m H' ⟨rfl, hi, G', Z, a3, ow, hZ⟩
  obtain ⟨w1, w2, w3⟩ := wk i G' H' a3.g a3.o
  rw [List.length_map] at w1 w2 w3
  by_cases hlt : i < xs.length
  · refine .inr ⟨w1 hlt, fun H' => ∃ G' Z, Adv G2 H2 G' H' ∧ Own G' H' D (SetO w D Z (ascBy id (((xs.take (i + 1)).filter p).map key)).length) ∧ (∀ j, Z j = true ↔ j ∈ ascBy id (((xs.take (i + 1)).filter p).map key)), fun H'' hN => ⟨xs.length - (i + 1), by omega, rfl, hlt, hN⟩, fun x H'' y => ?_⟩
    obtain ⟨d, G'', hd, a4, rx⟩ := w3 x H'' y hlt
    rw [List.getElem?_map, List.getElem?_eq_getElem hlt] at hd
    cases hd
    have hxi : xs[i]? = some xs[i] := List.getElem?_eq_getElem hlt
    refine hb i xs[i] x G'' H'' hxi ((a.trans a2).trans (a3.trans a4)) rx _ fun σ2 hσ => ?_
    obtain ⟨hw, ht, he⟩ := hσ
    have ow := ow.adv a4
    refine ⟨hw, ht G'' H'' a4.ok _ fun G5 H5 a5 => ?_⟩
    cases hp : p xs[i] with
    | false =>
      refine iteF ⟨G5, Z, (a3.trans a4).trans a5, ?_, ?_⟩
      all_goals rw [take_some hxi, List.filter_append, List.filter_cons, if_neg (by rw [hp]; exact Bool.false_ne_true), List.filter_nil, List.append_nil]
      · exact ow.adv a5
      · exact hZ
    | true =>
      refine iteT (he hp G5 H5 a5 _ fun v G6 H6 a6 rv => ?_)
      cases rp_int rv
      have ow := (ow.adv a5).adv a6
      have hn : (ascBy id (((xs.take i).filter p).map key)).length < 64 := by
        have e1 : (xs.filter p).map key = ((xs.take i).filter p).map key ++ ((xs.drop i).filter p).map key := by
          rw [← List.map_append, ← List.filter_append, List.take_append_drop]
        have := ascBy_le id (((xs.take i).filter p).map key) (((xs.drop i).filter p).map key)
        rw [← e1] at this
        omega
      refine ⟨key xs[i], Z, _, rfl, ow.h, Nat.lt_of_le_of_lt hn (by decide), G6, withInt Z (key xs[i]), (((((a3.trans a4).trans a5).trans a6).toR (rs := [D])).trans (ow.chg a6.o)).out (fun b hb => by rw [List.mem_singleton.mp hb]; exact hD), ?_, ?_⟩
      · rw [take_some hxi, List.filter_append, List.filter_cons, if_pos hp, List.filter_nil, List.map_append]
        show Own _ _ D (SetO w D _ (ascBy id (_ ++ [key xs[i]])).length)
        rw [ascBy_app]
        have hl := ins_len (x := key xs[i]) (ascBy_asc (k := id) (((xs.take i).filter p).map key))
        have e : (ins id (key xs[i]) (ascBy id (((xs.take i).filter p).map key))).length = sizeWith Z (key xs[i]) (ascBy id (((xs.take i).filter p).map key)).length := by
          unfold sizeWith
          by_cases hz : Z (key xs[i]) = true
          · rw [if_pos hz, hl.1 ⟨_, (hZ _).mp hz, rfl⟩]
          · rw [if_neg hz, hl.2 fun ⟨y, hy, e⟩ => hz (by rw [← show y = key xs[i] from e]; exact (hZ _).mpr hy)]
        rw [e]
        exact ow.put
      · intro j
        rw [take_some hxi, List.filter_append, List.filter_cons, if_pos hp, List.filter_nil, List.map_append]
        show withInt Z (key xs[i]) j = true ↔ j ∈ ascBy id (_ ++ [key xs[i]])
        have hZj := hZ j
        rw [mem_asc_id] at hZj
        rw [mem_asc_id, List.mem_append, List.mem_singleton, Bool.or_eq_true, hZj, decide_eq_true_eq]
  · have e : i = xs.length := by omega
    subst e
    rw [List.take_length] at ow hZ
    refine .inl ⟨w2 (Nat.le_refl _), D, Z, _, rfl, ow.h, hf, fun ns l hasc hmem hlen hl => ?_⟩
    have e : ns = ascBy id ((xs.filter p).map key) := asc_unique (k := id) hasc (ascBy_asc _) fun x => (hmem x).trans (hZ x)
    subst e
    exact q _ (upd G' l _) _ ((a2.trans a3).trans (Adv.new a3.o hl)) (.lst upd_same ((ints_rpa _).ex (Ex.refl _)))
/-- a triple of ints -/
abbrev E3 := Int × Int × Int
def eD (e : E3) : PyData := .tuple [.int e.1, .int e.2.1, .int e.2.2]
def e3 (e : E3) : List Int := [e.1, e.2.1, e.2.2]
def cd (e : E3) : Int := e.1 * 4096 + e.2.1 * 64 + e.2.2
abbrev Sm (e : E3) : Prop := (0 ≤ e.1 ∧ e.1 < 64) ∧ (0 ≤ e.2.1 ∧ e.2.1 < 64) ∧ (0 ≤ e.2.2 ∧ e.2.2 < 64)
theorem cd_inj {a b : E3} (ha : Sm a) (hb : Sm b) (h : cd a = cd b) : a = b := by
  obtain ⟨a1, a2, a3⟩ := a
  obtain ⟨b1, b2, b3⟩ := b
  unfold cd at h
  obtain ⟨⟨h1, h2⟩, ⟨h3, h4⟩, h5, h6⟩ := ha
  obtain ⟨⟨g1, g2⟩, ⟨g3, g4⟩, g5, g6⟩ := hb
  dsimp only at *
  have e1 : a1 = b1 := by omega
  have e2 : a2 = b2 := by omega
  have e3 : a3 = b3 := by omega
  rw [e1, e2, e3]
theorem code_e3 (e : E3) : TS.code 64 (e3 e) = cd e := by
  unfold e3 cd
  simp only [TS.code, List.length_cons, List.length_nil]
  omega
theorem eD_refs : ∀ {es : List E3} {vs : List V}, RpAll K G vs (es.map eD) → ∃ ps : List Addr, vs = ps.map V.ref ∧ ps.length = es.length ∧ ∀ (i : Nat) p e, ps[i]? = some p → es[i]? = some e → SqT K G p ((e3 e).map V.int)
  | [], _, h => by cases h; exact ⟨[], rfl, rfl, fun i p e h => by simp at h⟩
  | e :: es, _, h => by
    cases h with
    | cons h1 h2 =>
      obtain ⟨ps, rfl, hl, hp⟩ := eD_refs h2
      cases h1 with
      | @tup a xs _ hs hr =>
        cases rpa_ints (ns := e3 e) hr
        refine ⟨a :: ps, rfl, by rw [List.length_cons, List.length_cons, hl], fun i p e' h1 h2 => ?_⟩
        cases i with
        | zero => cases h1; cases h2; exact hs
        | succ i => exact hp i p e' h1 h2
/-- sorted(set(es)) -/
theorem eva_sortedSet3 {es : List E3} (h : Eva K te σ G H (.list (es.map eD))) (hz : es.length < 64) (hsm : ∀ e ∈ es, Sm e) :
    Eva K (tCB (rSortedT K P w) (tCons (tCB (rSetOfT K P w) (tCons te tNil)) tNil)) σ G H (.list ((ascBy cd es).map eD)) := fun G1 H1 a Q q => h G1 H1 a _ fun v G2 H2 a2 r => by
  cases r with
  | @lst l xs _ hs hr =>
    obtain ⟨ps, rfl, hl, hp⟩ := eD_refs hr
    have m1 : ((ps.zip es).map fun q => (q.1, e3 q.2)).map (fun q => V.ref q.1) = ps.map V.ref := by
      rw [List.map_map]
      show (ps.zip es).map (fun q => V.ref q.1) = _
      rw [show (fun q : Addr × E3 => V.ref q.1) = V.ref ∘ Prod.fst from rfl, ← List.map_map, List.map_fst_zip (by omega)]
    have mem : ∀ q ∈ ((ps.zip es).map fun q => (q.1, e3 q.2)), ∃ e ∈ es, q.2 = e3 e ∧ SqT K G2 q.1 ((e3 e).map V.int) := fun q hq => by
      obtain ⟨⟨p, e⟩, hz, rfl⟩ := List.mem_map.mp hq
      obtain ⟨i, hi, hie⟩ := List.getElem_of_mem hz
      rw [List.getElem_zip] at hie
      have h1 : ps[i]'(by rw [List.length_zip] at hi; omega) = p := congrArg Prod.fst hie
      have h2 : es[i]'(by rw [List.length_zip] at hi; omega) = e := congrArg Prod.snd hie
      exact ⟨e, (List.of_mem_zip hz).2, rfl, hp i p e (List.getElem?_eq_some_iff.mpr ⟨_, h1⟩) (List.getElem?_eq_some_iff.mpr ⟨_, h2⟩)⟩
    have back : ∀ e ∈ es, ∃ q ∈ ((ps.zip es).map fun q => (q.1, e3 q.2)), q.2 = e3 e := fun e he => by
      obtain ⟨i, hi, hie⟩ := List.getElem_of_mem he
      refine ⟨(ps[i]'(by omega), e3 e), List.mem_map.mpr ⟨(ps[i]'(by omega), e), ?_, rfl⟩, rfl⟩
      refine List.mem_iff_getElem.mpr ⟨i, by rw [List.length_zip]; omega, ?_⟩
      rw [List.getElem_zip, hie]
    refine ⟨l, (ps.zip es).map fun q => (q.1, e3 q.2), rfl, ?_, fun q hq => ?_, ?_, fun a' L ha' hL1 hL2 => ?_⟩
    · rw [m1]; exact SqL.of (a2.o _ _ hs)
    · obtain ⟨e, _, e1, e2⟩ := mem q hq
      rw [e1]; exact ex_t a2.o e2
    · rw [List.length_map, List.length_zip]; omega
    · have hne : ∀ b o, H2 b = some o → b ≠ a' := fun b o e => ne_of_none e ha'
      refine ⟨a', L, 3, 64, rfl, upd_same, fun q hq => ?_, by decide, fun q hq => ?_, fun L' p' pm nd hlt srt hp' => ?_⟩
      · obtain ⟨e, _, e1, e2⟩ := mem q (hL1 q hq)
        rw [e1]; exact ex_t (a2.o.trans (Ex.new ha')) e2
      · obtain ⟨e, he, e1, e2⟩ := mem q (hL1 q hq)
        rw [e1]
        refine ⟨rfl, fun m hm => ?_⟩
        have hb := hsm e he
        unfold e3 at hm
        simp only [List.mem_cons, List.not_mem_nil, or_false] at hm
        rcases hm with rfl | rfl | rfl
        · exact hb.1
        · exact hb.2.1
        · exact hb.2.2
      · -- what came is the ascending list
        have dec : ∀ q ∈ L', ∃ e ∈ es, q.2 = e3 e := fun q hq => by
          obtain ⟨e, he, e1, _⟩ := mem q (hL1 q (pm.mem_iff.mp hq))
          exact ⟨e, he, e1⟩
        obtain ⟨rs, hrs, hin⟩ : ∃ rs : List E3, L'.map (·.2) = rs.map e3 ∧ ∀ e ∈ rs, e ∈ es := by
          clear pm nd hlt srt hp'
          induction L' with
          | nil => exact ⟨[], rfl, fun e h => by cases h⟩
          | cons q L' ih =>
            obtain ⟨rs, h1, h2⟩ := ih fun q hq => dec q (List.mem_cons_of_mem _ hq)
            obtain ⟨e, he, e1⟩ := dec q List.mem_cons_self
            refine ⟨e :: rs, by rw [List.map_cons, List.map_cons, h1, e1], fun e' h => ?_⟩
            rcases List.mem_cons.mp h with z | z
            · rw [z]; exact he
            · exact h2 e' z
        have e3i : ∀ {a b : E3}, e3 a = e3 b → a = b := fun {a b} h => by
          unfold e3 at h
          injection h with h1 h; injection h with h2 h; injection h with h3 h
          exact Prod.ext h1 (Prod.ext h2 h3)
        have hasc : Asc cd rs := by
          have s1 : (rs.map e3).Pairwise (fun x y => TS.code 64 x ≤ TS.code 64 y) := by
            rw [← hrs, List.pairwise_map]; exact srt
          have n1 : (rs.map e3).Nodup := by rw [← hrs]; exact nd
          rw [List.pairwise_map] at s1
          have n2 : rs.Pairwise (fun a b => e3 a ≠ e3 b) := List.pairwise_map.mp n1
          refine List.Pairwise.imp_of_mem (fun {a b} ha hb h => ?_) (s1.and n2)
          obtain ⟨h1, h2⟩ := h
          rw [code_e3, code_e3] at h1
          have h3 : cd a ≠ cd b := fun z => h2 (by rw [cd_inj (hsm _ (hin a ha)) (hsm _ (hin b hb)) z])
          omega
        have hall : ∀ x, x ∈ rs ↔ x ∈ ascBy cd es := fun x => by
          rw [mem_ascBy_iff fun x hx y hy e => cd_inj (hsm x hx) (hsm y hy) e]
          refine ⟨hin x, fun hx => ?_⟩
          obtain ⟨q, hq, e1⟩ := back x hx
          have h1 := hL2 q hq
          rw [e1] at h1
          have h2 : e3 x ∈ L'.map (·.2) := (pm.map (·.2)).mem_iff.mpr h1
          rw [hrs] at h2
          obtain ⟨y, hy, e2⟩ := List.mem_map.mp h2
          rw [← e3i e2]; exact hy
        have e : rs = ascBy cd es := asc_unique hasc (ascBy_asc _) hall
        subst e
        have k2 : Ex G2 (upd H2 a' (SetTO P w a' L)) := a2.o.trans (Ex.new ha')
        refine q _ (upd G2 p' (.lst (L'.map fun q => V.ref q.1))) _ ((a2.trans (Adv.lay a2.o ha')).trans (Adv.new k2 hp')) (.lst upd_same ?_)
        have hR : ∀ (L' : List (Addr × List Int)) (rs : List E3), (∀ q ∈ L', SqT K G2 q.1 (q.2.map V.int)) → L'.map (·.2) = rs.map e3 → RpAll K G2 (L'.map fun q => V.ref q.1) (rs.map eD) := by
          intro L'
          induction L' with
          | nil => intro rs _ h; cases rs with
            | nil => exact .nil
            | cons _ _ => cases h
          | cons q L' ih => intro rs hm h; cases rs with
            | nil => cases h
            | cons e rs =>
              rw [List.map_cons, List.map_cons] at h
              injection h with h1 h2
              have := hm q List.mem_cons_self
              rw [h1] at this
              exact .cons (.tup this (ints_rpa (e3 e))) (ih rs (fun q hq => hm q (List.mem_cons_of_mem _ hq)) h2)
        refine (hR L' _ (fun q hq => ?_) hrs).ex (Ex.new (fresh_back k2 hp'))
        obtain ⟨e, _, e1, e2⟩ := mem q (hL1 q (pm.mem_iff.mp hq))
        rw [e1]; exact e2
end
end Vf

set_option Elab.async false
set_option linter.all false
set_option maxRecDepth 100000
set_option maxHeartbeats 2000000
namespace Vf
open PySem PySem.Spec PyProof.Rows L2
open Evl hiding Ex Ex.refl Ex.trans Ex.new Ex.mut ex_rd ex_l ex_t fresh_back

/-! ### isinstance -/
def kd : PyData → String
  | .none => "NoneType"
  | .bool _ => "bool"
  | .int _ => "int"
  | .str _ => "str"
  | .list _ => "list"
  | .tuple _ => "tuple"
  | .dict _ => "dict"
def isK (a b : String) : Bool := a == b || (a == "bool" && b == "int")
theorem kit_all : ∀ a ∈ ["NoneType", "bool", "int", "str", "list", "tuple", "dict"], ∀ b ∈ ["bool", "int", "str", "list", "tuple", "dict"], kitB a b = some (isK a b) := by decide +kernel
section
variable {K : PySem.W.Frag} {σ : L2.St} {G H : Hp} {ta tb tc : TE} {d : PyData}
theorem rp_ty {v : V} : Rp K H v d → TyX K H v (.type (kd d)) := fun r => by
  cases r with
  | non => exact .base .non
  | bl b => exact .base (.bl b)
  | int b => exact .base (.int b)
  | str b => exact .base (.str b)
  | lst h _ => exact .base (.lst h)
  | tup h _ =>
    rcases h with (h | ⟨o, h⟩) | ⟨o, its, n, h, c, _⟩
    · exact .base (.tup h)
    · exact .fTuple h
    · exact .kTuple h c
theorem kd_mem (d : PyData) : kd d ∈ ["NoneType", "bool", "int", "str", "list", "tuple", "dict"] := by cases d <;> simp [kd]
theorem eva_isi {T : String} (ha : Eva K ta σ G H d) (hT : T ∈ ["bool", "int", "str", "list", "tuple", "dict"] := by decide) : Eva K (tCB (rIsi K) (tCons ta (tCons (tC (.ty T)) tNil))) σ G H (.bool (isK (kd d) T)) := fun G1 H1 a Q q =>
  ha G1 H1 a _ fun v G2 H2 a2 r => ⟨v, .ty T, _, _, _, rfl, .ty T, rp_ty (r.ex a2.o), kit_ty (kit_all _ (kd_mem d) T hT), q _ G2 H2 a2 (.bl _)⟩
theorem eva_isi2 {T U : String} (ha : Eva K ta σ G H d) (hT : T ∈ ["bool", "int", "str", "list", "tuple", "dict"] := by decide) (hU : U ∈ ["bool", "int", "str", "list", "tuple", "dict"] := by decide) :
    Eva K (tCB (rIsiT K) (tCons ta (tCons (tTup (tCons (tC (.ty T)) (tCons (tC (.ty U)) tNil))) tNil))) σ G H (.bool (isK (kd d) T || isK (kd d) U)) := fun G1 H1 a Q q =>
  ha G1 H1 a _ fun v G2 H2 a2 r => ⟨by show 2 ≤ sizeLine; decide, fun p hp => ⟨v, p, [.ty T, .ty U], _, _, _, rfl, upd_same, .cons (.ty T) (.cons (.ty U) .nil), rp_ty (r.ex (a2.o.trans (Ex.new hp))),
    kitAny_cons (kit_ty (kit_all _ (kd_mem d) T hT)) (fun e => kitAny_cons (r := isK (kd d) T || isK (kd d) U) (kit_ty (kit_all _ (kd_mem d) U hU)) (fun e2 => by rw [e, e2]; exact kitAny_nil) fun e2 => by rw [e2, Bool.or_true]) fun e => by rw [e]; rfl,
    q _ G2 _ (a2.trans (Adv.lay a2.o hp)) (.bl _)⟩⟩
end
end Vf

set_option Elab.async false
set_option linter.all false
set_option maxRecDepth 100000
set_option maxHeartbeats 2000000
namespace Vf
open PySem PySem.Spec PyProof.Rows L2
open Evl hiding Ex Ex.refl Ex.trans Ex.new Ex.mut ex_rd ex_l ex_t fresh_back
/-! ### the same ahead of more -/
section
variable {K : PySem.W.Frag} {σ : L2.St} {G H : Hp} {te ta tb tl : TE} {t c : TT} {d d1 d2 d3 : PyData} {D : Ends} {tz tu tw : TS} {g : TG} {wi : TI} {i j l : Nat} {p : Addr} {vs : List V}
theorem qt_asg (k : Ex G H) (h : Eva K te σ G H d) (c : ∀ v G1 H1, Adv G H G1 H1 → Rp K G1 v d → tz D (σ.set i (some v)) H1) : tSeq (tAsg te (gName i)) tz D σ H := st_asg (D := { D with nx := tz D }) k h c
theorem qt_asgN {P : Hp → HO → Prop} (k : Ex G H) (h : EvaN te σ G H P) (c : ∀ p o G1 H1, H p = none → Adv G H G1 H1 → Own G1 H1 p o → P G1 o → tz D (σ.set i (some (.ref p))) H1) : tSeq (tAsg te (gName i)) tz D σ H :=
  st_asgN (D := { D with nx := tz D }) k h c
theorem qt_asg2 (k : Ex G H) (h : Eva K te σ G H (.tuple [d1, d2])) (c : ∀ v1 v2 G1 H1, Adv G H G1 H1 → Rp K G1 v1 d1 → Rp K G1 v2 d2 → tz D ((σ.set i (some v1)).set j (some v2)) H1) :
    tSeq (tAsg te (gTup K 2 (gCons (gName i) (gCons (gName j) gNil)))) tz D σ H := st_asg2 (D := { D with nx := tz D }) k h c
theorem qt_asg3 (k : Ex G H) (h : Eva K te σ G H (.tuple [d1, d2, d3])) (c : ∀ v1 v2 v3 G1 H1, Adv G H G1 H1 → Rp K G1 v1 d1 → Rp K G1 v2 d2 → Rp K G1 v3 d3 → tz D (((σ.set i (some v1)).set j (some v2)).set l (some v3)) H1) :
    tSeq (tAsg te (gTup K 3 (gCons (gName i) (gCons (gName j) (gCons (gName l) gNil))))) tz D σ H := st_asg3 (D := { D with nx := tz D }) k h c
theorem qt_drop (k : Ex G H) (h : Eva K te σ G H d) (c : ∀ G1 H1, Adv G H G1 H1 → tz D σ H1) : tSeq (tDrop te) tz D σ H := st_drop (D := { D with nx := tz D }) k h c
theorem qt_if {b : Bool} (k : Ex G H) (h : EvaT t σ G H b) (h1 : b = true → ∀ G1 H1, Adv G H G1 H1 → tu { D with nx := tz D } σ H1) (h2 : b = false → ∀ G1 H1, Adv G H G1 H1 → tw { D with nx := tz D } σ H1) : tSeq (tIfS t tu tw) tz D σ H :=
  st_if (D := { D with nx := tz D }) k h h1 h2
/-- if without else, its body a return | not at all -/
theorem qt_when {b : Bool} (k : Ex G H) (h : EvaT t σ G H b) (h1 : b = true → ∀ G1 H1, Adv G H G1 H1 → tu { D with nx := tz D } σ H1) (h2 : b = false → ∀ G1 H1, Adv G H G1 H1 → tz D σ H1) : tSeq (tIfS t tu tNext) tz D σ H :=
  st_if (D := { D with nx := tz D }) k h h1 h2
theorem st_when {b : Bool} (k : Ex G H) (h : EvaT t σ G H b) (h1 : b = true → ∀ G1 H1, Adv G H G1 H1 → tu D σ H1) (h2 : b = false → ∀ G1 H1, Adv G H G1 H1 → D.nx σ H1) : tIfS t tu tNext D σ H := st_if k h h1 h2
theorem qt_unless {b : Bool} (k : Ex G H) (h : EvaT t σ G H b) (hb : b = false) (c : ∀ G1 H1, Adv G H G1 H1 → tz D σ H1) : tSeq (tIfS t tu tNext) tz D σ H := st_unless (D := { D with nx := tz D }) k h hb c
theorem qt_app (k : Ex G H) (ha : EvaV ta σ G H (.ref p)) (w : Own G H p (.lst vs)) (h : Eva K te σ G H d) (hz : vs.length < 100000)
    (c : ∀ v G1 H1, Adv G H G1 H1 → Rp K G1 v d → Ex G1 (upd H1 p (.lst (vs ++ [v]))) → tz D σ (upd H1 p (.lst (vs ++ [v])))) : tSeq (tDrop (tBM K "list" rAppend ta (tCons te tNil))) tz D σ H := st_app (D := { D with nx := tz D }) k ha w h hz c
theorem qt_setO {j : Nat} (k : Ex G H) (h : Eva K te σ G H d) (ha : EvaV ta σ G H (.ref p)) (hi : Eva K tb σ G H (.int j)) (w : Own G H p (.lst vs)) (hj : j < vs.length)
    (c : ∀ v G1 H1, Adv G H G1 H1 → Rp K G1 v d → Ex G1 (upd H1 p (.lst (vs.set j v))) → tz D σ (upd H1 p (.lst (vs.set j v)))) : tSeq (tAsg te (gSub ta tb rSetL)) tz D σ H := st_setO (D := { D with nx := tz D }) k h ha hi w hj c
theorem qt_for {α : Type} (xs : List α) (enc : α → PyData) (Pv : Hp → Nat → L2.St → Hp → Hp → Prop) (k : Ex G H) (S : Src K wi σ G H (xs.map enc)) (h0 : ∀ G1 H1, Adv G H G1 H1 → Pv G1 0 σ G1 H1)
    (hx : ∀ B i σ' G' H', Pv B i σ' G' H' → Ex B G' ∧ Ex G' H')
    (hs : ∀ B (i : Nat) x v σ' G' H' G'' H'', xs[i]? = some x → Pv B i σ' G' H' → Adv G' H' G'' H'' → Rp K G'' v (enc x) → Bd g σ' v H'' fun σ2 => tu { D with nx := fun σ H => ∃ G, Pv B (i + 1) σ G H, ct := fun σ H => ∃ G, Pv B (i + 1) σ G H, bk := tz D } σ2 H'')
    (hd : ∀ B σ' G' H', Pv B xs.length σ' G' H' → tz D σ' H') : tSeq (tFor wi g tu) tz D σ H := st_for (D := { D with nx := tz D }) xs enc Pv k S h0 hx hs hd
theorem qt_while (W : Nat → L2.St → Hp → Hp → Prop) (m0 : Nat) (h0 : W m0 σ G H)
    (hs : ∀ m σ' G' H', W m σ' G' H' → Ex G' H' ∧ ∃ b, EvaT c σ' G' H' b ∧
      (b = true → ∀ G1 H1, Adv G' H' G1 H1 → tu { D with nx := fun σ H => ∃ m' G, m' < m ∧ W m' σ G H, ct := fun σ H => ∃ m' G, m' < m ∧ W m' σ G H, bk := tz D } σ' H1) ∧ (b = false → ∀ G1 H1, Adv G' H' G1 H1 → tz D σ' H1)) : tSeq (tWhile c tu) tz D σ H :=
  st_while (D := { D with nx := tz D }) W m0 h0 hs
end
theorem eva_un {K : PySem.W.Frag} {σ : L2.St} {G H : Hp} {ta : TE} {f : Int → Int} {i : Int} (h : Eva K ta σ G H (.int i)) : Eva K (tUn (rU fun i => .int (f i)) ta) σ G H (.int (f i)) := fun G1 H1 a Q q => h G1 H1 a _ fun v G2 H2 a2 r => by
  cases rp_int r
  exact ⟨i, rfl, q _ G2 H2 a2 (.int _)⟩
section
variable {X : Cx} {K : PySem.W.Frag}
theorem ix_seqK (K : PySem.W.Frag) (h : X.K = K) : IxR X (rIx K) := h ▸ ix_seq
theorem op_eqK (K : PySem.W.Frag) (h : X.K = K) (hu : X.A.units + 64 < cLine) : OpR X (compareOp .Eq) (rEqD K) := h ▸ op_eqD hu
theorem op_neK (K : PySem.W.Frag) (h : X.K = K) (hu : X.A.units + 64 < cLine) : OpR X (compareOp .NotEq) (rNeD K) := h ▸ op_neD hu
theorem op_inK (K : PySem.W.Frag) (h : X.K = K) : OpR X (compareOp .In) (rIn K false) := h ▸ op_in_seq
theorem op_notInK (K : PySem.W.Frag) (h : X.K = K) : OpR X (compareOp .NotIn) (rIn K true) := h ▸ op_notIn_seq
theorem sl_listK (K : PySem.W.Frag) (h : X.K = K) : SlR X (rSlL K) := h ▸ sl_list
theorem call_lenK (K : PySem.W.Frag) (h : X.K = K) : CallR X (.builtin "len") (fun xs H Q => ∃ p ys, xs = [.ref p] ∧ (SqL K H p ys ∨ SqT K H p ys) ∧ Q (.int ys.length) H) := h ▸ call_len_seq
end
theorem rpa1 {K : PySem.W.Frag} {G : Hp} {vs : List V} {d1 : PyData} (h : RpAll K G vs [d1]) : ∃ v1, vs = [v1] ∧ Rp K G v1 d1 := by
  cases h with | cons h1 h => cases h; exact ⟨_, rfl, h1⟩
theorem rpa2 {K : PySem.W.Frag} {G : Hp} {vs : List V} {d1 d2 : PyData} (h : RpAll K G vs [d1, d2]) : ∃ v1 v2, vs = [v1, v2] ∧ Rp K G v1 d1 ∧ Rp K G v2 d2 := by
  cases h with | cons h1 h => cases h with | cons h2 h => cases h; exact ⟨_, _, rfl, h1, h2⟩
theorem rpa3 {K : PySem.W.Frag} {G : Hp} {vs : List V} {d1 d2 d3 : PyData} (h : RpAll K G vs [d1, d2, d3]) : ∃ v1 v2 v3, vs = [v1, v2, v3] ∧ Rp K G v1 d1 ∧ Rp K G v2 d2 ∧ Rp K G v3 d3 := by
  cases h with | cons h1 h => cases h with | cons h2 h => cases h with | cons h3 h => cases h; exact ⟨_, _, _, rfl, h1, h2, h3⟩
end Vf
namespace Vf
open PySem PySem.Spec PyProof.Rows L2
open Evl hiding Ex Ex.refl Ex.trans Ex.new Ex.mut ex_rd ex_l ex_t fresh_back
/-! ### loops over ranges; levels -/
theorem rng_map (lo : Int) (n : Nat) : rngD lo n = (List.range n).map fun i => .int (lo + (i : Nat)) := rfl
theorem range_get {n i j : Nat} (h : (List.range n)[i]? = some j) : j = i ∧ i < n := by
  have hi := (List.getElem?_eq_some_iff.mp h).1
  rw [List.length_range] at hi
  rw [List.getElem?_range hi] at h
  exact ⟨(Option.some.inj h).symm, hi⟩
theorem fn_false {P : Program} {w : World} {K : PySem.W.Frag} {mg : Str → Option Value} {base : Heap} {CX : CXT} {k : Nat} {f : Addr} {fd : FuncData} {ps : List Str} {sp : Sp} (h : ∀ vs H Q E, ¬ sp vs H Q E) : FnOk P w K mg base CX k f fd ps sp :=
  ⟨fun vs H Q E z => (h _ _ _ _ z).elim, fun _ _ _ _ _ _ _ _ _ _ _ _ _ z => (h _ _ _ _ z).elim⟩
end Vf

set_option Elab.async false
set_option linter.all false
set_option maxRecDepth 100000
set_option maxHeartbeats 2000000
namespace Vf
open PySem PySem.Spec PyProof.Rows L2
open Evl hiding Ex Ex.refl Ex.trans Ex.new Ex.mut ex_rd ex_l ex_t fresh_back

/-! ### the row that is drawn from -/
section
variable {K : PySem.W.Frag} {σ : L2.St} {G H G' H' : Hp} {ta tb te tl : TE} {tt : TT} {r p sc : Addr} {v : V} {d : PyData}
theorem evv_ixO {i : Int} {vs : List V} (ha : EvaV ta σ G H (.ref p)) (hb : Eva K tb σ G H (.int i)) (w : H p = some (.lst vs)) (e : atI vs i = some v) : EvaV (tOp (rIx K) ta tb) σ G H v := fun G1 H1 a Q q =>
  ha G1 H1 a _ fun G2 H2 a2 => hb G2 H2 (a.trans a2) _ fun x G3 H3 a3 h3 => by
    cases rp_int h3
    exact .inl ⟨p, vs, i, v, rfl, rfl, SqL.of (((a.trans a2).trans a3).h _ _ w), e, q G3 H3 (a2.trans a3)⟩
theorem eva_lenS {xs : List V} (ha : EvaV ta σ G H (.ref p)) (w : SqL K H p xs) : Eva K (tCB (fun xs H Q => ∃ p ys, xs = [.ref p] ∧ (SqL K H p ys ∨ SqT K H p ys) ∧ Q (.int ys.length) H) (tCons ta tNil)) σ G H (.int xs.length) := fun G1 H1 a Q q =>
  ha G1 H1 a _ fun G2 H2 a2 => ⟨p, xs, rfl, .inl (ex_l (a.trans a2).h w), q _ G2 H2 a2 (.int _)⟩
theorem eva_ixS {ns : List Int} {i n : Int} (ha : EvaV ta σ G H (.ref p)) (hb : Eva K tb σ G H (.int i)) (w : SqL K H p (ns.map V.int)) (e : atI ns i = some n) : Eva K (tOp (rIx K) ta tb) σ G H (.int n) := fun G1 H1 a Q q =>
  ha G1 H1 a _ fun G2 H2 a2 => hb G2 H2 (a.trans a2) _ fun x G3 H3 a3 h3 => by
    cases rp_int h3
    refine .inl ⟨p, _, i, .int n, rfl, rfl, ex_l ((a.trans a2).trans a3).h w, ?_, q _ G3 H3 (a2.trans a3) (.int _)⟩
    unfold atI at e ⊢
    rw [List.length_map]
    cases c : ixN ns.length i with
    | none => rw [c] at e; cases e
    | some j => rw [c] at e; show (ns.map V.int)[j]? = _; rw [List.getElem?_map, show ns[j]? = some n from e]; rfl
def rowV (sc : Addr) (a b c : Int) : List V := [.ref sc, .int a, .int b, .int c]
def RowI (K : PySem.W.Frag) (r : Addr) (G H : Hp) : Prop := ∃ (sc : Addr) (ns : List Int) (a b c : Int), Own G H r (.lst (rowV sc a b c)) ∧ SqL K G sc (ns.map V.int) ∧ 0 ≤ a
theorem RowI.adv (h : RowI K r G H) (a : Adv G H G' H') : RowI K r G' H' := by
  obtain ⟨sc, ns, x, y, z, w, s, h0⟩ := h
  exact ⟨sc, ns, x, y, z, w.adv a, ex_l a.g s, h0⟩
theorem RowI.advR {rs : List Addr} (h : RowI K r G H) (a : AdvR rs G H G' H') (n : r ∉ rs) : RowI K r G' H' := by
  obtain ⟨sc, ns, x, y, z, w, s, h0⟩ := h
  exact ⟨sc, ns, x, y, z, w.advR a n, ex_l a.g s, h0⟩
theorem RowI.ne {o : HO} (h : RowI K r G H) (w : Own G H p o) (hn : ∀ sc a b c, o ≠ .lst (rowV sc a b c)) : p ≠ r := fun e => by
  obtain ⟨sc, ns, x, y, z, w', s, h0⟩ := h
  rw [e] at w
  have := w.h.symm.trans w'.h
  exact hn _ _ _ _ (Option.some.inj this)
theorem RowI.live (h : RowI K r G H) : ∃ o, H r = some o := by obtain ⟨sc, ns, x, y, z, w, s, h0⟩ := h; exact ⟨_, w.h⟩
theorem AdvR.refl {rs : List Addr} (k : Ex G H) : AdvR rs G H G H := (Adv.refl k).toR
/-- a draw -/
def TakenSp (K : PySem.W.Frag) : Sp := fun vs H Q _ => ∃ G r many, Ex G H ∧ vs = [.ref r, .int many] ∧ RowI K r G H ∧ 0 < many ∧ many < 1073741824 ∧
  ∀ x G' H', 0 ≤ x → x < many → AdvR [r] G H G' H' → RowI K r G' H' → Q (.int x) H'
/-- an expression that may draw -/
def EvR (K : PySem.W.Frag) (r : Addr) (te : TE) (σ : L2.St) (G H : Hp) (D : PyData → Prop) : Prop := ∀ G1 H1, AdvR [r] G H G1 H1 → RowI K r G1 H1 → ∀ Q : VK, (∀ v d G2 H2, D d → AdvR [r] G1 H1 G2 H2 → RowI K r G2 H2 → Rp K G2 v d → Q v H2) → te σ H1 Q
def EvRA (K : PySem.W.Frag) (r : Addr) (ta : TA) (σ : L2.St) (G H : Hp) (D : List PyData → Prop) : Prop := ∀ G1 H1, AdvR [r] G H G1 H1 → RowI K r G1 H1 → ∀ Q : List V → Hp → Prop, (∀ vs ds G2 H2, D ds → AdvR [r] G1 H1 G2 H2 → RowI K r G2 H2 → RpAll K G2 vs ds → Q vs H2) → ta σ H1 Q
theorem evr_of (h : ∀ G1 H1, AdvR [r] G H G1 H1 → Eva K te σ G1 H1 d) : EvR K r te σ G H (fun x => x = d) := fun G1 H1 a w Q q =>
  h G1 H1 a G1 H1 (.refl a.o) _ fun v G2 H2 a2 rv => q v d G2 H2 rfl a2.toR (w.adv a2) rv
theorem evr_imp {D D' : PyData → Prop} (h : EvR K r te σ G H D) (f : ∀ d, D d → D' d) : EvR K r te σ G H D' := fun G1 H1 a w Q q => h G1 H1 a w Q fun v d G2 H2 hd => q v d G2 H2 (f d hd)
theorem evr_mono {D : PyData → Prop} (h : EvR K r te σ G H D) (b : AdvR [r] G H G' H') : EvR K r te σ G' H' D := fun G1 H1 a w Q q => h G1 H1 (b.trans a) w Q q
/-- _law_taken(row, e) -/
theorem evr_taken {many : Int} {E : XK} (hr : ∀ G1 H1, AdvR [r] G H G1 H1 → EvaV ta σ G1 H1 (.ref r)) (hm : ∀ G1 H1, AdvR [r] G H G1 H1 → Eva K tb σ G1 H1 (.int many)) (h0 : 0 < many) (h1 : many < 1073741824) :
    EvR K r (tCall (TakenSp K) [] E (tCons ta (tCons tb tNil))) σ G H (fun d => ∃ x, d = .int x ∧ 0 ≤ x ∧ x < many) := fun G1 H1 a w Q q =>
  hr G1 H1 a G1 H1 (.refl a.o) _ fun G2 H2 a2 => hm G2 H2 (a.trans a2.toR) G2 H2 a2.ok _ fun v G3 H3 a3 rv => by
    cases rp_int rv
    exact ⟨G3, r, many, a3.o, rfl, (w.adv a2).adv a3, h0, h1, fun x G4 H4 x0 x1 a4 w4 => q _ _ G4 H4 ⟨x, rfl, x0, x1⟩ ((a2.trans a3).toR.trans a4) w4 (.int x)⟩
theorem evr_op {g : Int → Int → Int} {A B : Int → Prop} (ha : EvR K r ta σ G H fun d => ∃ x, d = .int x ∧ A x) (hb : EvR K r tb σ G H fun d => ∃ x, d = .int x ∧ B x) :
    EvR K r (tOp (rI0 fun i j => .int (g i j)) ta tb) σ G H (fun d => ∃ x y, d = .int (g x y) ∧ A x ∧ B y) := fun G1 H1 a w Q q =>
  ha G1 H1 a w _ fun v d G2 H2 hd a2 w2 rv => hb G2 H2 (a.trans a2) w2 _ fun v' d' G3 H3 hd' a3 w3 rv' => by
    obtain ⟨x, rfl, hx⟩ := hd
    obtain ⟨y, rfl, hy⟩ := hd'
    cases rp_int rv
    cases rp_int rv'
    exact ⟨x, y, rfl, rfl, q _ _ G3 H3 ⟨x, y, rfl, hx, hy⟩ (a2.trans a3) w3 (.int _)⟩
theorem evrA_nil : EvRA K r tNil σ G H (fun ds => ds = []) := fun G1 H1 a w Q q => q [] [] G1 H1 rfl (.refl a.o) w .nil
theorem evrA_cons {tr : TA} {D : PyData → Prop} {Ds : List PyData → Prop} (h : EvR K r te σ G H D) (hr : EvRA K r tr σ G H Ds) : EvRA K r (tCons te tr) σ G H (fun ds => ∃ d es, ds = d :: es ∧ D d ∧ Ds es) := fun G1 H1 a w Q q =>
  h G1 H1 a w _ fun v d G2 H2 hd a2 w2 rv => hr G2 H2 (a.trans a2) w2 _ fun vs ds G3 H3 hds a3 w3 rvs => q _ _ G3 H3 ⟨d, ds, rfl, hd, hds⟩ (a2.trans a3) w3 (.cons (rv.ex a3.g) rvs)
theorem evr_tup {tA : TA} {Ds : List PyData → Prop} (h : EvRA K r tA σ G H Ds) (hl : ∀ ds, Ds ds → ds.length ≤ 100000) : EvR K r (tTup tA) σ G H (fun d => ∃ ds, d = .tuple ds ∧ Ds ds) := fun G1 H1 a w Q q =>
  h G1 H1 a w _ fun vs ds G2 H2 hd a2 w2 rv => ⟨sz_of (by rw [rpa_len rv]; exact hl ds hd), fun p hp => by
    have a3 : Adv G2 H2 (upd G2 p (.tup vs)) (upd H2 p (.tup vs)) := .new a2.o hp
    exact q _ _ _ _ ⟨ds, rfl, hd⟩ (a2.trans a3.toR) (w2.adv a3) (.tup (SqT.of upd_same) (rv.ex a3.g))⟩
/-- [f x for x in xs], f may draw -/
theorem evr_lc {wi : TI} {g : TG} {vs : List Nat} {α : Type} (xs : List α) (enc : α → PyData) (D : α → PyData → Prop) (S : ∀ G1 H1, AdvR [r] G H G1 H1 → Src K wi σ G1 H1 (xs.map enc)) (hz : xs.length ≤ 40000)
    (hb : ∀ (i : Nat) x v G' H', xs[i]? = some x → AdvR [r] G H G' H' → Rp K G' v (enc x) → Bd g (wipe σ vs) v H' fun σ2 => wipe σ2 vs = wipe σ vs ∧ EvR K r te σ2 G' H' (D x)) :
    EvR K r (tLc wi g tYes te vs) σ G H (fun d => ∃ ds : List PyData, d = .list ds ∧ ds.length = xs.length ∧ ∀ (i : Nat) x e, xs[i]? = some x → ds[i]? = some e → D x e) := fun G1 H1 a w Q q => S G1 H1 a G1 H1 (.refl a.o) _ fun J G2 H2 a2 wk Dl hD => by
  have nr : r ≠ Dl := by obtain ⟨o, e⟩ := (w.adv a2).live; exact ne_of_none e hD
  refine ⟨fun i m H' => m = xs.length - i ∧ i ≤ xs.length ∧ ∃ G' acc ds, AdvR [r] G2 H2 G' H' ∧ RowI K r G' H' ∧ Own G' H' Dl (.lst acc) ∧ RpAll K G' acc ds ∧ ds.length = i ∧ ∀ (j : Nat) x e, xs[j]? = some x → ds[j]? = some e → D x e,
    ⟨xs.length, rfl, Nat.zero_le _, G2, [], [], (Adv.lay a2.o hD).toR, (w.adv a2).adv (Adv.lay a2.o hD), ⟨upd_same, fresh_back a2.o hD, fun _ z => nomatch z⟩, .nil, rfl, fun j x e _ h => by simp at h⟩, ?_⟩
  rintro i m H' ⟨rfl, hi, G', acc, ds, a3, w3, ow, ra, hl, hds⟩
  obtain ⟨wk1, wk2, wk3⟩ := wk i G' H' a3.g a3.o
  rw [List.length_map] at wk1 wk2 wk3
  by_cases hlt : i < xs.length
  · refine .inr ⟨wk1 hlt, fun H' => ∃ G' acc ds, AdvR [r] G2 H2 G' H' ∧ RowI K r G' H' ∧ Own G' H' Dl (.lst acc) ∧ RpAll K G' acc ds ∧ ds.length = i + 1 ∧ ∀ (j : Nat) x e, xs[j]? = some x → ds[j]? = some e → D x e, fun H'' hN => ⟨xs.length - (i + 1), by omega, rfl, hlt, hN⟩, fun x H'' y => ?_⟩
    obtain ⟨d, G'', hd, a4, rx⟩ := wk3 x H'' y hlt
    rw [List.getElem?_map, List.getElem?_eq_getElem hlt] at hd
    cases hd
    have hxi : xs[i]? = some xs[i] := List.getElem?_eq_getElem hlt
    refine hb i xs[i] x G'' H'' hxi ((a.trans a2.toR).trans (a3.trans a4.toR)) rx _ fun σ2 hσ => ?_
    obtain ⟨hw, he⟩ := hσ
    refine ⟨hw, ?_⟩
    dsimp only [tYes]
    rw [if_pos rfl]
    refine he G'' H'' (.refl a4.o) (w3.adv a4) _ fun v d' G6 H6 hd' a6 w6 rv => ?_
    have ow6 := (ow.adv a4).advR a6 (by simp [Ne.symm nr])
    have hl6 := rpa_len ra
    have an : AdvR [r, Dl] G2 H2 G6 (upd H6 Dl (.lst (acc ++ [v]))) := (((a3.trans a4.toR).trans a6).wk (by simp)).trans ((ow6.chg a6.o).wk (by simp))
    have an' : AdvR [r] G2 H2 G6 (upd H6 Dl (.lst (acc ++ [v]))) := by
      have z : AdvR [Dl, r] G2 H2 G6 (upd H6 Dl (.lst (acc ++ [v]))) := an.wk (fun b hb => by simpa [or_comm] using hb)
      exact z.drop hD
    refine ⟨acc, ow6.h, sz_lt (by omega), G6, acc ++ [v], ds ++ [d'], an', w6.advR (ow6.chg a6.o) (by simp [nr]), ow6.put, rpa_app (ra.ex (a4.g.trans a6.g)) (.cons rv .nil), by rw [List.length_append, hl]; rfl, fun j x e h1 h2 => ?_⟩
    by_cases hj : j < ds.length
    · rw [List.getElem?_append_left hj] at h2; exact hds j x e h1 h2
    · rw [List.getElem?_append_right (by omega)] at h2
      have hj2 : j = i := by
        have := (List.getElem?_eq_some_iff.mp h2).1
        simp at this; omega
      subst hj2
      rw [hxi] at h1
      cases h1
      rw [show j - ds.length = 0 by omega] at h2
      cases h2
      exact hd'
  · have e : i = xs.length := by omega
    subst e
    refine .inl ⟨wk2 (Nat.le_refl _), ?_⟩
    have n2 : Dl ∉ [r] := by simp [Ne.symm nr]
    have af : AdvR [r] G2 H2 (upd G' Dl (.lst acc)) H' := by
      have z : AdvR [Dl, r] G2 H2 (upd G' Dl (.lst acc)) H' := (a3.wk (by simp)).trans ((ow.fix a3.o).wk (by simp))
      exact z.drop hD
    have wf : RowI K r (upd G' Dl (.lst acc)) H' := w3.advR (ow.fix a3.o) (by simp [nr])
    exact q _ _ (upd G' Dl (.lst acc)) H' ⟨ds, rfl, hl, hds⟩ (a2.toR.trans af) wf (.lst upd_same (ra.ex (Ex.new ow.g)))
/-! slices -/
def cutL {α : Type} (ds : List α) (lo hi : Option Int) : List α := (ds.drop (HT.sIx ds.length 0 lo)).take (HT.sIx ds.length ds.length hi - HT.sIx ds.length 0 lo)
theorem cutL_map {α β : Type} (f : α → β) (l : List α) (lo hi : Option Int) : cutL (l.map f) lo hi = (cutL l lo hi).map f := by
  unfold cutL; rw [List.length_map, List.map_take, List.map_drop]
theorem cutL_mem {α : Type} {l : List α} {lo hi : Option Int} {x : α} (h : x ∈ cutL l lo hi) : x ∈ l := List.mem_of_mem_drop (List.mem_of_mem_take h)
theorem cutL_len {α : Type} (l : List α) (lo hi : Option Int) : (cutL l lo hi).length ≤ l.length := by
  unfold cutL; rw [List.length_take, List.length_drop]; omega
theorem evo_none : EvaO tNoPart σ G H none := fun G1 H1 a Q q => q G1 H1 a.ok
theorem evo_some {i : Int} (h : Eva K te σ G H (.int i)) : EvaO (tPart te) σ G H (some i) := fun G1 H1 a Q q => h G1 H1 a _ fun v G2 H2 a2 r => by
  cases rp_int r
  exact ⟨i, rfl, q G2 H2 a2⟩
theorem evan_sl {tlo thi : TO} {lo hi : Option Int} {ds : List PyData} (h : Eva K te σ G H (.list ds)) (h1 : EvaO tlo σ G H lo) (h2 : EvaO thi σ G H hi) : EvaN (tSl (rSlL K) te tlo thi) σ G H (isL K (cutL ds lo hi)) := fun G1 H1 a Q q =>
  h G1 H1 a _ fun v G2 H2 a2 r => h1 G2 H2 (a.trans a2) _ fun G3 H3 a3 => h2 G3 H3 ((a.trans a2).trans a3) _ fun G4 H4 a4 => by
    cases r with
    | @lst p xs _ hs hr =>
      refine ⟨p, xs, rfl, SqL.of (((a3.trans a4).g.trans a4.o) _ _ hs), fun l hl => q l _ G4 _ (((a2.trans a3).trans a4).free hl) (((a2.trans a3).trans a4).trans (Adv.lay a4.o hl)) ⟨upd_same, fresh_back a4.o hl, fun _ z => nomatch z⟩ ⟨_, rfl, ?_⟩⟩
      unfold cutV cutL
      rw [rpa_len hr]
      exact rpa_take _ (rpa_drop _ (hr.ex (a3.trans a4).g))
/-! statements that draw -/
variable {D : Ends} {tz tu tw tb : TS} {g : TG}
theorem st_asgR {i : Nat} {A : PyData → Prop} (k : Ex G H) (w : RowI K r G H) (h : EvR K r te σ G H A) (c : ∀ v d G1 H1, A d → AdvR [r] G H G1 H1 → RowI K r G1 H1 → Rp K G1 v d → D.nx (σ.set i (some v)) H1) : tAsg te (gName i) D σ H :=
  h G H (.refl k) w _ fun v d G1 H1 hd a w' rv => c v d G1 H1 hd a w' rv
theorem qt_asgR {i : Nat} {A : PyData → Prop} (k : Ex G H) (w : RowI K r G H) (h : EvR K r te σ G H A) (c : ∀ v d G1 H1, A d → AdvR [r] G H G1 H1 → RowI K r G1 H1 → Rp K G1 v d → tz D (σ.set i (some v)) H1) : tSeq (tAsg te (gName i)) tz D σ H :=
  st_asgR (D := { D with nx := tz D }) k w h c
theorem evr_cat {ds : List PyData} {A : PyData → Prop} {n : Nat} (ha : ∀ G1 H1, AdvR [r] G H G1 H1 → Eva K ta σ G1 H1 (.list ds)) (hb : EvR K r te σ G H fun d => ∃ es, d = .list es ∧ es.length ≤ n ∧ A d) (hz : ds.length + n ≤ 100000) :
    EvR K r (tOp rCat ta te) σ G H (fun d => ∃ es, d = .list (ds ++ es) ∧ A (.list es)) := fun G1 H1 a w Q q =>
  ha G1 H1 a G1 H1 (.refl a.o) _ fun v G2 H2 a2 r2 => hb G2 H2 (a.trans a2.toR) (w.adv a2) _ fun v' d' G3 H3 hd' a3 w3 r3 => by
    obtain ⟨es, rfl, hl, hA⟩ := hd'
    cases r2 with
    | @lst p1 xs _ hs hr =>
      cases r3 with
      | @lst p2 ys _ hs' hr' =>
        refine ⟨_, _, _, _, rfl, rfl, a3.o _ _ (a3.g _ _ hs), a3.o _ _ hs', sz_of (by rw [rpa_len hr, rpa_len hr']; omega), fun l hl => ?_⟩
        have a4 := Adv.new (o := .lst (xs ++ ys)) a3.o hl
        exact q _ _ _ _ ⟨es, rfl, hA⟩ ((a2.toR.trans a3).trans a4.toR) (w3.adv a4) (.lst upd_same ((rpa_app (hr.ex a3.g) hr').ex a4.g))
/-- a, b, c = e1, e2, []: the list one's own -/
theorem qt_rowstart {i j l : Nat} {A B : PyData → Prop} (k : Ex G H) (w : RowI K r G H) (ha : EvR K r ta σ G H A) (hb : EvR K r te σ G H B)
    (c : ∀ v1 d1 v2 d2 p G1 H1, A d1 → B d2 → AdvR [r] G H G1 H1 → RowI K r G1 H1 → Rp K G1 v1 d1 → Rp K G1 v2 d2 → H p = none → p ≠ r → Own G1 H1 p (.lst []) → tz D (((σ.set i (some v1)).set j (some v2)).set l (some (.ref p))) H1) :
    tSeq (tAsg (tTup (tCons ta (tCons te (tCons (tLst tNil) tNil)))) (gTup K 3 (gCons (gName i) (gCons (gName j) (gCons (gName l) gNil))))) tz D σ H :=
  ha G H (.refl k) w _ fun v1 d1 G1 H1 h1 a1 w1 r1 => hb G1 H1 a1 w1 _ fun v2 d2 G2 H2 h2 a2 w2 r2 => ⟨Nat.zero_le _, fun p hp => ⟨by show 3 ≤ sizeLine; decide, fun t ht => by
    have a3 : Adv G2 H2 G2 (upd H2 p (.lst [])) := .lay a2.o hp
    have a4 : Adv G2 (upd H2 p (.lst [])) (upd G2 t (.tup [v1, v2, .ref p])) (upd (upd H2 p (.lst [])) t (.tup [v1, v2, .ref p])) := .new a3.o ht
    have w3 := w2.adv a3
    have pr : p ≠ r := by
      obtain ⟨o, e⟩ := w2.live
      exact fun z => by rw [z, e] at hp; cases hp
    have op : Own G2 (upd H2 p (.lst [])) p (.lst []) := ⟨upd_same, fresh_back a2.o hp, fun _ z => nomatch z⟩
    refine ⟨t, _, rfl, SqT.of upd_same, rfl, _, _, rfl, _, _, rfl, _, _, rfl, rfl, ?_⟩
    exact c v1 d1 v2 d2 p _ _ h1 h2 ((a1.trans a2).trans (a3.trans a4).toR) (w3.adv a4) (r1.ex (a2.g.trans (a3.trans a4).g)) (r2.ex (a3.trans a4).g) ((a1.trans a2).free hp (by simpa using pr)) pr (op.adv a4)⟩⟩
/-- for k in range(e), e drawn -/
theorem st_forRow {N : Int} (hN : N ≤ 1000000) (k : Ex G H) (w : RowI K r G H) (hn : EvR K r te σ G H fun d => ∃ x, d = .int x ∧ 0 ≤ x ∧ x < N) (Pv : Nat → Nat → L2.St → Hp → Hp → Prop)
    (h0 : ∀ (n : Nat) G1 H1, (n : Int) < N → AdvR [r] G H G1 H1 → RowI K r G1 H1 → Pv n 0 σ G1 H1) (hx : ∀ n i σ' G' H', Pv n i σ' G' H' → Ex G' H')
    (hs : ∀ n i σ' G' H', i < n → Pv n i σ' G' H' → Bd g σ' (.int (i : Nat)) H' fun σ2 => tb { D with nx := fun σ H => ∃ G, Pv n (i + 1) σ G H, ct := fun σ H => ∃ G, Pv n (i + 1) σ G H, bk := D.nx } σ2 H')
    (hd : ∀ n σ' G' H', Pv n n σ' G' H' → D.nx σ' H') : tFor (iRng1 (tCons te tNil)) g tb D σ H := hn G H (.refl k) w _ fun v d G1 H1 hd' a1 w1 rv => by
  obtain ⟨x, rfl, x0, x1⟩ := hd'
  cases rp_int rv
  refine ⟨x, rfl, by omega, by omega, fun i m σ' H' => m = x.toNat - i ∧ i ≤ x.toNat ∧ ∃ G', Pv x.toNat i σ' G' H', ⟨x.toNat, rfl, Nat.zero_le _, G1, h0 _ G1 H1 (by omega) a1 w1⟩, ?_⟩
  rintro i m σ' H' ⟨rfl, hi, G', p⟩
  by_cases hlt : i < x.toNat
  · refine .inr ⟨hlt, fun σ H => ∃ G, Pv x.toNat (i + 1) σ G H, fun σ'' H'' hN => ⟨x.toNat - (i + 1), by omega, rfl, hlt, hN⟩, fun z H'' y => ?_⟩
    obtain ⟨rfl, rfl⟩ := y
    rw [Int.zero_add]
    exact hs _ i σ' G' H'' hlt p _ fun σ2 q => q
  · have e : i = x.toNat := by omega
    subst e
    exact .inl ⟨Nat.le_refl _, hd _ _ _ _ p⟩
theorem qt_forRow {N : Int} (hN : N ≤ 1000000) (k : Ex G H) (w : RowI K r G H) (hn : EvR K r te σ G H fun d => ∃ x, d = .int x ∧ 0 ≤ x ∧ x < N) (Pv : Nat → Nat → L2.St → Hp → Hp → Prop)
    (h0 : ∀ (n : Nat) G1 H1, (n : Int) < N → AdvR [r] G H G1 H1 → RowI K r G1 H1 → Pv n 0 σ G1 H1) (hx : ∀ n i σ' G' H', Pv n i σ' G' H' → Ex G' H')
    (hs : ∀ n i σ' G' H', i < n → Pv n i σ' G' H' → Bd g σ' (.int (i : Nat)) H' fun σ2 => tb { D with nx := fun σ H => ∃ G, Pv n (i + 1) σ G H, ct := fun σ H => ∃ G, Pv n (i + 1) σ G H, bk := tz D } σ2 H')
    (hd : ∀ n σ' G' H', Pv n n σ' G' H' → tz D σ' H') : tSeq (tFor (iRng1 (tCons te tNil)) g tb) tz D σ H := st_forRow (D := { D with nx := tz D }) hN k w hn Pv h0 hx hs hd
/-- xs.append(e), e drawn -/
theorem st_appR {vs : List V} {i : Nat} {A : PyData → Prop} (k : Ex G H) (w : RowI K r G H) (hi : σ[i]? = some (some (.ref p))) (ow : Own G H p (.lst vs)) (n : p ≠ r) (h : EvR K r te σ G H A) (hz : vs.length < 100000)
    (c : ∀ v d G1 H1, A d → AdvR [r, p] G H G1 H1 → RowI K r G1 H1 → Own G1 H1 p (.lst (vs ++ [v])) → Rp K G1 v d → D.nx σ H1) : tDrop (tBM K "list" rAppend (tVar i) (tCons te tNil)) D σ H :=
  ⟨_, hi, .inl ⟨rfl, vs, SqL.of ow.h⟩, h G H (.refl k) w _ fun v d G1 H1 hd a1 w1 rv => by
    have o1 := ow.advR a1 (by simpa using n)
    exact ⟨p, vs, v, rfl, rfl, o1.h, sz_lt hz, c v d G1 _ hd ((a1.wk (by simp)).trans ((o1.chg a1.o).wk (by simp))) (w1.advR (o1.chg a1.o) (by simpa using Ne.symm n)) o1.put rv⟩⟩
/-- an if whose ways meet -/
theorem ct_when {t : TT} {b : Bool} (Iv : L2.St → Hp → Hp → Prop) (k : Ex G H) (h : EvaT t σ G H b) (h1 : b = true → ∀ G1 H1, Adv G H G1 H1 → tu { D with nx := fun σ H => ∃ G, Iv σ G H } σ H1) (h2 : b = false → ∀ G1 H1, Adv G H G1 H1 → Iv σ G1 H1)
    (rest : ∀ σ' G' H', Iv σ' G' H' → tz D σ' H') : tCut (tIfS t tu tNext) tz D σ H :=
  ⟨fun σ H => ∃ G, Iv σ G H, st_if (D := { D with nx := fun σ H => ∃ G, Iv σ G H }) k h h1 (fun hb G1 H1 a => ⟨G1, h2 hb G1 H1 a⟩), fun σ' H' ⟨G', i⟩ => rest σ' G' H' i⟩
end
end Vf
namespace Vf
open PySem PySem.Spec PyProof.Rows L2
open Evl hiding Ex Ex.refl Ex.trans Ex.new Ex.mut ex_rd ex_l ex_t fresh_back
section
variable {K : PySem.W.Frag} {σ : L2.St} {G H G' H' : Hp} {ta tb te tl : TE} {p : Addr} {d : PyData}
theorem depthAll_le {n : Nat} : ∀ {ds : List PyData}, (∀ d ∈ ds, PyData.depth d ≤ n) → PyData.depthAll ds ≤ n
  | [], _ => Nat.zero_le _
  | d :: ds, h => by
    unfold PyData.depthAll
    exact Nat.max_le.mpr ⟨h d List.mem_cons_self, depthAll_le fun x hx => h x (List.mem_cons_of_mem _ hx)⟩
theorem canLayAll {ds : List PyData} (h : ∀ d ∈ ds, PyData.canLay0 d = true) : PyData.canLayAll0 ds = true := by
  induction ds with
  | nil => rfl
  | cons d ds ih =>
    unfold PyData.canLayAll0
    rw [h d List.mem_cons_self, ih fun x hx => h x (List.mem_cons_of_mem _ hx)]
    rfl
/-- shaped, of depth n at most -/
def Sh (n : Nat) (d : PyData) : Prop := PyData.canLay0 d = true ∧ PyData.depth d ≤ n
theorem Sh.int (i : Int) : Sh 0 (.int i) := ⟨rfl, Nat.le_refl _⟩
theorem Sh.bool (i : Bool) : Sh 0 (.bool i) := ⟨rfl, Nat.le_refl _⟩
theorem Sh.none : Sh 0 .none := ⟨rfl, Nat.le_refl _⟩
theorem Sh.list {n : Nat} {ds : List PyData} (h : ∀ d ∈ ds, Sh n d) : Sh (n + 1) (.list ds) := by
  refine ⟨?_, ?_⟩
  · unfold PyData.canLay0; exact canLayAll fun d hd => (h d hd).1
  · unfold PyData.depth; exact Nat.succ_le_succ (depthAll_le fun d hd => (h d hd).2)
theorem Sh.tuple {n : Nat} {ds : List PyData} (h : ∀ d ∈ ds, Sh n d) : Sh (n + 1) (.tuple ds) := by
  refine ⟨?_, ?_⟩
  · unfold PyData.canLay0; exact canLayAll fun d hd => (h d hd).1
  · unfold PyData.depth; exact Nat.succ_le_succ (depthAll_le fun d hd => (h d hd).2)
theorem Sh.ok {n : Nat} {d : PyData} (h : Sh n d) (hn : n ≤ 64 := by decide) : SeqAt.shaped d = true := by
  unfold SeqAt.shaped
  rw [h.1, decide_eq_true (Nat.le_trans h.2 hn)]; rfl
theorem Sh.edge (e : E3) : Sh 1 (eD e) := Sh.tuple fun d hd => by
  simp only [List.mem_cons, List.not_mem_nil, or_false] at hd
  rcases hd with rfl | rfl | rfl <;> exact Sh.int _
theorem Sh.es (es : List E3) : Sh 2 (.list (es.map eD)) := Sh.list fun d hd => by
  obtain ⟨e, _, rfl⟩ := List.mem_map.mp hd; exact Sh.edge e
theorem eqv_nil {ds : List PyData} : PyData.eqv (.list ds) (.list []) = ds.isEmpty := by
  cases ds with
  | nil => rfl
  | cons d ds => rw [PyData.eqv]; rfl
theorem empty_filter {α : Type} {l : List α} {q : α → Bool} : (l.filter q).isEmpty = !l.any q := by
  induction l with
  | nil => rfl
  | cons x l ih =>
    rw [List.filter_cons, List.any_cons]
    cases h : q x with
    | true => rw [if_pos rfl]; rfl
    | false => rw [if_neg Bool.false_ne_true, ih, Bool.false_or]
/-- xs.index(i) -/
theorem eva_index {ns : List Int} {i : Int} (ha : Eva K ta σ G H (.list (ns.map .int))) (hb : Eva K tb σ G H (.int i)) (hi : i ∈ ns) : Eva K (tBM K "list" (rIndex K) ta (tCons tb tNil)) σ G H (.int (ns.idxOf i : Nat)) := fun G1 H1 a Q q =>
  ha G1 H1 a _ fun v G2 H2 a2 r => by
    cases r with
    | @lst p xs _ hs hr =>
      cases rpa_ints hr
      refine ⟨.inl ⟨rfl, _, SqL.of (a2.o _ _ hs)⟩, hb G2 H2 (a.trans a2) _ fun v' G3 H3 a3 r' => ?_⟩
      cases rp_int r'
      have hl := List.idxOf_lt_length_iff.mpr hi
      have hg : ns[ns.idxOf i]? = some i := by rw [List.getElem?_eq_getElem hl]; exact congrArg some (List.getElem_idxOf hl)
      refine ⟨p, ns.map .int, .int i, ns.idxOf i, .int i, rfl, rfl, SqL.of (a3.o _ _ (a3.g _ _ hs)), rfl, flat_ints ns, by rw [List.getElem?_map, hg]; rfl, beq_self_eq_true i, fun m z' hm hz => ?_, q _ G3 H3 (a2.trans a3) (.int _)⟩
      rw [List.getElem?_map] at hz
      cases hn : ns[m]? with
      | none => rw [hn] at hz; cases hz
      | some n =>
        rw [hn] at hz; cases hz
        show (n == i) = false
        rw [beq_eq_false_iff_ne]
        intro e
        have h1 : m < ns.length := (List.getElem?_eq_some_iff.mp hn).1
        have h2 : ns[m] = i := by rw [← e]; exact (List.getElem?_eq_some_iff.mp hn).2
        have h3 := List.not_of_lt_findIdx (p := (· == i)) (xs := ns) (i := m) hm
        simp [h2] at h3
theorem cutL_one {α : Type} (l : List α) : cutL l none (some 1) = l.take 1 := by
  unfold cutL
  rw [show HT.sIx l.length l.length (some 1) = min 1 l.length from HT.sIx_nat l.length l.length 1, HT.sIx_none]
  rw [List.drop_zero, Nat.sub_zero]
  cases l with
  | nil => rfl
  | cons x r => rw [show min 1 (x :: r).length = 1 by rw [List.length_cons]; omega]
end
end Vf
namespace Vf
open PySem PySem.Spec PyProof.Rows L2
open Evl hiding Ex Ex.refl Ex.trans Ex.new Ex.mut ex_rd ex_l ex_t fresh_back
/-- xs.index(e), wherever it stands -/
theorem pe_index {X : Cx} (K : PySem.W.Frag) (hK : X.K = K) {o e : Expr} {to te : TE} {apos cpos : Pos} (ho : PE X o to) (he : PE X e te) (hb : attributeBase o "index" X.env (eval o X.env) = eval o X.env := by rfl)
    (h1 : ((backTo cpos (starEach [e] X.env)).all (fun x => !x.1) && (backToKw cpos (keywordEach [] X.env)).all (fun x => x.1.isSome) && decide (([e] : List Expr).length + ([] : List Keyword).length + (if ([] : List Keyword).isEmpty then 0 else 1) < 30)) = true := by rfl)
    (h2 : (apos.endLine == cpos.line) = true := by rfl) (h3 : starEach [e] X.env = (false, eval e X.env) :: starEach [] X.env := by rfl) (h4 : (backTo cpos (starEach [] X.env)).any (·.1) = false := by rfl) :
    PE X (.Call (.Attribute o "index" apos) [e] [] cpos) (tBM K "list" (rIndex K) to (tCons te tNil)) := by
  subst hK
  exact pe_bm PySem.F.plainAttrs_list PySem.F.slot_list_index PySem.F.type_list_index mt_index ho (pa_cons he pa_nil (hs := h3)) hb h1 h2 h3 h4
end Vf

set_option Elab.async false
set_option linter.all false
set_option maxRecDepth 100000
set_option maxHeartbeats 2000000
namespace Qe
open PySem PySem.Spec PyProof.Rows L2
/-! ### expressions that leave all that stands -/
structure QC where
  prog : Program
  w : World
  K : PySem.W.Frag
  mg : Str → Option Value
  base : Heap
  A : Around
  env : Env
  lk : Str → Option Value
  St : Heap → Prop
structure QC.Ok (n : Nat) (C : QC) : Prop where
  hd : C.A.handled = none
  dp : C.A.depth + n < recursionLimit
  kind : C.env.scope.kind = .function
  glob : C.env.globals = mainGlobals
  blt : C.env.builtins = builtinsNs
  mod : Mod C.K C.mg C.base
  st : ∀ h h' : Heap, C.St h → (∀ b o, h.get? b = some o → h'.get? b = some o) → C.St h'
  bs : ∀ h, C.St h → ∀ b o, C.base.get? b = some o → h.get? b = some o
  nm : ∀ h x v, C.St h → C.lk x = some v → (C.env.kindOf x = some .local ∧ ∃ m, h.Ns C.env.locals m ∧ m x = some v) ∨ (C.env.kindOf x = some .free ∧ ∃ c, C.env.cells.lookup x = some c ∧ h.IsCell c (some v))
theorem kp_refl (s : Shared) : Keeps s s := GxR.keeps_refl s
theorem kp_tok (s : Shared) (k : Nat) : Keeps s { s with toks := k } := GxR.keeps_tok s k
theorem kp_trans {s s1 s2 : Shared} (a : Keeps s s1) (b : Keeps s1 s2) : Keeps s s2 := by
  obtain ⟨h1, t1, rfl, k1⟩ := a
  obtain ⟨h2, t2, rfl, k2⟩ := b
  exact ⟨h2, t2, rfl, fun b o e => k2 b o (k1 b o e)⟩
theorem kp_heap {s s1 : Shared} (a : Keeps s s1) : ∀ b o, s.heap.get? b = some o → s1.heap.get? b = some o := by
  obtain ⟨h1, t1, rfl, k1⟩ := a
  exact k1
def IsI (i : Int) (v : Value) : Prop := ∃ t, v = .int i t
def IsV (v u : Value) : Prop := u = v
def QE (C : QC) (e : Expr) (V : Value → Prop) : Prop := ∀ (s : Shared) (Q E : Value → Shared → Prop), C.St s.heap → (∀ y s', V y → Keeps s s' → Q y s') → wpAny (model C.prog C.w) C.A (eval e C.env) Q E s
section
variable {dn : Nat} {C : QC} {a b e : Expr} {es : List Expr} {pos p : Pos} {i j : Int} {V W : Value → Prop} {x : Str} {v : Value}
theorem QE.imp (h : QE C e V) (f : ∀ v, V v → W v) : QE C e W := fun s Q E hs q => h s Q E hs fun y s' hy => q y s' (f y hy)
theorem St_kp (ok : C.Ok dn) {s s' : Shared} (hs : C.St s.heap) (k : Keeps s s') : C.St s'.heap := ok.st _ _ hs (kp_heap k)
theorem qe_name (ok : C.Ok dn) (h : C.lk x = some v) (hd : (x == ("__debug__" : Str)) = false := by decide) (hn : (x == ("__classdict__" : Str)) = false := by decide) : QE C (.Name x p) (IsV v) := fun s Q E hs q => by
  rcases ok.nm _ _ _ hs h with ⟨hk, m, hn, hm⟩ | ⟨hk, c, hc, hv⟩
  · exact wpAny_Name (wpAny_loadName_local ok.kind hk hn hm (q v s rfl (kp_refl s))) hd
  · exact wpAny_Name (wpAny_loadName_free ok.kind hk hc hv (q v s rfl (kp_refl s)) hn) hd
theorem qe_nameI {t : Tok} (ok : C.Ok dn) (h : C.lk x = some (.int i t)) (hd : (x == ("__debug__" : Str)) = false := by decide) (hn : (x == ("__classdict__" : Str)) = false := by decide) : QE C (.Name x p) (IsI i) :=
  (qe_name ok h hd hn).imp fun _ e => ⟨t, e⟩
theorem qe_int {k : Nat} : QE C (.Constant (.int i) k p) (IsI i) := fun s Q E hs q => wpAny_Constant_int (q _ _ ⟨_, rfl⟩ (kp_tok _ _))
theorem qe_glob (ok : C.Ok dn) (hg : C.env.kindOf x = some .globalImplicit) (hm : C.mg x = some v) (hd : (x == ("__debug__" : Str)) = false := by decide) : QE C (.Name x p) (IsV v) := fun s Q E hs q =>
  Calls.Name_function_global ok.kind hg (Calls.loadGlobal_global (by rw [ok.glob]; exact ok.mod.glob.keeps (ok.bs _ hs)) hm (q v s rfl (kp_refl s))) hd
theorem qe_blt (ok : C.Ok dn) (hg : C.env.kindOf x = some .globalImplicit) (hm : C.mg x = none) (hv : bootBuiltins x = some v) (hn : x ≠ "__name__" := by decide) (hd : (x == ("__debug__" : Str)) = false := by decide) : QE C (.Name x p) (IsV v) := fun s Q E hs q => by
  obtain ⟨mb, h1, h2⟩ := ok.mod.blt
  exact Calls.Name_function_global ok.kind hg (Calls.loadGlobal_builtin (by rw [ok.glob]; exact ok.mod.glob.keeps (ok.bs _ hs)) hm (by rw [ok.blt]; exact h1.keeps (ok.bs _ hs)) ((h2 x hn).trans hv) (q v s rfl (kp_refl s))) hd
/-- two ints, an int -/
theorem qe_bin {op : Operator} {k : Int} (ok : C.Ok dn) (ha : QE C a (IsI i)) (hb : QE C b (IsI j))
    (rule : ∀ (t u : Tok) (s : Shared) (Q E : Value → Shared → Prop), Q (.int k s.toks) { s with toks := s.toks + 1 } → wpAny (model C.prog C.w) C.A (binaryOp op (.int i t) (.int j u)) Q E s) : QE C (.BinOp a op b pos) (IsI k) := fun s Q E hs q => by
  refine wpAny_BinOp (ha s _ E hs fun y s1 ⟨t, hy⟩ k1 => hb s1 _ E (St_kp ok hs k1) fun z s2 ⟨u, hz⟩ k2 => ?_)
  subst hy hz
  exact rule t u s2 Q E (q _ _ ⟨_, rfl⟩ (kp_trans (kp_trans k1 k2) (kp_tok _ _)))
theorem qe_sub (ok : C.Ok dn) (ha : QE C a (IsI i)) (hb : QE C b (IsI j)) : QE C (.BinOp a .Sub b pos) (IsI (i - j)) := qe_bin ok ha hb fun _ _ _ _ _ q => PySem.P.sub_int q
theorem qe_add (ok : C.Ok dn) (ha : QE C a (IsI i)) (hb : QE C b (IsI j)) : QE C (.BinOp a .Add b pos) (IsI (i + j)) := qe_bin ok ha hb fun _ _ _ _ _ q => PySem.P.add_int q
theorem qe_mul (ok : C.Ok dn) (ha : QE C a (IsI i)) (hb : QE C b (IsI j)) (hm : IntMulOk i j) : QE C (.BinOp a .Mult b pos) (IsI (i * j)) := qe_bin ok ha hb fun _ _ _ _ _ q => PySem.P.mul_int q hm
/-- two ints, a bool -/
theorem qe_cmp {op : CmpOp} {c : Bool} (ok : C.Ok dn) (ha : QE C a (IsI i)) (hb : QE C b (IsI j))
    (rule : ∀ (t u : Tok) (s : Shared) (Q E : Value → Shared → Prop), Q (.bool c) s → wpAny (model C.prog C.w) C.A (compareOp op (.int i t) (.int j u)) Q E s) (hm : behindInMarks op b = false) : QE C (.Compare a [op] [b] pos) (IsV (.bool c)) := fun s Q E hs q => by
  refine wpAny_Compare1 (ha s _ E hs fun y s1 ⟨t, hy⟩ k1 => hb s1 _ E (St_kp ok hs k1) fun z s2 ⟨u, hz⟩ k2 => ?_) hm
  subst hy hz
  exact rule t u s2 Q E (q _ _ rfl (kp_trans k1 k2))
/-- lo <= x <= hi -/
theorem qe_between {l m n : Int} {ea eb ec : Expr} (ok : C.Ok dn) (ha : QE C ea (IsI l)) (hb : QE C eb (IsI m)) (hc : QE C ec (IsI n)) (hm : lastMarks [CmpOp.LtE, CmpOp.LtE] [eb, ec] = false) :
    QE C (.Compare ea [.LtE, .LtE] [eb, ec] pos) (IsV (.bool (decide (l ≤ m) && decide (m ≤ n)))) := fun s Q E hs q => by
  refine Compare_chain (ha s _ E hs fun y s1 ⟨t, hy⟩ k1 => chain_link (hb s1 _ E (St_kp ok hs k1) fun z s2 ⟨u, hz⟩ k2 => ?_)) hm
  subst hy hz
  refine PySem.P.le_int (wpAny_truthy_bool ?_)
  have k12 := kp_trans k1 k2
  by_cases h : l ≤ m
  · rw [decide_eq_true h]
    refine ite_tt (chain_last (hc s2 _ E (St_kp ok hs k12) fun y3 s3 ⟨t3, h3⟩ k3 => ?_))
    subst h3
    refine PySem.P.le_int (q _ _ ?_ (kp_trans k12 k3))
    rw [decide_eq_true h]; rfl
  · rw [decide_eq_false h]
    refine ite_ff (q _ _ ?_ k12)
    rw [decide_eq_false h]; rfl
theorem qe_and {c d : Bool} (ok : C.Ok dn) (ha : QE C a (IsV (.bool c))) (hb : c = true → QE C (.BoolOp .And (b :: es) pos) (IsV (.bool d))) : QE C (.BoolOp .And (a :: b :: es) pos) (IsV (.bool (c && d))) := fun s Q E hs q => by
  refine BoolOp_and (ha s _ E hs fun y s1 hy k1 => ?_)
  cases (show y = _ from hy)
  refine wpAny_truthy_bool ?_
  cases c with
  | false => exact q _ _ rfl k1
  | true => exact hb rfl s1 _ E (St_kp ok hs k1) fun z s2 hz k2 => q z s2 hz (kp_trans k1 k2)
theorem qe_one {op : BoolOp} (h : QE C a V) : QE C (.BoolOp op [a] pos) V := fun s Q E hs q => BoolOp_one (h s Q E hs q)
theorem qe_not {c : Bool} (ha : QE C a (IsV (.bool c))) : QE C (.UnaryOp .Not a pos) (IsV (.bool (!c))) := fun s Q E hs q => by
  refine UnaryOp_ (ha s _ E hs fun y s1 hy k1 => ?_)
  cases (show y = _ from hy)
  exact not_of (wpAny_truthy_bool (q _ _ rfl k1))
inductive All2 : List Value → List (Value → Prop) → Prop
  | nil : All2 [] []
  | cons {v : Value} {vs : List Value} {W : Value → Prop} {Ws : List (Value → Prop)} : W v → All2 vs Ws → All2 (v :: vs) (W :: Ws)
def QA (C : QC) (es : List Expr) (Vs : List (Value → Prop)) : Prop := ∀ (pos : Pos) (s : Shared) (Q : List Value → Shared → Prop) (E : Value → Shared → Prop), C.St s.heap → (∀ vs s', All2 vs Vs → Keeps s s' → Q vs s') → wpAny (model C.prog C.w) C.A (spliced (backTo pos (starEach es C.env))) Q E s
theorem qa_nil : QA C [] [] := fun pos s Q E hs q => Calls.spliced_nil (q [] s .nil (kp_refl s))
theorem qa_cons {Vs : List (Value → Prop)} (ok : C.Ok dn) (ha : QE C e V) (hr : QA C es Vs) (he : starEach (e :: es) C.env = (false, eval e C.env) :: starEach es C.env := by rfl) : QA C (e :: es) (V :: Vs) := fun pos s Q E hs q => by
  rw [he]
  show wpAny _ _ (spliced ((false, eval e C.env) :: backTo pos (starEach es C.env))) _ _ s
  exact Calls.spliced_cons (ha s _ E hs fun y s1 hy k1 => hr pos s1 _ E (St_kp ok hs k1) fun vs s2 hv k2 => q _ s2 (.cons hy hv) (kp_trans k1 k2))
/-- isinstance(e, T) of an int -/
theorem qe_isi {T : String} {nm y : Str} {d : Bool} {p1 p2 : Pos} (ok : C.Ok dn) (hg : C.env.kindOf nm = some .globalImplicit) (hm : C.mg nm = none) (hv : bootBuiltins nm = some (.builtin "isinstance")) (ha : QE C a (IsI i))
    (hgT : C.env.kindOf y = some .globalImplicit) (hmT : C.mg y = none) (hvT : bootBuiltins y = some (.type T)) (hk : PySem.W.kitOne C.K (.type "int") (.type T) = some d)
    (he : starEach [a, .Name y p2] C.env = (false, eval a C.env) :: starEach [.Name y p2] C.env := by rfl) (hpl : (backTo pos (starEach [.Name y p2] C.env)).any (·.1) = false := by rfl)
    (hn : nm ≠ "__name__" := by decide) (hd : (nm == ("__debug__" : Str)) = false := by decide) (hnT : y ≠ "__name__" := by decide) (hdT : (y == ("__debug__" : Str)) = false := by decide) :
    QE C (.Call (.Name nm p1) [a, .Name y p2] [] pos) (IsV (.bool d)) := fun s Q E hs q => by
  refine wpAny_Call_Name_kw (qe_blt ok hg hm hv hn hd s _ E hs fun f s1 hf k1 => ?_)
  cases (show f = _ from hf)
  have hs1 := St_kp ok hs k1
  refine PyProof.Rows.callWith_builtin1 (qa_cons ok ha (qa_cons ok (qe_blt ok hgT hmT hvT hnT hdT) qa_nil) he pos s1 _ E hs1 fun vs s2 hv2 k2 => ?_) he hpl
  cases hv2 with
  | cons h1 h2 => cases h2 with
    | cons h3 h4 => cases h4; obtain ⟨t, h1⟩ := h1; cases (show _ = _ from h3); subst h1; exact PySem.W.kia_one PySem.W.kitx_int (ok.mod.kin.keeps (ok.bs _ (St_kp ok hs1 k2))) True.intro hk (fun z => nomatch z) fun tk => q _ _ rfl (kp_trans (kp_trans k1 k2) (kp_tok _ _))
/-- the call of a def whose body is one return -/
theorem qe_call {f : Addr} {fd : FuncData} {st : Stmt} {qual : Str} {N ps : List Str} {Vs : List (Value → Prop)} {r : Expr} {rp : Pos} {p1 : Pos} (ok : C.Ok (dn + 1)) (hg : C.env.kindOf x = some .globalImplicit) (hm : C.mg x = some (.ref f))
    (F : Fun C.K x qual st f fd) (S : FnScope N ps (defScope st)) (hb : Binds C.K fd ps []) (hloc : ∀ p ∈ ps, (defScope st).names.lookup p = some .local) (hbody : defBody st = [.Return (some r) rp])
    (ha : QA C (e :: es) Vs) (hl : Vs.length = ps.length)
    (h : ∀ (C' : QC) (us : List Value), C'.Ok dn → C'.env.scope = defScope st → C'.K = C.K → C'.mg = C.mg → All2 us Vs → (∀ (i : Nat) p v, ps[i]? = some p → us[i]? = some v → C'.lk p = some v) → QE C' r V)
    (he : starEach (e :: es) C.env = (false, eval e C.env) :: starEach es C.env := by rfl) (hpl : (backTo pos (starEach es C.env)).any (·.1) = false := by rfl)
    (hd : (x == ("__debug__" : Str)) = false := by decide) : QE C (.Call (.Name x p1) (e :: es) [] pos) V := fun s Q E hs q => by
  obtain ⟨⟨oc, od, kV, doc, pm, an, cdv, ct, osl, rfl, lk, hcd⟩, kp⟩ := F
  refine wpAny_Call_Name_kw (qe_glob ok hg hm hd s _ E hs fun g s0 hf k0 => ?_)
  cases (show g = _ from hf)
  have hs0 := St_kp ok hs k0
  refine PySem.W.callWith_K (h₀ := C.base) ok.mod.kin kp (ha pos s0 _ E hs0 fun us s1 hu k1 => ?_) he hpl
  have hs1 := St_kp ok hs0 k1
  have KX : C.K.In s1.heap := ok.mod.kin.keeps (ok.bs _ hs1)
  have hul : us.length = ps.length := by
    rw [← hl]
    clear h q hs hs0 hs1 k0 k1 ha he hpl hl KX
    induction hu with
    | nil => rfl
    | cons _ _ ih => simp [ih]
  have lim : s1.heap.NoLimit := ok.mod.nolimit.keeps (ok.bs _ hs1)
  have hkind : ∀ y ∈ ps.zip us, (defScope st).names.lookup y.1 = some .local ∨ ((defScope st).names.lookup y.1 = some .cell ∧ ((cellsFrom (s1.heap.objs.size + 1) (defScope st).names []).lookup y.1).isSome = true) := fun ⟨n, v⟩ hy => .inl (hloc n (List.of_mem_zip hy).1)
  refine ⟨KX, ?_⟩
  rw [List.nil_append]
  have hbb := hb s1 us KX (by rw [List.append_nil]; exact hul)
  rw [List.append_nil] at hbb
  refine wpAny_call (codeAny_call_function (by have := ok.dp; omega) (KX _ _ lk) rfl S.co S.gen rfl (PySem.W.codeRec_of KX hcd) (hbb _ _ _ _ ?_))
  refine wpAny_newFunctionEnv_cells S.kind hkind fun env hen s2 xx => ?_
  refine ⟨lim.keeps xx.toInCall.keep, codeAny_func ?_⟩
  have esc : env.scope = defScope st := by rw [hen]; rfl
  have k2 : Keeps s1 s2 := by
    obtain ⟨hh, tk, rfl⟩ := xx.toInCall.same
    exact ⟨hh, tk, rfl, xx.toInCall.keep⟩
  have hs2 := St_kp ok hs1 k2
  show wpAny _ _ (execs (defBody st) env) _ _ s2
  rw [hbody]
  refine wpAny_execs_cons (wpAny_Return_some ?_)
  refine h ⟨C.prog, C.w, C.K, C.mg, C.base, C.A.deeper env, env, fun p => if p ∈ ps then bindL env.kindOf (ps.zip us) (fun _ => none) p else none, fun hh => C.St hh ∧ hh.Ns env.locals (bindL env.kindOf (ps.zip us) fun _ => none)⟩ us ⟨ok.hd, ?_, ?_, ?_, ?_, ok.mod, ?_, ?_, ?_⟩ esc rfl rfl hu ?_ s2 _ _ ⟨hs2, xx.toInCall.ns⟩ ?_
  · show C.A.depth + 1 + dn < recursionLimit
    have := ok.dp; omega
  · rw [esc]; exact S.kind
  · rw [hen]; rfl
  · rw [hen]; rfl
  · exact fun a b hh k => ⟨ok.st _ _ hh.1 k, hh.2.keeps k⟩
  · exact fun a hh => ok.bs _ hh.1
  · intro a y v hh hy
    by_cases hp : y ∈ ps
    · simp only [if_pos hp] at hy
      exact .inl ⟨by show env.scope.names.lookup y = _; rw [esc]; exact hloc y hp, _, hh.2, hy⟩
    · simp only [if_neg hp] at hy; cases hy
  · intro i p v hp hv
    simp only [if_pos (List.mem_of_getElem? hp)]
    exact bindL_get (by rw [← S.pre]; exact S.nd.sublist (List.take_sublist _ _)) hp hv (by show env.scope.names.lookup p = _; rw [esc]; exact hloc p (List.mem_of_getElem? hp))
  · intro y s3 hy k3
    exact q y s3 hy (kp_trans (kp_trans k0 k1) (kp_trans k2 k3))
end
end Qe

set_option Elab.async false
set_option linter.all false
set_option maxRecDepth 100000
set_option maxHeartbeats 4000000
namespace Qe
open PySem PySem.Spec PyProof.Rows L2 GxR
/-- what a generator expression walks -/
def GSrc (X : Cx) (P : Addr) (s1 : Shared) (xv : Value) (n : Nat) (Pv : Nat → Value → Prop) : Prop :=
  ∀ Q : Value → Shared → Prop, (∀ (o : Obj) (fp : List Addr) (St : Nat → Heap → Prop), (∀ A' : Around, A'.handled = none → Walks X.prog X.w A' s1.heap.objs.size fp [s1.heap.objs.size] n Pv St) →
    (∀ b ∈ fp, b ≠ P ∧ b ≤ s1.heap.objs.size) → St 0 (s1.heap.push o) → Q (.ref s1.heap.objs.size) { s1 with heap := s1.heap.push o }) → wpAny (model X.prog X.w) X.A (pyIter xv) Q X.xe s1
/-- its element, item by item: in every state behind s1 -/
structure EltG (X : Cx) (P : Addr) (s1 : Shared) (scope : Scope) (x : Str) (ifs : List Expr) (elt : Expr) (fv : Str → Option Value) (Pv : Nat → Value → Prop) (pz : Nat → Bool) (F : Nat → Value → Prop) : Prop where
  fr : ∀ y u, fv y = some u → scope.names.lookup y = some .free ∧ ∃ c, X.env.cells.lookup y = some c ∧ s1.heap.IsCell c (some u)
  run : ∀ (C : QC) (i : Nat) (v : Value), C.Ok 3 → C.prog = X.prog → C.w = X.w → C.K = X.K → C.mg = X.mg → C.env.scope = scope → Pv i v → C.lk x = some v → (∀ y u, fv y = some u → C.lk y = some u) →
    (∀ h : Heap, C.St h → ∀ b o, b ≠ P → s1.heap.get? b = some o → h.get? b = some o) →
    (∀ (s : Shared) (Q : Bool → Shared → Prop) (E : Value → Shared → Prop), C.St s.heap → (∀ s', Keeps s s' → Q (pz i) s') →
      wpAny (model C.prog C.w) C.A (forIn ifs true fun c r => if r = true then do let ok ← isTrue c C.env (eval c C.env); pure (ForInStep.yield ok) else pure (ForInStep.yield r)) Q E s) ∧
    (pz i = true → QE C elt (F i))
/-- the generator g, ready to be walked, in the state s5; H1: what was held before -/
def Ready (X : Cx) (pins : List (Addr × Obj)) (σ : L2.St) (H1 : Hp) (P : Addr) (n : Nat) (pz : Nat → Bool) (F : Nat → Value → Prop) (g : Addr) (s5 : Shared) : Prop :=
  ∃ (fp wr : List Addr) (G : Array GenState → Array GenState → Prop) (St : Nat → Shared → Prop),
    WalksS X.prog X.w X.A.in1 g fp wr G (passing pz n 0).length (fun j y => ∃ i, (passing pz n 0)[j]? = some i ∧ F i y) St ∧ St 0 s5 ∧ (∀ b ∈ fp, b < s5.heap.objs.size) ∧
    ∀ s', Moved wr G s5 s' → ∃ H2, Tabbed P H1 H2 ∧ Inv X pins σ H2 s'
theorem lookup_mem {α β : Type} [BEq α] [LawfulBEq α] : ∀ {l : List (α × β)} {y : α} {v : β}, l.lookup y = some v → (y, v) ∈ l
  | (a, b) :: l, y, v, h => by
    rw [List.lookup_cons] at h
    by_cases e : y == a
    · simp only [e] at h
      cases h
      rw [eq_of_beq e]
      exact List.mem_cons_self
    · simp only [e] at h
      exact List.mem_cons_of_mem _ (lookup_mem h)
/-! ### once the iterator lies in the heap and the table of codes has been asked -/
structure Mid (base h1 : Heap) (P : Addr) (old : Array Value) (it : Obj) (h : Heap) : Prop where
  kp : Heap.ExtBut P (h1.push it) h
  sz : h1.objs.size < h.objs.size
  tb : ∃ more, TriplesOk (old ++ more).toList ∧ h.get? P = some { cls := .none, data := .fields (old ++ more) }
section
variable {X : Cx} {pins : List (Addr × Obj)} {σ : L2.St} {H : Hp} {s : Shared} {c P : Addr} {old : Array Value} {it : Obj} {h : Heap}
theorem Mid.at (m : Mid X.base s.heap P old it h) {b : Addr} {u : Obj} (hb : b ≠ P) (e : s.heap.get? b = some u) : h.get? b = some u := m.kp b u hb (Heap.get?_push_of_some it e)
theorem tab_obj (I : Inv X pins σ H s) (hP : H P = some (.tbl old)) : s.heap.get? P = some { cls := .none, data := .fields old } := I.hok P _ hP
theorem not_tab (I : Inv X pins σ H s) (hP : H P = some (.tbl old)) {b : Addr} {o : Obj} (e : s.heap.get? b = some o) (n : ∀ vs, o.data ≠ .fields vs) : b ≠ P := fun z => by
  have q := tab_obj I hP
  rw [← z, e] at q
  exact n old (congrArg Obj.data (Option.some.inj q))
theorem statics_ne (I : Inv X pins σ H s) (hP : H P = some (.tbl old)) : cStatics ≠ P := by
  obtain ⟨m, ⟨o, es, ep, ho, hd, _⟩, _⟩ := I.nolimit
  exact not_tab I hP ho fun vs z => by rw [hd] at z; cases z
/-- the code object of the expression is found in the table, or made and put there -/
theorem mid_code {scope : Scope} {q : Str} {gpos : Pos} {E : Value → Shared → Prop} (I : Inv X pins σ H s) (hP : H P = some (.tbl old)) (ht : TriplesOk old.toList) (TB : TabB X.base X.mg c P) (hc : X.env.code = .ref c) :
    wpAny (model X.prog X.w) X.A (genexprCode X.env gpos q scope) (fun _ s3 => ∃ h k, s3 = { s with heap := h, toks := k } ∧ Mid X.base s.heap P old it h) E { s with heap := s.heap.push it } := by
  have here := Heap.get?_push_of_some it (tab_obj I hP)
  have head : PySem.W.CodeHd (s.heap.push it) c P := TB.code.keeps fun b u e => Heap.get?_push_of_some it (I.bk b u e)
  have one : (s.heap.push it).objs.size = s.heap.objs.size + 1 := Heap.size_push ..
  cases known : codeAmong gpos old.toList with
  | some v => exact wpAny_genexprCode_hit hc (head.code here ht) known ⟨_, s.toks, rfl, .refl _ _, by omega, #[], by simpa using ht, by simpa using here⟩
  | none =>
    refine wpAny_genexprCodeX hc (head.code here ht) (head.tab here) known fun v h' k grown low up new _ tabs _ => ⟨h', k, rfl, grown, Nat.lt_of_lt_of_le (by show s.heap.objs.size < (s.heap.push it).objs.size; omega) (Nat.le_trans low (Nat.le_of_lt up)), _, ?_, tabs.2⟩
    obtain ⟨_, _, _, _, _, _, _, _, _, _, _, _, _, _, _, _, _, _, _, good, _⟩ := new
    exact good
theorem mid_builtins {E : Value → Shared → Prop} {k : Nat} (I : Inv X pins σ H s) (TB : TabB X.base X.mg c P) (m : Mid X.base s.heap P old it h) :
    wpAny (model X.prog X.w) X.A (builtinsFor X.env.globals X.env.builtins) (fun bi s4 => bi = builtinsNs ∧ s4 = { s with heap := h, toks := k }) E { s with heap := h, toks := k } := by
  obtain ⟨bm, ob, z1, z2, z3, z4, z5, z6, z7, z8⟩ := TB.bm
  have names : h.Ns X.env.globals X.mg := by
    rw [I.ok.glob]
    exact ((I.mod.glob.keeps I.bk).push it).extBut m.kp TB.gP
  exact wpAny_builtinsFor names z1 z2 (m.at z4 (I.bk _ _ z5)) z6 z7 z8 ⟨rfl, rfl⟩
/-- the element, as the library's rule asks for it -/
theorem mid_quiet {scope : Scope} {x : Str} {ifs : List Expr} {elt : Expr} {fv : Str → Option Value} {Pv : Nat → Value → Prop} {pz : Nat → Bool} {F : Nat → Value → Prop} {k : Nat} {code : Value} {href : Heap}
    (hr : Room k X.A) (I : Inv X pins σ H s) (hP : H P = some (.tbl old)) (S : GenS X.env scope x) (hE : EltG X P s scope x ifs elt fv Pv pz F) (m : Mid X.base s.heap P old it h) (hk : ∀ b o, h.get? b = some o → href.get? b = some o) :
    QuietGenD X.prog X.w (genEnv scope (cloFrom X.env.cells scope.names []) h.objs.size code builtinsNs X.env) x ifs elt (List.range h.objs.size) [s.heap.objs.size] Pv pz F href (X.A.depth + 1) (X.A.units + 8) := by
  have free : ∀ {b o}, X.base.get? b = some o → b ≠ P := fun {b o} e z => by
    have := (I.bs b o e).2
    rw [z, hP] at this
    cases this
  have ctx : ∀ (A' : Around) (v : Value) (s2 : Shared) (m2 : Str → Option Value), A'.handled = none → A'.depth ≤ X.A.depth + 1 → s2.heap.Ns h.objs.size m2 → m2 x = some v → (∀ b ∈ List.range h.objs.size, b ∉ [s.heap.objs.size] → ∀ o, href.get? b = some o → s2.heap.get? b = some o) →
      let C : QC := ⟨X.prog, X.w, X.K, X.mg, X.base, A', genEnv scope (cloFrom X.env.cells scope.names []) h.objs.size code builtinsNs X.env, fun y => if y = x then some v else fv y, fun g => (∀ b o, b ≠ P → s.heap.get? b = some o → g.get? b = some o) ∧ g.Ns h.objs.size m2⟩
      C.St s2.heap ∧ C.Ok 3 ∧ ∀ y u, fv y = some u → C.lk y = some u := fun A' v s2 m2 hA hD hn hm hold => by
    refine ⟨⟨fun b o hb e => ?_, hn⟩, ⟨hA, ?_, S.kind, I.ok.glob, rfl, I.mod, fun g g' st up => ⟨fun b o hb e => up b o (st.1 b o hb e), st.2.keeps up⟩, fun g st b o e => st.1 b o (free e) (I.bk b o e), fun g y u st hy => ?_⟩, fun y u hy => ?_⟩
    · have low := Heap.lt_size e
      exact hold b (List.mem_range.mpr (Nat.lt_trans low m.sz)) (fun z => Nat.ne_of_lt low (List.mem_singleton.mp z)) o (hk b o (m.at hb e))
    · have := hr.dp
      show A'.depth + 3 < recursionLimit
      omega
    · by_cases same : y = x
      · rw [same] at hy ⊢
        simp only [if_pos] at hy
        cases hy
        exact .inl ⟨S.loc, m2, st.2, hm⟩
      · simp only [if_neg same] at hy
        obtain ⟨isf, cc, hcc, o, ho, hd⟩ := hE.fr y u hy
        exact .inr ⟨isf, cc, NdefX.clo_has S.free (lookup_mem isf) hcc, o, st.1 cc o (not_tab I hP ho fun vs z => by rw [hd] at z; cases z) ho, hd⟩
    · have other : y ≠ x := fun same => by
        have := (hE.fr y u hy).1
        rw [same, S.loc] at this
        cases this
      simp only [if_neg other]
      exact hy
  exact ⟨fun A' E' i v s2 m2 hA hD _ hv hn hm hold => by
      obtain ⟨c1, c2, c3⟩ := ctx A' v s2 m2 hA hD hn hm hold
      exact (hE.run _ i v c2 rfl rfl rfl rfl rfl hv (if_pos rfl) c3 fun g st => st.1).1 s2 (fun ok s3 => ok = pz i ∧ Keeps s2 s3) E' c1 fun s3 kk => ⟨rfl, kk⟩,
    fun A' E' i v s2 m2 hA hD _ hv hp hn hm hold => by
      obtain ⟨c1, c2, c3⟩ := ctx A' v s2 m2 hA hD hn hm hold
      exact (hE.run _ i v c2 rfl rfl rfl rfl rfl hv (if_pos rfl) c3 fun g st => st.1).2 hp s2 (fun y s3 => F i y ∧ Keeps s2 s3) E' c1 fun y s3 hy kk => ⟨hy, kk⟩⟩
/-- what walking the generator leaves -/
theorem mid_end {s5 s' : Shared} {G : Array GenState → Array GenState → Prop} (I : Inv X pins σ H s) (hP : H P = some (.tbl old)) (m : Mid X.base s.heap P old it h) (h5 : ∀ b o, h.get? b = some o → s5.heap.get? b = some o) (hos : s5.os = s.os)
    (hm : Moved [h.objs.size, s.heap.objs.size] G s5 s') (hg : AllBare s'.gens) : ∃ H2, Tabbed P H H2 ∧ Inv X pins σ H2 s' := by
  obtain ⟨more, good, tab⟩ := m.tb
  have away : ∀ {b u}, s.heap.get? b = some u → b ∉ [h.objs.size, s.heap.objs.size] := fun {b u} e hb => by
    have low := Heap.lt_size e
    have up := m.sz
    simp only [List.mem_cons, List.not_mem_nil, or_false] at hb
    rcases hb with z | z
    · rw [z] at low; exact Nat.lt_irrefl _ (Nat.lt_trans low up)
    · rw [z] at low; exact Nat.lt_irrefl _ low
  have J := inv_tab (s := s) (more := more) (h' := s'.heap) (g' := s'.gens) (d' := s'.drawn) (t' := s'.toks) I hP (fun b u hb e => hm.heap b u (away e) (h5 b u (m.at hb e))) (hm.heap P _ (away (tab_obj I hP)) (h5 P _ tab)) hg
  rw [sh_eta s s' (hm.os.trans hos)] at J
  exact ⟨_, ⟨⟨_, upd_same, good⟩, fun b hb => upd_ne hb⟩, J⟩
end
section
variable {X : Cx} {pins : List (Addr × Obj)} {σ : L2.St} {H : Hp} {s : Shared}
theorem gen_q {c P : Addr} {elt iter : Expr} {ifs : List Expr} {x : Str} {px gpos : Pos} {scope : Scope} {te : TE} {k : Nat} {Q' : Value → Shared → Prop} {R : V → Hp → Prop}
    (hr : Room k X.A) (TB : TabB X.base X.mg c P) (hcode : X.env.code = .ref c) (S : GenS X.env scope x) (hi : PE X iter te)
    (hs : ∀ v, genFold iter X.env v = pure v) (I : Inv X pins σ H s) (h : te σ H fun v H1 => TabG H1 P ∧ R v H1)
    (hsrc : ∀ v H1 s1 xv, R v H1 → RelV v xv → Inv X pins σ H1 s1 → ∃ n Pv fv pz F, GSrc X P s1 xv n Pv ∧ EltG X P s1 scope x ifs elt fv Pv pz F ∧ ∀ g s5, Ready X pins σ H1 P n pz F g s5 → Q' (.ref g) s5) :
    wpAny (model X.prog X.w) X.A (eval (.GeneratorExp elt [⟨.Name x px, iter, ifs, 0⟩] scope gpos) X.env) Q' X.xe s := by
  have deep : X.A.depth < recursionLimit := by have := hr.dp; omega
  refine wpAny_GeneratorExp_walksQD hr.hd S.co (closure_ok S.free) S.cell S.dot S.loc S.kind deep (wpAny_mono (hi.run pins s σ H _ I h) (fun xv s1 hx => ?_) fun _ _ z => z) hs
  obtain ⟨v, H1, I1, rv, ⟨old, hP, good⟩, hR⟩ := hx
  obtain ⟨n, Pv, fv, pz, F, source, elem, after⟩ := hsrc v H1 s1 xv hR rv I1
  refine source _ fun it fp St W hfp hst => ⟨I1.nolimit.push it, wpAny_mono (mid_code (it := it) I1 hP good TB hcode) (fun code s3 h3 => ?_) fun _ _ z => z⟩
  obtain ⟨hh, tk, rfl, m⟩ := h3
  refine wpAny_mono (mid_builtins I1 TB m) (fun bi s4 h4 => ?_) fun _ _ z => z
  obtain ⟨rfl, rfl⟩ := h4
  have low : cStatics < s1.heap.objs.size := by
    obtain ⟨_, ns, _⟩ := I1.nolimit
    exact ns.lt
  refine ⟨_, fp, _, n, Pv, St, pz, F, rfl, W, (W X.A hr.hd).frame _ _ _ hst fun b hb u e => m.kp b u (hfp b hb).1 e, fun b hb => Nat.lt_of_le_of_lt (hfp b hb).2 m.sz, (I1.nolimit.push it).extBut m.kp (statics_ne I1 hP),
    fun z => Nat.ne_of_lt low (List.mem_singleton.mp z), fun href keep => mid_quiet hr I1 hP S elem m keep, fun g h5 tk5 gs bare above size keep W5 start => after g _ ?_⟩
  refine ⟨_, _, _, _, W5.in4_1, start, fun b hb => ?_, fun s' moved => mid_end I1 hP m (s5 := { s1 with heap := h5, gens := s1.gens.push gs, toks := tk5 }) keep rfl moved (AllBare.movedS (I1.bare.push bare) moved)⟩
  show b < h5.objs.size
  rw [size]
  simp only [List.mem_cons, List.mem_range] at hb
  rcases hb with z | z | z
  · rw [z]; exact Nat.lt_succ_self g
  · rw [z]; exact Nat.lt_succ_of_lt above
  · exact Nat.lt_succ_of_lt (Nat.lt_trans z above)
end
end Qe

set_option Elab.async false
set_option linter.all false
set_option maxRecDepth 100000
set_option maxHeartbeats 4000000
namespace Qe
open PySem PySem.Spec PyProof.Rows L2 GxR
/-- what a walked value holds -/
def SeqV (K : PySem.W.Frag) (H : Hp) (v : V) (vs : List V) : Prop := ∃ a, v = .ref a ∧ (SqL K H a vs ∨ SqT K H a vs ∨ ∃ (lo : Int), vs = (List.range vs.length).map (fun i => V.int (lo + (i : Nat))) ∧ vs.length ≤ 100000 ∧ -1000000 ≤ lo ∧ lo ≤ 1000000 ∧ H a = some (.rng lo (lo + (vs.length : Nat))))
def PvOf (vs : List V) (i : Nat) (u : Value) : Prop := ∃ x, vs[i]? = some x ∧ RelV x u
section
variable {X : Cx} {pins : List (Addr × Obj)} {σ : L2.St} {H : Hp} {s : Shared}
theorem vals_at {vs : List V} {its : List Value} (r : Vals vs its) {i : Nat} {u : Value} (h : its.toArray[i]? = some u) : PvOf vs i u := by
  have hv2 : its[i]? = some u := by simpa using h
  have hi2 : i < its.length := (List.getElem?_eq_some_iff.mp hv2).1
  have hlen := r.length
  obtain ⟨x, hx⟩ : ∃ x, vs[i]? = some x := ⟨vs[i]'(by omega), List.getElem?_eq_getElem _⟩
  obtain ⟨u', hu, ru⟩ := r.get hx
  rw [hv2] at hu
  cases hu
  exact ⟨x, hx, ru⟩
theorem walks_imp {prog : Program} {w : World} {A : Around} {I : Addr} {fp wr : List Addr} {n : Nat} {P P' : Nat → Value → Prop} {St : Nat → Heap → Prop} (W : Walks prog w A I fp wr n P St) (h : ∀ i v, i < n → P i v → P' i v) : Walks prog w A I fp wr n P' St where
  sub := W.sub
  frame := W.frame
  item := fun i s Q E hi hst k => W.item i s Q E hi hst fun v s' tk hP => k v s' tk (h i v hi hP)
  done := W.done
  self := W.self
theorem src_of {P : Addr} {ps : Array Value} {v : V} {xv : Value} {vs : List V} (I : Inv X pins σ H s) (hP : H P = some (.tbl ps)) (r : RelV v xv) (h : SeqV X.K H v vs) : GSrc X P s xv vs.length (PvOf vs) := by
  obtain ⟨a, rfl, h⟩ := h
  obtain rfl : xv = Value.ref a := r
  have hPs : s.heap.get? P = some { cls := .none, data := .fields ps } := I.hok P _ hP
  have hPlt : P < s.heap.objs.size := Heap.lt_size hPs
  rcases h with h | h | ⟨lo, hvs, hl, h1, h2, h⟩
  · obtain ⟨its, rv, hl, hz⟩ := I.list h
    have hIL := hl.isList
    have hlen : its.toArray.size = vs.length := by rw [List.size_toArray, rv.length]
    have halt : a < s.heap.objs.size := by
      obtain ⟨_, e, _⟩ := _root_.id hIL
      exact Heap.lt_size e
    have haP : a ≠ P := fun z => by
      obtain ⟨_, e, hc1, _, hd1⟩ := _root_.id hIL
      rw [z, hPs] at e
      cases e
      cases hd1
    refine fun Q q => wpAny_pyIter_list hIL ?_
    generalize ho : ({ cls := .type "list_iterator", data := .fields #[.ref a, .int 0 0] } : Obj) = o
    refine q o [s.heap.objs.size, a] (fun i h => h.IsListIter s.heap.objs.size a i ∧ h.IsList a its.toArray) (fun A' hA => by rw [← hlen]; exact walks_imp (Walks.list hA _ _ (Nat.ne_of_lt halt) _) fun i u _ hu => vals_at rv hu) (fun b hb => ?_) ⟨?_, ?_⟩
    · rcases List.mem_cons.mp hb with z | z
      · rw [z]; exact ⟨Nat.ne_of_gt hPlt, Nat.le_refl _⟩
      · rw [List.mem_singleton.mp z]; exact ⟨haP, Nat.le_of_lt halt⟩
    · subst ho
      exact ⟨_, Heap.get?_push_size _ rfl, rfl, rfl⟩
    · obtain ⟨ob, e, r⟩ := _root_.id hIL
      exact ⟨ob, Heap.get?_push_of_some _ e, r⟩
  · obtain ⟨its, rv, hl, hz⟩ := I.tuple h
    obtain ⟨ob, e, hc, nn, hd⟩ := hl
    have hIL : s.heap.IsTuple a its.toArray := ⟨ob, e, hc, nn, hd⟩
    have hlen : its.toArray.size = vs.length := by rw [List.size_toArray, rv.length]
    have halt : a < s.heap.objs.size := Heap.lt_size e
    have haP : a ≠ P := fun z => by
      rw [z, hPs] at e
      cases e
      cases hd
    refine fun Q q => wpAny_pyIter_tuple hIL ?_
    generalize ho : ({ cls := .type "tuple_iterator", data := .fields #[.ref a, .int 0 0] } : Obj) = o
    refine q o [s.heap.objs.size, a] (fun i h => h.IsTupleIter s.heap.objs.size a i ∧ h.IsTuple a its.toArray) (fun A' hA => by rw [← hlen]; exact walks_imp (Walks.tuple hA _ _ (Nat.ne_of_lt halt) _) fun i u _ hu => vals_at rv hu) (fun b hb => ?_) ⟨?_, ?_⟩
    · rcases List.mem_cons.mp hb with z | z
      · rw [z]; exact ⟨Nat.ne_of_gt hPlt, Nat.le_refl _⟩
      · rw [List.mem_singleton.mp z]; exact ⟨haP, Nat.le_of_lt halt⟩
    · subst ho
      exact ⟨_, Heap.get?_push_size _ rfl, rfl, rfl⟩
    · exact ⟨ob, Heap.get?_push_of_some _ e, hc, nn, hd⟩
  · obtain ⟨t, u, w', e⟩ := (show ∃ t u v, s.heap.get? a = some { cls := .type "range", data := .fields #[.int lo t, .int (lo + (vs.length : Nat)) u, .int 1 v] } from I.hok a _ h)
    refine fun Q q => wpAny_pyIter_range (a := lo) (b := lo + (vs.length : Nat)) (c := 1) e (small_one (by omega) (by omega) (by omega) (by omega)) ?_
    generalize ho : ({ cls := .type "range_iterator", data := .fields #[rawInt lo, rawInt (Builtin.Range.rangeSize lo (lo + (vs.length : Nat)) 1), rawInt 1] } : Obj) = o
    refine q o [s.heap.objs.size] (fun i h => IsRangeIter h s.heap.objs.size (lo + (i : Nat) * 1) ((vs.length : Int) - (i : Nat)) 1) (fun A' hA => walks_imp (Walks.range hA _ lo 1 vs.length) fun i u hi hu => ?_) (fun b hb => ?_) ?_
    · obtain ⟨tk, rfl⟩ := hu
      refine ⟨V.int (lo + (i : Nat)), ?_, tk, by rw [Int.mul_one]⟩
      rw [hvs, List.getElem?_map, List.getElem?_range hi]; rfl
    · rw [List.mem_singleton.mp hb]; exact ⟨Nat.ne_of_gt hPlt, Nat.le_refl _⟩
    · subst ho
      have e1 : lo + ((0 : Nat) : Int) * 1 = lo := by simp
      have e2 : ((vs.length : Nat) : Int) - ((0 : Nat) : Int) = Builtin.Range.rangeSize lo (lo + (vs.length : Nat)) 1 := by rw [rangeSize_nat]; omega
      show IsRangeIter _ _ (lo + ((0 : Nat) : Int) * 1) (((vs.length : Nat) : Int) - ((0 : Nat) : Int)) 1
      rw [e1, e2]
      exact Heap.get?_push_size _ rfl
end
/-- the lists and tuples that stand, in the states of an element -/
abbrev LV := (Str → Option V) × Hp
def Seen (K : PySem.W.Frag) (H : Hp) (C : QC) : Prop := ∀ a vs, (SqL K H a vs → ∃ its, Vals vs its ∧ ∀ h, C.St h → h.IsList a its.toArray) ∧ (SqT K H a vs → ∃ its, Vals vs its ∧ ∀ h, C.St h → h.IsTuple a its.toArray)
/-- what an element promises: lv, the captured names' values; x's value; the heap -/
structure EltH (K : PySem.W.Frag) (mg : Str → Option Value) (scope : Scope) (x : Str) (ifs : List Expr) (elt : Expr) (fn : List (Str × Nat)) (pre : LV → V → Hp → Prop) (pz : LV → V → Bool) (W : LV → V → Value → Prop) : Prop where
  run : ∀ (C : QC) (lv : LV) (vx : V) (ux : Value) (H : Hp), lv.2 = H → C.Ok 3 → C.K = K → C.mg = mg → C.env.scope = scope → C.lk x = some ux → RelV vx ux → (∀ y v, lv.1 y = some v → ∃ u, C.lk y = some u ∧ RelV v u) → Seen K H C → pre lv vx H →
    (∀ (s : Shared) (Q : Bool → Shared → Prop) (E : Value → Shared → Prop), C.St s.heap → (∀ s', Keeps s s' → Q (pz lv vx) s') →
      wpAny (model C.prog C.w) C.A (forIn ifs true fun c r => if r = true then do let ok ← isTrue c C.env (eval c C.env); pure (ForInStep.yield ok) else pure (ForInStep.yield r)) Q E s) ∧
    (pz lv vx = true → QE C elt (W lv vx))
/-- the captured names' values -/
def capV (fn : List (Str × Nat)) (σ : L2.St) : Str → Option V := fun y => (fn.lookup y).bind fun j => (σ[j]?).bind id
def FnOkL (X : Cx) (scope : Scope) (fn : List (Str × Nat)) : Prop := ∀ y j, fn.lookup y = some j → X.N[j]? = some y ∧ X.env.scope.names.lookup y = some .cell ∧ scope.names.lookup y = some .free
section
variable {X : Cx} {pins : List (Addr × Obj)} {σ : L2.St} {H : Hp} {s : Shared}
/-- the captured names as values in the heap -/
theorem elt_of {P : Addr} {ps : Array Value} {scope : Scope} {x : Str} {ifs : List Expr} {elt : Expr} {fn : List (Str × Nat)} {pre : LV → V → Hp → Prop} {pz : LV → V → Bool} {W : LV → V → Value → Prop} {vs : List V}
    (I : Inv X pins σ H s) (hP : H P = some (.tbl ps)) (hfn : FnOkL X scope fn) (hel : EltH X.K X.mg scope x ifs elt fn pre pz W) (hpre : ∀ v ∈ vs, pre (capV fn σ, H) v H) :
    ∃ fv, EltG X P s scope x ifs elt fv (PvOf vs) (fun i => (vs[i]?.map (pz (capV fn σ, H))).getD false) (fun i u => ∃ v, vs[i]? = some v ∧ W (capV fn σ, H) v u) := by
  have cells : ∀ y v, capV fn σ y = some v → ∃ u, RelV v u ∧ scope.names.lookup y = some .free ∧ ∃ c, X.env.cells.lookup y = some c ∧ s.heap.IsCell c (some u) := fun y v hy => by
    unfold capV at hy
    cases hj : fn.lookup y with
    | none => rw [hj] at hy; cases hy
    | some j =>
      rw [hj] at hy
      obtain ⟨h1, h2, h3⟩ := hfn y j hj
      have hσ : σ[j]? = some (some v) := by
        cases hq : σ[j]? with
        | none => rw [Option.bind_some, hq] at hy; cases hy
        | some o => rw [Option.bind_some, hq] at hy; simp at hy; rw [hy]
      obtain ⟨m, _, hl⟩ := I.loc
      obtain ⟨u, ru, lo⟩ := hl j y v h1 hσ (.inr (.inl h2))
      rcases lo with ⟨hk, _⟩ | ⟨_, c, hc, hv⟩
      · rw [show X.env.kindOf y = X.env.scope.names.lookup y from rfl, h2] at hk; cases hk
      · exact ⟨u, ru, h3, c, hc, hv⟩
  have hPs : s.heap.get? P = some { cls := .none, data := .fields ps } := I.hok P _ hP
  refine ⟨fun y => match h : capV fn σ y with | some v => some (Classical.choose (cells y v h)) | none => none, ⟨fun y u hy => ?_, fun C i v ok e1 e2 eK em esc hPv lx lf hst => ?_⟩⟩
  · split at hy
    · next v h =>
      cases hy
      exact (Classical.choose_spec (cells y v h)).2
    · cases hy
  · obtain ⟨vx, hvx, rx⟩ := hPv
    have hseen : Seen X.K H C := fun a vs' => by
      refine ⟨fun hq => ?_, fun hq => ?_⟩
      · obtain ⟨its, rv, hl, _⟩ := I.list hq
        obtain ⟨ob, e, r⟩ := hl.isList
        refine ⟨its, rv, fun h hh => ⟨ob, hst h hh a ob (fun z => ?_) e, r⟩⟩
        rw [z, hPs] at e
        cases e
        obtain ⟨_, _, hd⟩ := r
        cases hd
      · obtain ⟨its, rv, hl, _⟩ := I.tuple hq
        obtain ⟨ob, e, hc, nn, hd⟩ := hl
        refine ⟨its, rv, fun h hh => ⟨ob, hst h hh a ob (fun z => ?_) e, hc, nn, hd⟩⟩
        rw [z, hPs] at e
        cases e
        cases hd
    have := hel.run C (capV fn σ, H) vx v H rfl ok eK em esc lx rx (fun y v' hy => by
      have hy : capV fn σ y = some v' := hy
      refine ⟨Classical.choose (cells y v' hy), lf y _ ?_, (Classical.choose_spec (cells y v' hy)).1⟩
      split
      · next w h =>
        have e : w = v' := by rw [h] at hy; exact Option.some.inj hy
        subst e; rfl
      · next h => rw [h] at hy; cases hy) hseen (hpre vx (List.mem_of_getElem? hvx))
    simp only [hvx, Option.map_some, Option.getD_some]
    exact ⟨this.1, fun hp => (this.2 hp).imp fun u hu => ⟨vx, rfl, hu⟩⟩
end
end Qe

set_option Elab.async false
set_option linter.all false
set_option maxRecDepth 100000
set_option maxHeartbeats 4000000
namespace Qe
open PySem PySem.Spec PyProof.Rows L2 GxR
/-- the generator g over ws, ready to be walked -/
def ReadyF (X : Cx) (pins : List (Addr × Obj)) (σ : L2.St) (H1 : Hp) (P : Addr) (ws : List V) (W : V → Value → Prop) (g : Addr) (s5 : Shared) : Prop :=
  ∃ (fp wr : List Addr) (G : Array GenState → Array GenState → Prop) (St : Nat → Shared → Prop),
    WalksS X.prog X.w X.A.in1 g fp wr G ws.length (fun j u => ∃ v, ws[j]? = some v ∧ W v u) St ∧ St 0 s5 ∧ (∀ b ∈ fp, b < s5.heap.objs.size) ∧
    ∀ s', Moved wr G s5 s' → ∃ H2, Tabbed P H1 H2 ∧ Inv X pins σ H2 s'
def GenT (K : PySem.W.Frag) (P : Addr) (fn : List (Str × Nat)) (pre : LV → V → Hp → Prop) (te : TE) (R : LV → List V → Hp → Prop) (σ : L2.St) (H : Hp) : Prop :=
  te σ H fun v H1 => TabG H1 P ∧ ∃ vs, SeqV K H1 v vs ∧ (∀ x ∈ vs, pre (capV fn σ, H1) x H1) ∧ R (capV fn σ, H1) vs H1
section
variable {X : Cx} {pins : List (Addr × Obj)} {σ : L2.St} {H : Hp} {s : Shared}
theorem gen_r {c P : Addr} {elt iter : Expr} {ifs : List Expr} {x : Str} {px gpos : Pos} {scope : Scope} {te : TE} {k : Nat} {Q' : Value → Shared → Prop} {R : LV → List V → Hp → Prop} {fn : List (Str × Nat)} {pre : LV → V → Hp → Prop} {pz : LV → V → Bool} {W : LV → V → Value → Prop}
    (hr : Room k X.A) (TB : TabB X.base X.mg c P) (hcode : X.env.code = .ref c) (S : GenS X.env scope x) (hi : PE X iter te) (hfn : FnOkL X scope fn) (hel : EltH X.K X.mg scope x ifs elt fn pre pz W)
    (hs : ∀ v, genFold iter X.env v = pure v) (I : Inv X pins σ H s) (h : GenT X.K P fn pre te R σ H)
    (hQ : ∀ vs H1 g s5, R (capV fn σ, H1) vs H1 → ReadyF X pins σ H1 P (vs.filter (pz (capV fn σ, H1))) (W (capV fn σ, H1)) g s5 → Q' (.ref g) s5) :
    wpAny (model X.prog X.w) X.A (eval (.GeneratorExp elt [⟨.Name x px, iter, ifs, 0⟩] scope gpos) X.env) Q' X.xe s := by
  refine gen_q (R := fun v H1 => TabG H1 P ∧ ∃ vs, SeqV X.K H1 v vs ∧ (∀ x ∈ vs, pre (capV fn σ, H1) x H1) ∧ R (capV fn σ, H1) vs H1) hr TB hcode S hi hs I ?_ fun v H1 s1 xv hR r I1 => ?_
  · have e : (fun v H1 => TabG H1 P ∧ ∃ vs, SeqV X.K H1 v vs ∧ (∀ x ∈ vs, pre (capV fn σ, H1) x H1) ∧ R (capV fn σ, H1) vs H1) = (fun v H1 => TabG H1 P ∧ TabG H1 P ∧ ∃ vs, SeqV X.K H1 v vs ∧ (∀ x ∈ vs, pre (capV fn σ, H1) x H1) ∧ R (capV fn σ, H1) vs H1) := by
      funext v H1
      exact propext ⟨fun z => ⟨z.1, z⟩, fun z => z.2⟩
    unfold GenT at h
    rw [e] at h
    exact h
  · obtain ⟨⟨ps, hP, _⟩, vs, hv, hpre, hR⟩ := hR
    obtain ⟨fv, hE⟩ := elt_of I1 hP hfn hel hpre
    refine ⟨vs.length, PvOf vs, fv, _, _, src_of I1 hP r hv, hE, fun g s5 hG => ?_⟩
    obtain ⟨fp, wr, G, St, Wk, hst, hfp, hm⟩ := hG
    have hidx := idx_map vs (pz (capV fn σ, H1))
    have hpass : passing (fun i => (vs[i]?.map (pz (capV fn σ, H1))).getD false) vs.length 0 = (List.range vs.length).filter fun i => (vs[i]?.map (pz (capV fn σ, H1))).getD false := by simp [passing]
    rw [hpass] at Wk
    have hlen : ((List.range vs.length).filter fun i => (vs[i]?.map (pz (capV fn σ, H1))).getD false).length = (vs.filter (pz (capV fn σ, H1))).length := by simpa using congrArg List.length hidx
    rw [hlen] at Wk
    refine hQ vs H1 g s5 hR ⟨fp, wr, G, St, Wk.imp fun j y hy => ?_, hst, hfp, hm⟩
    obtain ⟨i, hij, b, hb, hc⟩ := hy
    have e : ((vs.filter (pz (capV fn σ, H1)))[j]?).map some = some (vs[i]?) := by rw [← List.getElem?_map, ← hidx, List.getElem?_map, hij]; rfl
    rw [hb] at e
    exact ⟨b, by simpa using e, hc⟩
def tAllG (K : PySem.W.Frag) (P : Addr) (fn : List (Str × Nat)) (pre : LV → V → Hp → Prop) (pz q : LV → V → Bool) (te : TE) : TE := fun σ H Q =>
  GenT K P fn pre te (fun lv vs H1 => ∀ H2, Tabbed P H1 H2 → Q (.bl ((vs.filter (pz lv)).all (q lv))) H2) σ H
def tAnyG (K : PySem.W.Frag) (P : Addr) (fn : List (Str × Nat)) (pre : LV → V → Hp → Prop) (pz q : LV → V → Bool) (te : TE) : TE := fun σ H Q =>
  GenT K P fn pre te (fun lv vs H1 => ∀ H2, Tabbed P H1 H2 → Q (.bl ((vs.filter (pz lv)).any (q lv))) H2) σ H
def tSumG (K : PySem.W.Frag) (P : Addr) (fn : List (Str × Nat)) (pre : LV → V → Hp → Prop) (pz : LV → V → Bool) (f : LV → V → Int) (te : TE) : TE := fun σ H Q =>
  GenT K P fn pre te (fun lv vs H1 => ∀ H2, Tabbed P H1 H2 → Q (.int ((vs.filter (pz lv)).map (f lv)).sum) H2) σ H
theorem by_place {β : Type} (B : List β) (q : β → Bool) (d : Bool) : (List.range B.length).map (fun j => (B[j]?.map q).getD d) = B.map q := by
  refine List.ext_getElem (by simp) fun j h1 h2 => ?_
  have hj : j < B.length := by simpa using h2
  rw [List.getElem_map, List.getElem_map, List.getElem_range, List.getElem?_eq_getElem hj]; rfl
theorem all_getD {β : Type} (B : List β) (q : β → Bool) : (List.range B.length).all (fun j => (B[j]?.map q).getD true) = B.all q := by
  have e := congrArg (List.all · id) (by_place B q true)
  simpa [List.all_map] using e
theorem any_getD {β : Type} (B : List β) (q : β → Bool) : (List.range B.length).any (fun j => (B[j]?.map q).getD false) = B.any q := by
  have e := congrArg (List.any · id) (by_place B q false)
  simpa [List.any_map] using e
theorem preSum_list (B : List V) (f : V → Int) : ∀ n, n ≤ B.length → preSum (fun j => match B[j]? with | some b => f b | none => 0) n = ((B.take n).map f).sum
  | 0, _ => by simp [preSum]
  | n + 1, h => by
    have hn : n < B.length := h
    rw [preSum, preSum_list B f n (by omega), List.take_succ, List.getElem?_eq_getElem hn, List.map_append, List.sum_append]
    simp
theorem pe_allG {c P : Addr} {elt iter : Expr} {ifs : List Expr} {x : Str} {px p pos gpos : Pos} {scope : Scope} {te : TE} {k : Nat} {fn : List (Str × Nat)} {pre : LV → V → Hp → Prop} {pz q : LV → V → Bool}
    (hr : Room k X.A) (hg : Gl X "all") (hm : X.mg "all" = none) (TB : TabB X.base X.mg c P) (hcode : X.env.code = .ref c) (S : GenS X.env scope x) (hi : PE X iter te) (hfn : FnOkL X scope fn)
    (hel : EltH X.K X.mg scope x ifs elt fn pre pz (fun lv v => IsV (.bool (q lv v))))
    (hs : ∀ v, genFold iter X.env v = pure v) (hb : bootBuiltins "all" = some (.builtin "all") := by decide +kernel)
    (he : starEach [.GeneratorExp elt [⟨.Name x px, iter, ifs, 0⟩] scope gpos] X.env = (false, eval (.GeneratorExp elt [⟨.Name x px, iter, ifs, 0⟩] scope gpos) X.env) :: starEach [] X.env := by rfl) :
    PE X (.Call (.Name "all" p) [.GeneratorExp elt [⟨.Name x px, iter, ifs, 0⟩] scope gpos] [] pos) (tAllG X.K P fn pre pz q te) := by
  refine ⟨fun pins s σ H Q I h => ?_⟩
  refine wpAny_Call_Name_kw (ld_blt I hg hm hb ?_)
  refine PyProof.Rows.callWith_builtin1 ?_ he (by rfl)
  rw [he]
  show wpAny _ _ (spliced ((false, eval (.GeneratorExp elt [⟨.Name x px, iter, ifs, 0⟩] scope gpos) X.env) :: backTo pos (starEach [] X.env))) _ _ s
  refine Calls.spliced_cons (gen_r hr TB hcode S hi hfn hel hs I h fun vs H1 g s5 hR hG => ?_)
  obtain ⟨fp, wr, G, St, W, hst, _, hI⟩ := hG
  refine Calls.spliced_nil ?_
  refine call_all_walkS (W.self 0 _ _ _ hst ⟨g, fp, wr, G, _, _, St, fun j => ((vs.filter (pz (capV fn σ, H1)))[j]?.map (q (capV fn σ, H1))).getD true, rfl, W, hst, ?_, fun s' hmv => ?_⟩)
  · intro j u s Q E hu hQ
    obtain ⟨v, hv, hy⟩ := hu
    cases (show u = _ from hy)
    simp only [hv, Option.map_some, Option.getD_some] at hQ
    exact wpAny_truthy_bool hQ
  · obtain ⟨H2, hT, J⟩ := hI s' hmv
    refine ⟨.bl _, H2, J, rfl, ?_⟩
    rw [all_getD]
    exact hR H2 hT
theorem pe_anyG {c P : Addr} {elt iter : Expr} {ifs : List Expr} {x : Str} {px p pos gpos : Pos} {scope : Scope} {te : TE} {k : Nat} {fn : List (Str × Nat)} {pre : LV → V → Hp → Prop} {pz q : LV → V → Bool}
    (hr : Room k X.A) (hg : Gl X "any") (hm : X.mg "any" = none) (TB : TabB X.base X.mg c P) (hcode : X.env.code = .ref c) (S : GenS X.env scope x) (hi : PE X iter te) (hfn : FnOkL X scope fn)
    (hel : EltH X.K X.mg scope x ifs elt fn pre pz (fun lv v => IsV (.bool (q lv v))))
    (hs : ∀ v, genFold iter X.env v = pure v) (hb : bootBuiltins "any" = some (.builtin "any") := by decide +kernel)
    (he : starEach [.GeneratorExp elt [⟨.Name x px, iter, ifs, 0⟩] scope gpos] X.env = (false, eval (.GeneratorExp elt [⟨.Name x px, iter, ifs, 0⟩] scope gpos) X.env) :: starEach [] X.env := by rfl) :
    PE X (.Call (.Name "any" p) [.GeneratorExp elt [⟨.Name x px, iter, ifs, 0⟩] scope gpos] [] pos) (tAnyG X.K P fn pre pz q te) := by
  refine ⟨fun pins s σ H Q I h => ?_⟩
  refine wpAny_Call_Name_kw (ld_blt I hg hm hb ?_)
  refine PyProof.Rows.callWith_builtin1 ?_ he (by rfl)
  rw [he]
  show wpAny _ _ (spliced ((false, eval (.GeneratorExp elt [⟨.Name x px, iter, ifs, 0⟩] scope gpos) X.env) :: backTo pos (starEach [] X.env))) _ _ s
  refine Calls.spliced_cons (gen_r hr TB hcode S hi hfn hel hs I h fun vs H1 g s5 hR hG => ?_)
  obtain ⟨fp, wr, G, St, W, hst, _, hI⟩ := hG
  refine Calls.spliced_nil ?_
  refine call_any_walkS (W.self 0 _ _ _ hst ⟨g, fp, wr, G, _, _, St, fun j => ((vs.filter (pz (capV fn σ, H1)))[j]?.map (q (capV fn σ, H1))).getD false, rfl, W, hst, ?_, fun s' hmv => ?_⟩)
  · intro j u s Q E hu hQ
    obtain ⟨v, hv, hy⟩ := hu
    cases (show u = _ from hy)
    simp only [hv, Option.map_some, Option.getD_some] at hQ
    exact wpAny_truthy_bool hQ
  · obtain ⟨H2, hT, J⟩ := hI s' hmv
    refine ⟨.bl _, H2, J, rfl, ?_⟩
    rw [any_getD]
    exact hR H2 hT
theorem pe_sumG {c P : Addr} {elt iter : Expr} {ifs : List Expr} {x : Str} {px p pos gpos : Pos} {scope : Scope} {te : TE} {k : Nat} {fn : List (Str × Nat)} {pre : LV → V → Hp → Prop} {pz : LV → V → Bool} {f : LV → V → Int}
    (hr : Room k X.A) (hg : Gl X "sum") (hm : X.mg "sum" = none) (TB : TabB X.base X.mg c P) (hcode : X.env.code = .ref c) (S : GenS X.env scope x) (hi : PE X iter te) (hfn : FnOkL X scope fn)
    (hel : EltH X.K X.mg scope x ifs elt fn pre pz (fun lv v => IsI (f lv v)))
    (hs : ∀ v, genFold iter X.env v = pure v) (hb : bootBuiltins "sum" = some (.builtin "sum") := by decide +kernel)
    (he : starEach [.GeneratorExp elt [⟨.Name x px, iter, ifs, 0⟩] scope gpos] X.env = (false, eval (.GeneratorExp elt [⟨.Name x px, iter, ifs, 0⟩] scope gpos) X.env) :: starEach [] X.env := by rfl) :
    PE X (.Call (.Name "sum" p) [.GeneratorExp elt [⟨.Name x px, iter, ifs, 0⟩] scope gpos] [] pos) (tSumG X.K P fn pre pz f te) := by
  refine ⟨fun pins s σ H Q I h => ?_⟩
  refine wpAny_Call_Name_kw (ld_blt I hg hm hb ?_)
  refine PyProof.Rows.callWith_builtin1 ?_ he (by rfl)
  rw [he]
  show wpAny _ _ (spliced ((false, eval (.GeneratorExp elt [⟨.Name x px, iter, ifs, 0⟩] scope gpos) X.env) :: backTo pos (starEach [] X.env))) _ _ s
  refine Calls.spliced_cons (gen_r hr TB hcode S hi hfn hel hs I h fun vs H1 g s5 hR hG => ?_)
  obtain ⟨fp, wr, G, St, W, hst, hfp, hI⟩ := hG
  refine Calls.spliced_nil ?_
  refine call_sum_walkAnyS (W.self 0 _ _ _ hst ⟨g, fp, wr, G, _, _, St, fun j => match (vs.filter (pz (capV fn σ, H1)))[j]? with | some b => f (capV fn σ, H1) b | none => 0, rfl, W, hst, hfp, ?_, fun s' t' hmv => ?_⟩)
  · intro j u hu
    obtain ⟨v, hv, t, hy⟩ := hu
    simp only [hv]
    exact ⟨t, hy⟩
  · obtain ⟨H2, hT, J⟩ := hI s' hmv
    refine ⟨.int _, H2, J, ⟨t', rfl⟩, ?_⟩
    rw [preSum_list _ _ _ (Nat.le_refl _), List.take_length]
    exact hR H2 hT
end
end Qe

set_option Elab.async false
set_option linter.all false
set_option maxRecDepth 100000
set_option maxHeartbeats 4000000
namespace Vf
open PySem PySem.Spec PyProof.Rows L2 GxR
open Evl hiding Ex Ex.refl Ex.trans Ex.new Ex.mut ex_rd ex_l ex_t fresh_back
/-! ### tables of code objects, among what stands still -/
def TbG (Ts : List Addr) (G : Hp) : Prop := ∀ P ∈ Ts, TabG G P
theorem TbG.ex {Ts : List Addr} {G G' : Hp} (h : TbG Ts G) (e : Ex G G') : TbG Ts G' := fun P hP => e.tab (h P hP)
def PureTS (Ts : List Addr) (K : PySem.W.Frag) (R : List PyData → PyData → Prop) : Sp := fun vs H Q _ => ∃ G ds d, Ex G H ∧ TbG Ts G ∧ RpAll K G vs ds ∧ R ds d ∧ ∀ v G' H', Adv G H G' H' → Rp K G' v d → Q v H'
section
variable {K : PySem.W.Frag} {σ : L2.St} {G H : Hp} {te : TE} {tA : TA} {d : PyData} {ds : List PyData}
theorem eva_callT {Ts : List Addr} {R : List PyData → PyData → Prop} {E : XK} (h : EvaA K tA σ G H ds) (hT : TbG Ts G) (hr : R ds d) : Eva K (tCall (PureTS Ts K R) [] E tA) σ G H d := fun G1 H1 a Q q =>
  h G1 H1 a _ fun vs G2 H2 a2 e => by
    rw [List.append_nil]
    exact ⟨G2, ds, d, a2.o, hT.ex (a.trans a2).g, e, hr, fun v G3 H3 a3 r => q v G3 H3 (a2.trans a3) r⟩
/-- a sequence that is walked: a list, a tuple, a range -/
def EvaS (K : PySem.W.Frag) (te : TE) (σ : L2.St) (G H : Hp) (ds : List PyData) : Prop := ∀ G1 H1, Adv G H G1 H1 → ∀ Q : VK, (∀ v vs G2 H2, Adv G1 H1 G2 H2 → RpAll K G2 vs ds → Qe.SeqV K H2 v vs → Q v H2) → te σ H1 Q
theorem evs_tup (h : Eva K te σ G H (.tuple ds)) : EvaS K te σ G H ds := fun G1 H1 a Q q => h G1 H1 a _ fun v G2 H2 a2 r => by
  cases r with
  | @tup p xs _ hs hx => exact q _ xs G2 H2 a2 hx ⟨p, rfl, .inr (.inl (ex_t a2.o hs))⟩
theorem evs_list (h : Eva K te σ G H (.list ds)) : EvaS K te σ G H ds := fun G1 H1 a Q q => h G1 H1 a _ fun v G2 H2 a2 r => by
  cases r with
  | @lst p xs _ hs hx => exact q _ xs G2 H2 a2 hx ⟨p, rfl, .inl (SqL.of (a2.o _ _ hs))⟩
theorem evs_rng {ta : TA} {i j : Int} (h : EvaA K ta σ G H [.int i, .int j]) (hn : (j - i).toNat ≤ 100000) (h1 : -1000000 ≤ i) (h2 : i ≤ 1000000) (h3 : i ≤ j) :
    EvaS K (tCB (fun vs H Q => ∃ i j, vs = [V.int i, V.int j] ∧ ∀ p, H p = none → Q (.ref p) (upd H p (.rng i j))) ta) σ G H ((List.range (j - i).toNat).map fun k => .int (i + (k : Nat))) := fun G1 H1 a Q q =>
  h G1 H1 a _ fun vs G2 H2 a2 r => by
    cases rpa_ints (ns := [i, j]) r
    refine ⟨i, j, rfl, fun p hp => ?_⟩
    refine q (.ref p) ((List.range (j - i).toNat).map fun k => V.int (i + (k : Nat))) G2 _ (a2.trans (Adv.lay a2.o hp)) ?_ ⟨p, rfl, .inr (.inr ⟨i, ?_, ?_, h1, h2, ?_⟩)⟩
    · have := ints_rpa (K := K) (H := G2) ((List.range (j - i).toNat).map fun k => i + (k : Nat))
      rw [List.map_map, List.map_map] at this
      exact this
    · rw [List.length_map, List.length_range]
    · rw [List.length_map, List.length_range]; exact hn
    · rw [List.length_map, List.length_range, upd_same]
      have : i + (((j - i).toNat : Nat) : Int) = j := by omega
      rw [this]
section
variable {P : Addr} {fn : List (Str × Nat)} {pre : Qe.LV → V → Hp → Prop} {pz q : Qe.LV → V → Bool} {f : Qe.LV → V → Int}
theorem eva_allG {b : Bool} (h : EvaS K te σ G H ds) (hT : TabG G P)
    (hp : ∀ G' H' vs, Adv G H G' H' → RpAll K G' vs ds → (∀ x ∈ vs, pre (Qe.capV fn σ, H') x H') ∧ (vs.filter (pz (Qe.capV fn σ, H'))).all (q (Qe.capV fn σ, H')) = b) : Eva K (Qe.tAllG K P fn pre pz q te) σ G H (.bool b) := fun G1 H1 a Q k =>
  h G1 H1 a _ fun v vs G2 H2 a2 r s => by
    obtain ⟨h1, h2⟩ := hp G2 H2 vs (a.trans a2) r
    have t2 := a2.o.tab ((a.trans a2).g.tab hT)
    exact ⟨t2, vs, s, h1, fun H3 t3 => k _ G2 H3 (a2.trans (Adv.tab a2.o t2 t3)) (h2 ▸ .bl _)⟩
theorem eva_anyG {b : Bool} (h : EvaS K te σ G H ds) (hT : TabG G P)
    (hp : ∀ G' H' vs, Adv G H G' H' → RpAll K G' vs ds → (∀ x ∈ vs, pre (Qe.capV fn σ, H') x H') ∧ (vs.filter (pz (Qe.capV fn σ, H'))).any (q (Qe.capV fn σ, H')) = b) : Eva K (Qe.tAnyG K P fn pre pz q te) σ G H (.bool b) := fun G1 H1 a Q k =>
  h G1 H1 a _ fun v vs G2 H2 a2 r s => by
    obtain ⟨h1, h2⟩ := hp G2 H2 vs (a.trans a2) r
    have t2 := a2.o.tab ((a.trans a2).g.tab hT)
    exact ⟨t2, vs, s, h1, fun H3 t3 => k _ G2 H3 (a2.trans (Adv.tab a2.o t2 t3)) (h2 ▸ .bl _)⟩
theorem eva_sumG {b : Int} (h : EvaS K te σ G H ds) (hT : TabG G P)
    (hp : ∀ G' H' vs, Adv G H G' H' → RpAll K G' vs ds → (∀ x ∈ vs, pre (Qe.capV fn σ, H') x H') ∧ ((vs.filter (pz (Qe.capV fn σ, H'))).map (f (Qe.capV fn σ, H'))).sum = b) : Eva K (Qe.tSumG K P fn pre pz f te) σ G H (.int b) := fun G1 H1 a Q k =>
  h G1 H1 a _ fun v vs G2 H2 a2 r s => by
    obtain ⟨h1, h2⟩ := hp G2 H2 vs (a.trans a2) r
    have t2 := a2.o.tab ((a.trans a2).g.tab hT)
    exact ⟨t2, vs, s, h1, fun H3 t3 => k _ G2 H3 (a2.trans (Adv.tab a2.o t2 t3)) (h2 ▸ .int _)⟩
end
end
/-! ### a def whose code object is known -/
structure FunC (K : PySem.W.Frag) (x qual : Str) (st : Stmt) (f : Addr) (fd : FuncData) (c : Addr) : Prop where
  ex : ∃ (oc : Value) (od : Option Addr) (kV doc pm : Value) (an : Option Addr) (ct : Value) (osl : Array (Option Value)),
    fd = PySem.W.fnOf x qual (defArgs st) (defBody st) (defScope st) .none kV doc pm an (.ref c) ct ∧ K.lookup f = some ⟨oc, od, .func fd, osl⟩ ∧ PySem.W.codeIn K (.ref c) qual = true
theorem FunC.ok {P : Program} {w : World} {K : PySem.W.Frag} {mg : Str → Option Value} {base : Heap} {x qual : Str} {st : Stmt} {f : Addr} {fd : FuncData} {c : Addr} {N ps : List Str} {k : Nat} {sp : Sp} (F : FunC K x qual st f fd c) (S : FnScope N ps (defScope st)) (len : ∀ vs H Q E, sp vs H Q E → vs.length = ps.length)
    (hbody : ∀ (A : Around) (outer : List Env) (s : Shared) (H : Hp) (vs : List V) (Q : VK) (E : XK), Room k (A.deeper (envOfC qual (defScope st) s.heap.objs.size f (.ref c))) → sp vs H Q E →
      ∃ t, PSs (cxOf CX0 P w K mg base N qual (defScope st) f (.ref c) A outer s H E).nox (defBody st) t ∧ t { nx := fun _ H' => Q .non H', rt := Q } (start N vs) H) : FnOk P w K mg base CX0 (k + 1) f fd ps sp := by
  obtain ⟨oc, od, kV, doc, pm, an, ct, osl, rfl, lk, hcd⟩ := F.ex
  refine fn_of lk hcd S len fun A outer s H vs Q E hr hsp => ?_
  obtain ⟨t, h, q⟩ := hbody A outer s H vs Q E hr hsp
  exact ⟨t, h.nox, q⟩
theorem funC_mk {K : PySem.W.Frag} {x qual : Str} {st : Stmt} {f c : Addr} {oc : Value} {od an : Option Addr} {osl : Array (Option Value)} {kV doc pm ct : Value} (l : K.lookup f = some ⟨oc, od, .func (PySem.W.fnOf x qual (defArgs st) (defBody st) (defScope st) .none kV doc pm an (.ref c) ct), osl⟩)
    (hc : PySem.W.codeIn K (.ref c) qual = true) : FunC K x qual st f (PySem.W.fnOf x qual (defArgs st) (defBody st) (defScope st) .none kV doc pm an (.ref c) ct) c := ⟨⟨oc, od, kV, doc, pm, an, ct, osl, rfl, l, hc⟩⟩
/-! ### the scope of a generator expression -/
theorem genS_of {qual : Str} {outer scope : Scope} {L f : Addr} {cdv : Value} {x : Str} (h1 : scope.kind = .function) (h2 : scope.isCoroutine = false) (h3 : scope.names.lookup (".0" : Str) = some NameKind.local) (h4 : scope.names.lookup x = some .local)
    (h5 : (scope.names.all fun y => !(y.2 == .cell) && (!(y.2 == .free) || outer.names.lookup y.1 == some .cell)) = true) : GenS (envOfC qual outer L f cdv) scope x := by
  have hall := List.all_eq_true.mp h5
  refine ⟨h1, h2, fun y hy z => ?_, h3, h4, fun y hy z => ?_⟩
  · have := hall y hy
    rw [z] at this
    cases this
  · have := hall y hy
    rw [z, Bool.and_eq_true, Bool.or_eq_true] at this
    rcases this.2 with q | q
    · cases q
    · have e : ((cellsFrom (L + 1) outer.names []).lookup y.1).isSome = true := PySem.W.cellsFrom_some _ _ _ (.inl (eq_of_beq q))
      obtain ⟨c, hc⟩ := Option.isSome_iff_exists.mp e
      exact ⟨c, hc⟩
theorem fnOk_of {X : Cx} {scope : Scope} {fn : List (Str × Nat)} (h : (fn.all fun p => X.N[p.2]? == some p.1 && (X.env.scope.names.lookup p.1 == some .cell && scope.names.lookup p.1 == some .free)) = true) : Qe.FnOkL X scope fn := fun y j hy => by
  have := List.all_eq_true.mp h (y, j) (Qe.lookup_mem hy)
  rw [Bool.and_eq_true, Bool.and_eq_true] at this
  exact ⟨eq_of_beq this.1, eq_of_beq this.2.1, eq_of_beq this.2.2⟩
/-! ### the end of a law with tables -/
/-- the tables of all defs that the top has made are empty -/
def OwnTabs (K : PySem.W.Frag) (q : Program) (mg : Str → Option Value) (h : Heap) : Prop := ∀ (nm : Str) (f : Addr), ((recsOf q).any fun e => e.name == nm) = true → mg nm = some (.ref f) → LamX.OwnTab K f h
theorem walk_ofOwns {l : PySem.W.OpenLaw} {n k : Nat} {q : Program} {loose : List Str} {XP : (Str → Option Value) → Heap → Prop} {YP : World → Heap → Prop} {d : DefRec} {K : Params → PySem.W.Frag} {x : Str}
    (many : l.most = some n) (fits : n ≤ sizeLine) (plain : d.params.defaults = []) (room : Room k callerA) (part : ∀ (w : World) (h : Heap), YP w h → (K w.params).In h)
    (F : ∀ (w : World) (mg : Str → Option Value) (fa : Addr) (h : Heap), YP w h → (K w.params).In h → h.Ns mainGlobals mg → mg d.name = some (.ref fa) → OwnTabs (K w.params) q mg h → LamX.LawAtS l w (K w.params) CX0 k n x mg fa h) :
    PySem.W.WalkO q loose XP YP l.row.toRowW d [] (fun f vs => PySem.call f vs) :=
  Att.attach_callB many plain fun w _ s1 mg _ fa _ _ _ _ a vs ns G Y _ _ _ at_law sobj sare sfew sbits none_yet => by
    have kept := part w _ Y
    have tabs : OwnTabs (K w.params) q mg s1.heap := fun nm f made at_f c P o fd e dd fs sl f1 f2 f3 c1 c2 => by
      obtain ⟨rec, isrec, named⟩ := List.any_eq_true.mp made
      obtain ⟨f', o', fd', c', P', g1, g2, g3, g4, _, ⟨oc, vc, g5, _, g6, g7⟩, empty⟩ := G.T.tab rec isrec
      have ef : f' = f := by
        rw [beq_iff_eq.mp named, at_f] at g1
        exact (Value.ref.inj (Option.some.inj g1)).symm
      have eo : o' = o := by
        rw [ef, kept _ _ f1] at g2
        exact (Option.some.inj g2).symm
      have ed : fd' = fd := by
        rw [eo, f2] at g3
        exact (Data.func.inj g3).symm
      have ec : c' = c := by
        rw [ed, f3] at g4
        exact (Value.ref.inj g4).symm
      rw [ec, kept _ _ c1] at g5
      obtain rfl := Option.some.inj g5
      have ev : fs = vc := Data.fields.inj g6
      have eP : P = P' := by
        rw [← ev, c2] at g7
        exact Value.ref.inj (Option.some.inj g7)
      rw [eP]
      exact empty
    obtain ⟨fd, cs, sp, t1, t2, t3, t4, t5, t6⟩ := F w mg fa _ Y kept G.T.g at_law tabs
    exact LamX.law_callTs kept G.T.g G.T.b G.T.builtins G.T.nolimit none_yet t1 t2 t3 G.T.bmain sobj sare (Nat.le_trans sfew fits) room t6 t4 (fun H known seq => t5 H a ns sfew sbits known seq) fun _ _ _ z => z
end Vf

set_option Elab.async false
set_option linter.all false
set_option maxRecDepth 100000
set_option maxHeartbeats 400000
namespace Qe
open PySem PySem.Spec PyProof.Rows L2 GxR
/-- what an element knows -/
structure QEnv (K : PySem.W.Frag) (mg : Str → Option Value) (scope : Scope) (x : Str) (C : QC) (lv : LV) (vx : V) (H : Hp) : Prop where
  hH : lv.2 = H
  ok : C.Ok 3
  hK : C.K = K
  hm : C.mg = mg
  hs : C.env.scope = scope
  lx : ∃ ux, C.lk x = some ux ∧ RelV vx ux
  cap : ∀ y v, lv.1 y = some v → ∃ u, C.lk y = some u ∧ RelV v u
  seen : Seen K H C
abbrev Pre := LV → V → Hp → Prop
def QI (K : PySem.W.Frag) (mg : Str → Option Value) (scope : Scope) (x : Str) (pre : Pre) (e : Expr) (f : LV → V → Int) : Prop := ∀ C lv vx H, QEnv K mg scope x C lv vx H → pre lv vx H → QE C e (IsI (f lv vx))
def QB (K : PySem.W.Frag) (mg : Str → Option Value) (scope : Scope) (x : Str) (pre : Pre) (e : Expr) (f : LV → V → Bool) : Prop := ∀ C lv vx H, QEnv K mg scope x C lv vx H → pre lv vx H → QE C e (IsV (.bool (f lv vx)))
section
variable {K : PySem.W.Frag} {mg : Str → Option Value} {scope : Scope} {x y : Str} {pre : Pre} {e a b : Expr} {f g h : LV → V → Int} {p pos : Pos}
theorem eltB (q : LV → V → Bool) (hq : QB K mg scope x pre e q) {fn : List (Str × Nat)} : EltH K mg scope x [] e fn pre (fun _ _ => true) (fun lv v => IsV (.bool (q lv v))) :=
  ⟨fun C lv vx ux H hH ok hK hm hs lx rx cap seen hp => ⟨fun s Q E hs2 k => by
    simp only [List.forIn_nil]
    exact wpAny_pure (k s (kp_refl s)), fun _ => hq C lv vx H ⟨hH, ok, hK, hm, hs, ⟨ux, lx, rx⟩, cap, seen⟩ hp⟩⟩
theorem eltI (q : LV → V → Int) (hq : QI K mg scope x pre e q) {fn : List (Str × Nat)} : EltH K mg scope x [] e fn pre (fun _ _ => true) (fun lv v => IsI (q lv v)) :=
  ⟨fun C lv vx ux H hH ok hK hm hs lx rx cap seen hp => ⟨fun s Q E hs2 k => by
    simp only [List.forIn_nil]
    exact wpAny_pure (k s (kp_refl s)), fun _ => hq C lv vx H ⟨hH, ok, hK, hm, hs, ⟨ux, lx, rx⟩, cap, seen⟩ hp⟩⟩
theorem qi_const {i : Int} {k : Nat} : QI K mg scope x pre (.Constant (.int i) k p) (fun _ _ => i) := fun C lv vx H E hp => qe_int
theorem qi_x (hf : ∀ lv vx H, pre lv vx H → vx = .int (f lv vx)) (hd : (x == ("__debug__" : Str)) = false := by decide) (hn : (x == ("__classdict__" : Str)) = false := by decide) : QI K mg scope x pre (.Name x p) f := fun C lv vx H E hp => by
  obtain ⟨ux, lx, rx⟩ := E.lx
  rw [hf lv vx H hp] at rx
  obtain ⟨t, rfl⟩ := rx
  exact qe_nameI E.ok lx hd hn
theorem qi_cap (hf : ∀ lv vx H, pre lv vx H → lv.1 y = some (.int (f lv vx))) (hd : (y == ("__debug__" : Str)) = false := by decide) (hn : (y == ("__classdict__" : Str)) = false := by decide) : QI K mg scope x pre (.Name y p) f := fun C lv vx H E hp => by
  obtain ⟨u, lx, rx⟩ := E.cap y _ (hf lv vx H hp)
  obtain ⟨t, rfl⟩ := rx
  exact qe_nameI E.ok lx hd hn
theorem qi_glob {i : Int} {t : Tok} (hm : mg y = some (.int i t)) (hg : scope.names.lookup y = some .globalImplicit) (hd : (y == ("__debug__" : Str)) = false := by decide) : QI K mg scope x pre (.Name y p) (fun _ _ => i) := fun C lv vx H E hp =>
  (qe_glob E.ok (by show C.env.scope.names.lookup y = _; rw [E.hs]; exact hg) (by rw [E.hm]; exact hm) hd).imp fun _ e => ⟨t, e⟩
theorem qi_sub (ha : QI K mg scope x pre a f) (hb : QI K mg scope x pre b g) : QI K mg scope x pre (.BinOp a .Sub b pos) (fun lv v => f lv v - g lv v) := fun C lv vx H E hp => qe_sub E.ok (ha C lv vx H E hp) (hb C lv vx H E hp)
theorem qi_add (ha : QI K mg scope x pre a f) (hb : QI K mg scope x pre b g) : QI K mg scope x pre (.BinOp a .Add b pos) (fun lv v => f lv v + g lv v) := fun C lv vx H E hp => qe_add E.ok (ha C lv vx H E hp) (hb C lv vx H E hp)
theorem qi_mul (ha : QI K mg scope x pre a f) (hb : QI K mg scope x pre b g) (hm : ∀ lv vx H, pre lv vx H → IntMulOk (f lv vx) (g lv vx)) : QI K mg scope x pre (.BinOp a .Mult b pos) (fun lv v => f lv v * g lv v) := fun C lv vx H E hp =>
  qe_mul E.ok (ha C lv vx H E hp) (hb C lv vx H E hp) (hm lv vx H hp)
theorem qi_neg (ha : QI K mg scope x pre a f) : QI K mg scope x pre (.UnaryOp .USub a pos) (fun lv v => - f lv v) := fun C lv vx H E hp s Q EE hs q => by
  refine UnaryOp_ (ha C lv vx H E hp s _ EE hs fun y s1 ⟨t, hy⟩ k1 => ?_)
  subst hy
  refine neg_int ?_
  exact q _ _ ⟨_, rfl⟩ (kp_trans k1 (kp_tok _ _))
/-- y[e], an int of a list or a tuple that stands -/
theorem qi_ix (ha : QI K mg scope x pre a g) (hf : ∀ lv vx H, pre lv vx H → ∃ p xs, lv.1 y = some (.ref p) ∧ (SqL K H p xs ∨ SqT K H p xs) ∧ 0 ≤ g lv vx ∧ atI xs (g lv vx) = some (.int (f lv vx)) ∧ xs.length ≤ 100000) (hs : PlainIx a)
    (hd : (y == ("__debug__" : Str)) = false := by decide) (hn : (y == ("__classdict__" : Str)) = false := by decide) : QI K mg scope x pre (.Subscript (.Name y p) a pos) f := fun C lv vx H E hp s Q EE hst q => by
  obtain ⟨pp, xs, hl, hsq, h0, hat, hz⟩ := hf lv vx H hp
  obtain ⟨u, lx, rx⟩ := E.cap y _ hl
  obtain rfl : u = Value.ref pp := rx
  refine Subscript_ (qe_name E.ok lx hd hn s _ EE hst fun v s1 hv k1 => ?_)
  cases (show v = _ from hv)
  refine ha C lv vx H E hp s1 _ EE (St_kp E.ok hst k1) fun z s2 ⟨t, hz⟩ k2 => ?_
  subst hz
  have hs2 := St_kp E.ok (St_kp E.ok hst k1) k2
  have kk := kp_trans k1 k2
  obtain ⟨j, h1, h2, h3, h4, h5⟩ := atI_get hat
  have hn63 := line63
  rcases hsq with hq | hq
  · obtain ⟨its, r, hl2⟩ := (E.seen pp xs).1 hq
    have pl := hl2 _ hs2
    obtain ⟨w, ew, rw'⟩ := r.get h2
    have hln := r.length
    have fin : Q w s2 := q w s2 rw' kk
    have hj : (g lv vx).toNat = j := by
      rw [seqIndex_of h0 h5] at h1
      exact Option.some.inj h1
    exact item_listR pl h0 (by omega) (by rw [hj]; simpa using ew) fin (hs _ _)
  · obtain ⟨its, r, hl2⟩ := (E.seen pp xs).2 hq
    have pl := hl2 _ hs2
    obtain ⟨w, ew, rw'⟩ := r.get h2
    have hln := r.length
    have fin : Q w s2 := q w s2 rw' kk
    have hg : wpAny (model C.prog C.w) C.A (getItem (.ref pp) (.int (g lv vx) t)) (fun r s' => r = w ∧ Q r s') EE s2 :=
      getItem_tuple (j := j) (show IsTup s2.heap pp its.toArray from pl) (by omega) (by omega) (by rw [List.size_toArray, ← hln]; exact h1) (by simpa using ew) ⟨rfl, fin⟩
    exact subscriptTail_builtinR (x := w) pl.typeIs slot_tuple_getitem.lookup hg (hs _ _)
end
end Qe

set_option Elab.async false
set_option linter.all false
set_option maxRecDepth 100000
set_option maxHeartbeats 4000000
namespace Vf
open PySem PySem.Spec PyProof.Rows L2
open Evl hiding Ex Ex.refl Ex.trans Ex.new Ex.mut ex_rd ex_l ex_t fresh_back
/-! ### sum of a list of ints -/
def rSumL (K : PySem.W.Frag) : List V → Hp → VK → Prop := fun xs H Q => ∃ (p : Addr) (ns : List Int), xs = [V.ref p] ∧ SqL K H p (ns.map V.int) ∧ Q (.int ns.sum) H
theorem preSum_take (ns : List Int) : ∀ n, n ≤ ns.length → preSum (fun j => ns.getD j 0) n = (ns.take n).sum
  | 0, _ => by simp [preSum]
  | n + 1, h => by
    have hn : n < ns.length := h
    rw [preSum, preSum_take ns n (by omega), List.take_succ, List.getElem?_eq_getElem hn, List.sum_append, List.getD_eq_getElem?_getD, List.getElem?_eq_getElem hn]
    simp
theorem call_sumL {X : Cx} (hh : X.A.handled = none) (K : PySem.W.Frag) (hK : X.K = K) : CallR X (.builtin "sum") (rSumL K) := by
  subst hK
  intro pins s σ H xs us Q I r h
  obtain ⟨p, ns, rfl, hq, q⟩ := h
  obtain ⟨u, rfl, rx⟩ := vals1 r
  obtain rfl : u = Value.ref p := rx
  obtain ⟨its, rv, hl, hz⟩ := I.list hq
  have hIL := hl.isList
  have hlen := rv.length
  rw [List.length_map] at hlen
  have hlt : p < s.heap.objs.size := by
    obtain ⟨_, e, _⟩ := _root_.id hIL
    exact Heap.lt_size e
  refine call_sum_walkG (wpAny_pyIter_list hIL ?_)
  refine ⟨s.heap.objs.size, [s.heap.objs.size, p], [s.heap.objs.size], its.toArray.size, _, _, fun j => ns.getD j 0, rfl, Walks.list (show X.A.in1.handled = none from hh) _ _ (Nat.ne_of_lt hlt) _, ⟨⟨_, Heap.get?_push_size _ rfl, rfl, rfl⟩, ?_⟩, fun b hb => ?_, fun i v hv => ?_, fun h' tk t' hk => ⟨.int ns.sum, H, ?_, ?_, q⟩⟩
  · obtain ⟨ob, e, r⟩ := _root_.id hIL
    exact ⟨ob, Heap.get?_push_of_some _ e, r⟩
  · show b < (s.heap.push _).objs.size
    rw [Heap.size_push]
    rcases List.mem_cons.mp hb with z | z
    · rw [z]; exact Nat.lt_succ_self _
    · rw [List.mem_singleton.mp z]; exact Nat.lt_succ_of_lt hlt
  · obtain ⟨x, hx, rx⟩ := Qe.vals_at rv hv
    rw [List.getElem?_map] at hx
    cases hn : ns[i]? with
    | none => rw [hn] at hx; cases hx
    | some n =>
      rw [hn] at hx
      cases hx
      obtain ⟨t, rfl⟩ := rx
      exact ⟨t, by show Value.int n t = .int (ns.getD i 0) t; rw [List.getD_eq_getElem?_getD, hn]; rfl⟩
  · exact I.kept (t' := tk) fun b o e => hk b o (fun z => by
      have := Heap.lt_size e
      rw [List.mem_singleton.mp z] at this
      exact Nat.lt_irrefl _ this) (Heap.get?_push_of_some _ e)
  · refine ⟨t', ?_⟩
    rw [List.size_toArray, ← hlen, preSum_take _ _ (Nat.le_refl _), List.take_length]
section
variable {K : PySem.W.Frag} {σ : L2.St} {G H : Hp} {te tn ta tb : TE} {r : Addr}
theorem eva_sumL {ns : List Int} (h : Eva K te σ G H (.list (ns.map .int))) : Eva K (tCB (rSumL K) (tCons te tNil)) σ G H (.int ns.sum) := fun G1 H1 a Q q => h G1 H1 a _ fun v G2 H2 a2 rv => by
  cases rv with
  | @lst p xs _ hs hx =>
    cases rpa_ints hx
    exact ⟨p, ns, rfl, SqL.of (a2.o _ _ hs), q _ G2 H2 a2 (.int _)⟩
/-! ### [f x for k in range(e)], e and f draw -/
theorem evr_lcR {g : TG} {vs : List Nat} {N : Int} (hN : N ≤ 40000) (hn : EvR K r tn σ G H fun d => ∃ x, d = .int x ∧ 0 ≤ x ∧ x < N) (D : PyData → Prop)
    (hb : ∀ (i : Nat) G' H', AdvR [r] G H G' H' → Bd g (wipe σ vs) (.int (i : Nat)) H' fun σ2 => wipe σ2 vs = wipe σ vs ∧ EvR K r te σ2 G' H' D) :
    EvR K r (tLc (iRng1 (tCons tn tNil)) g tYes te vs) σ G H (fun d => ∃ ds : List PyData, d = .list ds ∧ (ds.length : Int) < N ∧ ∀ e ∈ ds, D e) := fun G1 H1 a w Q q =>
  hn G1 H1 a w _ fun v d G2 H2 hd a2 w2 rv => by
    obtain ⟨x, rfl, x0, x1⟩ := hd
    cases rp_int rv
    have key := evr_lc (r := r) (te := te) (σ := σ) (G := G2) (H := H2) (g := g) (vs := vs) (wi := iRng1 (tCons (tC (.int x)) tNil)) (List.range x.toNat) (fun i => .int (0 + (i : Nat))) (fun _ d => D d)
      (fun G' H' a' => src_rng1 (K := K) eva_int (by omega) (by omega)) (by rw [List.length_range]; omega) (fun i k v' G' H' hi a' rv' => by
        cases rp_int rv'
        obtain ⟨rfl, _⟩ := range_get hi
        rw [Int.zero_add]
        exact hb k G' H' ((a.trans a2).trans a'))
    refine key G2 H2 (.refl a2.o) w2 Q fun v3 d3 G3 H3 h3 a3 w3 r3 => ?_
    obtain ⟨ds, rfl, hl, hds⟩ := h3
    rw [List.length_range] at hl
    refine q _ _ G3 H3 ⟨ds, rfl, by omega, fun e he => ?_⟩ (a2.trans a3) w3 r3
    obtain ⟨j, hj, rfl⟩ := List.getElem_of_mem he
    exact hds j j _ (List.getElem?_range (by omega)) (List.getElem?_eq_getElem hj)
theorem lst_ints {Pz : Int → Prop} : ∀ {ds : List PyData}, (∀ e ∈ ds, ∃ x, e = .int x ∧ Pz x) → ∃ as : List Int, ds = as.map .int ∧ ∀ a ∈ as, Pz a
  | [], _ => ⟨[], rfl, fun a h => by cases h⟩
  | d :: ds, h => by
    obtain ⟨x, rfl, hx⟩ := h d List.mem_cons_self
    obtain ⟨as, rfl, ha⟩ := lst_ints fun e he => h e (List.mem_cons_of_mem _ he)
    exact ⟨x :: as, rfl, fun a hm => by
      rcases List.mem_cons.mp hm with rfl | hm
      · exact hx
      · exact ha a hm⟩
/-! ### a, b = [], e: the list one's own -/
theorem qt_two {i j : Nat} {D : Ends} {tz : TS} {d : PyData} (k : Ex G H) (h : Eva K te σ G H d)
    (c : ∀ p v G1 H1, H p = none → Adv G H G1 H1 → Own G1 H1 p (.lst []) → Rp K G1 v d → tz D ((σ.set i (some (.ref p))).set j (some v)) H1) :
    tSeq (tAsg (tTup (tCons (tLst tNil) (tCons te tNil))) (gTup K 2 (gCons (gName i) (gCons (gName j) gNil)))) tz D σ H :=
  ⟨Nat.zero_le _, fun p hp => by
    have a1 : Adv G H G (upd H p (.lst [])) := .lay k hp
    have op : Own G (upd H p (.lst [])) p (.lst []) := ⟨upd_same, fresh_back k hp, fun _ z => nomatch z⟩
    refine h.mono a1 G _ a1.ok _ fun v G2 H2 a2 rv => ⟨by show 2 ≤ sizeLine; decide, fun t ht => ?_⟩
    have a3 : Adv G2 H2 (upd G2 t (.tup [.ref p, v])) (upd H2 t (.tup [.ref p, v])) := .new a2.o ht
    refine ⟨t, _, rfl, SqT.of upd_same, rfl, _, _, rfl, _, _, rfl, rfl, ?_⟩
    exact c p v _ _ hp ((a1.trans a2).trans a3) ((op.adv a2).adv a3) (rv.ex a3.g)⟩
end
def enL {α : Type} (es : List α) : List (Nat × α) := (List.range es.length).zip es
theorem enL_len {α : Type} (es : List α) : (enL es).length = es.length := by unfold enL; rw [List.length_zip, List.length_range, Nat.min_self]
theorem enL_get {α : Type} {es : List α} {i : Nat} {p : Nat × α} (h : (enL es)[i]? = some p) : p.1 = i ∧ es[i]? = some p.2 := by
  unfold enL at h
  rw [List.getElem?_zip_eq_some] at h
  obtain ⟨h1, h2⟩ := h
  refine ⟨?_, h2⟩
  have hi := (List.getElem?_eq_some_iff.mp h1).1
  rw [List.length_range] at hi
  rw [List.getElem?_range hi] at h1
  exact (Option.some.inj h1).symm
theorem enumD_mapL {α : Type} (es : List α) (f : α → PyData) : enumD (es.map f) = (enL es).map fun p => .tuple [.int (p.1 : Nat), f p.2] := by
  refine List.ext_getElem? fun i => ?_
  by_cases hi : i < es.length
  · have h1 : es[i]? = some es[i] := List.getElem?_eq_getElem hi
    rw [enumD_get (d := f es[i]) (by rw [List.getElem?_map, h1]; rfl), List.getElem?_map]
    have h2 : (enL es)[i]? = some (i, es[i]) := by
      unfold enL
      rw [List.getElem?_zip_eq_some]
      exact ⟨List.getElem?_range hi, h1⟩
    rw [h2]; rfl
  · rw [List.getElem?_eq_none (by rw [enumD_len, List.length_map]; omega), List.getElem?_eq_none (by rw [List.length_map, enL_len]; omega)]
end Vf

set_option Elab.async false
set_option linter.all false
set_option maxRecDepth 100000
set_option maxHeartbeats 4000000
namespace K56
theorem pip_fdiv {X : L2.Cx} : L2.PIp X .FloorDiv (L2.rI L2.CDiv fun i j => .int (i / j)) := L2.iop_fdiv
open PySem PySem.Spec PyProof.Rows L2 Vf
open Evl hiding Ex Ex.refl Ex.trans Ex.new Ex.mut ex_rd ex_l ex_t fresh_back
def topS (i : Nat) : Stmt := PySem.Challenge.pw_shiftcore_k56_whole_order_of_periods.main.body.getD i (.Pass ⟨0, 0, 0, 0⟩)
abbrev s__law_taken : Stmt := topS 11
abbrev N__law_taken : List PySem.Str := ["row", "many", "found", "cell"]
theorem sc__law_taken : FnScope N__law_taken ["row", "many"] (defScope s__law_taken) := ⟨rfl, rfl, rfl, by decide +kernel, rfl, by decide +kernel, by decide +kernel⟩
abbrev s__law_pick : Stmt := topS 12
abbrev N__law_pick : List PySem.Str := ["row", "things"]
theorem sc__law_pick : FnScope N__law_pick ["row", "things"] (defScope s__law_pick) := ⟨rfl, rfl, rfl, by decide +kernel, rfl, by decide +kernel, by decide +kernel⟩
abbrev s__law_number : Stmt := topS 16
abbrev N__law_number : List PySem.Str := ["row", "odd", "turn"]
theorem sc__law_number : FnScope N__law_number ["row"] (defScope s__law_number) := ⟨rfl, rfl, rfl, by decide +kernel, rfl, by decide +kernel, by decide +kernel⟩
abbrev s__law_alike : Stmt := topS 13
abbrev N__law_alike : List PySem.Str := ["found", "due", "k"]
theorem sc__law_alike : FnScope N__law_alike ["found", "due"] (defScope s__law_alike) := ⟨rfl, rfl, rfl, by decide +kernel, rfl, by decide +kernel, by decide +kernel⟩
abbrev s_is_between : Stmt := topS 4
abbrev N_is_between : List PySem.Str := ["value", "low", "high"]
theorem sc_is_between : FnScope N_is_between ["value", "low", "high"] (defScope s_is_between) := ⟨rfl, rfl, rfl, by decide +kernel, rfl, by decide +kernel, by decide +kernel⟩
abbrev s_check_number : Stmt := topS 5
abbrev N_check_number : List PySem.Str := ["number", "low", "high"]
theorem sc_check_number : FnScope N_check_number ["number", "low", "high"] (defScope s_check_number) := ⟨rfl, rfl, rfl, by decide +kernel, rfl, by decide +kernel, by decide +kernel⟩
abbrev s__place : Stmt := topS 9
abbrev N__place : List PySem.Str := ["number", "odd", "twos"]
theorem sc__place : FnScope N__place ["number"] (defScope s__place) := ⟨rfl, rfl, rfl, by decide +kernel, rfl, by decide +kernel, by decide +kernel⟩
abbrev s_comes_before : Stmt := topS 8
abbrev N_comes_before : List PySem.Str := ["one", "other"]
theorem sc_comes_before : FnScope N_comes_before ["one", "other"] (defScope s_comes_before) := ⟨rfl, rfl, rfl, by decide +kernel, rfl, by decide +kernel, by decide +kernel⟩
abbrev s__law_rank : Stmt := topS 15
abbrev N__law_rank : List PySem.Str := ["number", "twos", "turn"]
theorem sc__law_rank : FnScope N__law_rank ["number"] (defScope s__law_rank) := ⟨rfl, rfl, rfl, by decide +kernel, rfl, by decide +kernel, by decide +kernel⟩
abbrev s_law : Stmt := topS 17
abbrev N_law : List PySem.Str := ["script", "row", "turn", "one", "other", "third"]
theorem sc_law : FnScope N_law ["script"] (defScope s_law) := ⟨rfl, rfl, rfl, by decide +kernel, rfl, by decide +kernel, by decide +kernel⟩
/-- what the top leaves -/
structure Tops (K : PySem.W.Frag) (mg : PySem.Str → Option Value) (base : Heap) where
  a__law_taken : Addr
  d__law_taken : FuncData
  F__law_taken : Fun K "_law_taken" "_law_taken" s__law_taken a__law_taken d__law_taken
  g__law_taken : mg "_law_taken" = some (.ref a__law_taken)
  b__law_taken : Binds K d__law_taken ["row", "many"] []
  a__law_pick : Addr
  d__law_pick : FuncData
  F__law_pick : Fun K "_law_pick" "_law_pick" s__law_pick a__law_pick d__law_pick
  g__law_pick : mg "_law_pick" = some (.ref a__law_pick)
  b__law_pick : Binds K d__law_pick ["row", "things"] []
  a__law_number : Addr
  d__law_number : FuncData
  F__law_number : Fun K "_law_number" "_law_number" s__law_number a__law_number d__law_number
  g__law_number : mg "_law_number" = some (.ref a__law_number)
  b__law_number : Binds K d__law_number ["row"] []
  a__law_alike : Addr
  d__law_alike : FuncData
  F__law_alike : Fun K "_law_alike" "_law_alike" s__law_alike a__law_alike d__law_alike
  g__law_alike : mg "_law_alike" = some (.ref a__law_alike)
  b__law_alike : Binds K d__law_alike ["found", "due"] []
  a_is_between : Addr
  d_is_between : FuncData
  F_is_between : Fun K "is_between" "is_between" s_is_between a_is_between d_is_between
  g_is_between : mg "is_between" = some (.ref a_is_between)
  b_is_between : Binds K d_is_between ["value", "low", "high"] []
  a_check_number : Addr
  d_check_number : FuncData
  F_check_number : Fun K "check_number" "check_number" s_check_number a_check_number d_check_number
  g_check_number : mg "check_number" = some (.ref a_check_number)
  b_check_number : Binds K d_check_number ["number", "low", "high"] []
  a__place : Addr
  d__place : FuncData
  F__place : Fun K "_place" "_place" s__place a__place d__place
  g__place : mg "_place" = some (.ref a__place)
  b__place : Binds K d__place ["number"] []
  a_comes_before : Addr
  d_comes_before : FuncData
  F_comes_before : Fun K "comes_before" "comes_before" s_comes_before a_comes_before d_comes_before
  g_comes_before : mg "comes_before" = some (.ref a_comes_before)
  b_comes_before : Binds K d_comes_before ["one", "other"] []
  a__law_rank : Addr
  d__law_rank : FuncData
  F__law_rank : Fun K "_law_rank" "_law_rank" s__law_rank a__law_rank d__law_rank
  g__law_rank : mg "_law_rank" = some (.ref a__law_rank)
  b__law_rank : Binds K d__law_rank ["number"] []
  a_law : Addr
  d_law : FuncData
  F_law : Fun K "law" "law" s_law a_law d_law
  g_law : mg "law" = some (.ref a_law)
  b_law : Binds K d_law ["script"] []
  z_bool : mg "bool" = none
  z_int : mg "int" = none
  z_isinstance : mg "isinstance" = none
  z_len : mg "len" = none
  z_list : mg "list" = none
  z_range : mg "range" = none
  z_str : mg "str" = none
  z_tuple : mg "tuple" = none
  t_MOST_NUMBER : Tok
  c_MOST_NUMBER : mg "MOST_NUMBER" = some (.int 1000000 t_MOST_NUMBER)
section
variable {P : Program} {w : World} {K : PySem.W.Frag} {mg : PySem.Str → Option Value} {base : Heap} (T : Tops K mg base)
theorem atI_int {α : Type} {l : List α} {i : Int} {x : α} (h0 : 0 ≤ i) (h : l[i.toNat]? = some x) : atI l i = some x := by
  have := atI_nat h
  rwa [Int.toNat_of_nonneg h0] at this
/-! ### is_between -/
def isB (d : PyData) (lo hi : Int) : Bool := match d with
  | .int i => decide (lo ≤ i) && decide (i ≤ hi)
  | _ => false
def R_is_between (ds : List PyData) (d : PyData) : Prop := ∃ x lo hi, ds = [x, .int lo, .int hi] ∧ d = .bool (isB x lo hi)
theorem ok_is_between : FnOk P w K mg base CX0 1 T.a_is_between T.d_is_between ["value", "low", "high"] (PureSp K R_is_between) := by
  refine T.F_is_between.ok sc_is_between (fun vs H Q E h => ?_) (fun cdv A outer s H vs Q E hr h => ?_)
  · obtain ⟨G, ds, d, k, r, ⟨x, lo, hi, rfl, rfl⟩, q⟩ := h
    exact rpa_len r
  · obtain ⟨G, ds, d, k, r, ⟨x, lo, hi, rfl, rfl⟩, q⟩ := h
    obtain ⟨v1, v2, v3, rfl, r1, r2, r3⟩ := rpa3 r
    refine ⟨_, (pss_one (ps_ret (pe_and (pe_callB call_isi (by rfl) T.z_isinstance (by decide +kernel) (pa_cons (pv 0) (pa_cons (pe_bltn (v := .ty "int") (u := .type "int") (by rfl) T.z_int (by decide +kernel) rfl) pa_nil))) (pe_and (pe_not (pe_callB call_isi (by rfl) T.z_isinstance (by decide +kernel) (pa_cons (pv 0) (pa_cons (pe_bltn (v := .ty "bool") (u := .type "bool") (by rfl) T.z_bool (by decide +kernel) rfl) pa_nil)))) (pe_one (pe_chain op_le op_le (pv 1) (pv 0) (pv 2))))))), ?_⟩
    refine st_ret k ?_ q
    have e1 := eva_isi (σ := start N_is_between [v1, v2, v3]) (H := H) (ta := tVar 0) (T := "int") (eva_var rfl r1)
    cases x with
    | int i => exact eva_is (eva_and e1 fun _ => eva_and (eva_not (eva_isi (eva_var rfl r1))) fun _ => eva_chain (eva_var rfl r2) (eva_var rfl r1) (eva_var rfl r3)) rfl
    | bool b => exact eva_is (eva_and e1 fun _ => eva_and (c := false) (eva_not (eva_isi (eva_var rfl r1))) fun z => by cases z) rfl
    | _ => exact eva_is (eva_and (c := false) e1 fun z => by cases z) rfl
def R_check_number (ds : List PyData) (d : PyData) : Prop := ∃ l lo hi : Int, ds = [.int l, .int lo, .int hi] ∧ lo ≤ l ∧ l ≤ hi ∧ d = .none
theorem ok_check_number : FnOk P w K mg base CX0 2 T.a_check_number T.d_check_number ["number", "low", "high"] (PureSp K R_check_number) := by
  refine T.F_check_number.ok sc_check_number (fun vs H Q E h => ?_) (fun cdv A outer s H vs Q E hr h => ?_)
  · obtain ⟨G, ds, d, k, r, ⟨l, lo, hi, rfl, _⟩, q⟩ := h
    exact rpa_len r
  · obtain ⟨G, ds, d, k, r, ⟨l, lo, hi, rfl, h1, h2, rfl⟩, q⟩ := h
    obtain ⟨v1, v2, v3, rfl, r1, r2, r3⟩ := rpa3 r
    refine ⟨_, (pss_one (ps_if (pt_not (pt_val (pe_call (ok_is_between T) hr (by rfl) T.g_is_between T.F_is_between.kp T.b_is_between .nil pass0 (pa_cons (pv 0) (pa_cons (pv 1) (pa_cons (pv 2) pa_nil)))))) (pss_one ps_never) pss_nil)), ?_⟩
    exact st_unless k (evt_not (evt_B (eva_call (evaA_cons (eva_var rfl r1) (evaA_cons (eva_var rfl r2) (evaA_cons (eva_var rfl r3) evaA_nil))) ⟨_, _, _, rfl, rfl⟩))) (by simp [isB, h1, h2]) fun G1 H1 a1 => q _ G1 H1 a1 .non
/-! ### a number by its twos and what is odd in it -/
structure Tw (n : Int) (t o : Nat) : Prop where
  eq : n = ((2 ^ t * o : Nat) : Int)
  odd : o % 2 = 1
  small : t ≤ 20
theorem tw_of : ∀ (k n : Nat), 1 ≤ n → n < 2 ^ k → k ≤ 20 → ∃ t o, n = 2 ^ t * o ∧ o % 2 = 1 ∧ t ≤ k
  | 0, n, h1, h2, _ => by omega
  | k + 1, n, h1, h2, hk => by
    by_cases h : n % 2 = 1
    · exact ⟨0, n, by simp, h, by omega⟩
    · obtain ⟨t, o, e, ho, ht⟩ := tw_of k (n / 2) (by omega) (by rw [Nat.pow_succ] at h2; omega) (by omega)
      refine ⟨t + 1, o, ?_, ho, by omega⟩
      have : n = 2 * (n / 2) := by omega
      rw [this, e, Nat.pow_succ]
      rw [Nat.mul_comm (2 ^ t) 2, Nat.mul_assoc]
theorem tw_ex {n : Int} (h1 : 1 ≤ n) (h2 : n ≤ 1000000) : ∃ t o, Tw n t o := by
  obtain ⟨t, o, e, ho, ht⟩ := tw_of 20 n.toNat (by omega) (by show n.toNat < 1048576; omega) (by omega)
  exact ⟨t, o, by omega, ho, ht⟩
def placeL (t o : Nat) : List Int := if 1 < o then [0, t, o] else [1, -(t : Int), 1]
theorem half_odd {t o : Nat} (ho : o % 2 = 1) : (((2 ^ t * o : Nat) : Int) % 2 == 0) = !(t == 0) := by
  cases t with
  | zero =>
    have : ((2 ^ 0 * o : Nat) : Int) % 2 = 1 := by simp; omega
    rw [this]; rfl
  | succ t =>
    have : ((2 ^ (t + 1) * o : Nat) : Int) % 2 = 0 := by rw [Nat.pow_succ, Nat.mul_comm (2 ^ t) 2, Nat.mul_assoc]; omega
    rw [this]; rfl
theorem half_div {t o : Nat} : ((2 ^ (t + 1) * o : Nat) : Int) / 2 = ((2 ^ t * o : Nat) : Int) := by
  rw [Nat.pow_succ, Nat.mul_comm (2 ^ t) 2, Nat.mul_assoc]; omega
def R__place (ds : List PyData) (d : PyData) : Prop := ∃ n t o, ds = [.int n] ∧ Tw n t o ∧ d = .tuple ((placeL t o).map .int)
theorem st_augF {σ : L2.St} {G H : Hp} {te : TE} {D : Ends} {i : Nat} {a b : Int} (k : Ex G H) (hi : σ[i]? = some (some (.int a))) (h : Eva K te σ G H (.int b)) (hb : CDiv a b) (c : ∀ G1 H1, Adv G H G1 H1 → D.nx (σ.set i (some (.int (a / b)))) H1) :
    tAug i te (rI CDiv fun i j => .int (i / j)) D σ H := ⟨_, hi, h G H (.refl k) _ fun v G1 H1 a1 rv => by
  cases rp_int rv
  exact ⟨_, _, rfl, rfl, hb, c G1 H1 a1⟩⟩
theorem st_augA {σ : L2.St} {G H : Hp} {te : TE} {D : Ends} {i : Nat} {a b : Int} (k : Ex G H) (hi : σ[i]? = some (some (.int a))) (h : Eva K te σ G H (.int b)) (c : ∀ G1 H1, Adv G H G1 H1 → D.nx (σ.set i (some (.int (a + b)))) H1) :
    tAug i te (ipI fun i j => i + j) D σ H := ⟨_, hi, h G H (.refl k) _ fun v G1 H1 a1 rv => by
  cases rp_int rv
  exact ⟨_, _, rfl, rfl, c G1 H1 a1⟩⟩
theorem ok__place : FnOk P w K mg base CX0 1 T.a__place T.d__place ["number"] (PureSp K R__place) := by
  refine T.F__place.ok sc__place (fun vs H Q E h => ?_) (fun cdv A outer s H vs Q E hr h => ?_)
  · obtain ⟨G, ds, d, k, r, ⟨n, t, o, rfl, _⟩, q⟩ := h
    exact rpa_len r
  · obtain ⟨G, ds, d, k, r, ⟨n, t, o, rfl, ⟨rfl, ho, ht⟩, rfl⟩, q⟩ := h
    obtain ⟨v1, rfl, r1⟩ := rpa1 r
    cases rp_int r1
    refine ⟨_, (pss_cons (ps_set (i := 1) sc__place.nd rfl (Or.inl rfl) (pv 0))
      (pss_cons (ps_set (i := 2) sc__place.nd rfl (Or.inl rfl) pe_int)
      (pss_cons (ps_while PassesOwn.never (pt_cmpR (op_eqK K rfl hr.units) (pe_op op_mod (pv 1) pe_int) pe_int (nomark _)) (pss_cons (ps_aug (i := 1) sc__place.nd rfl (Or.inl rfl) pe_int pip_fdiv)
      (pss_one (ps_aug (i := 2) sc__place.nd rfl (Or.inl rfl) pe_int ip_add))))
      (pss_one (ps_ret (pe_ifExp (pt_cmpR op_gt (pv 1) pe_int (nomark _)) (pe_tup (pa_cons pe_int (pa_cons (pv 2) (pa_cons (pv 1) pa_nil)))) (pe_tup (pa_cons pe_int (pa_cons (pe_un un_neg (pv 2)) (pa_cons pe_int pa_nil)))))))))), ?_⟩
    refine qt_asg k (eva_var (K := K) rfl (.int ((2 ^ t * o : Nat) : Int))) fun v2 G1 H1 a1 r2 => ?_
    cases rp_int r2
    refine qt_asg a1.o (eva_int (K := K)) fun v3 G2 H2 a2 r3 => ?_
    cases rp_int r3
    refine qt_while (fun m σ G' H' => Adv G H G' H' ∧ ∃ (j : Nat), σ = [some (.int ((2 ^ t * o : Nat) : Int)), some (.int ((2 ^ m * o : Nat) : Int)), some (.int (j : Nat))] ∧ m + j = t) t ⟨a1.trans a2, 0, rfl, by omega⟩ ?_
    rintro m σ' G3 H3 ⟨A3, j, rfl, hj⟩
    refine ⟨A3.o, _, evt_test (eva_eqI (eva_opc (g := fun i j => i % j) (eva_var (K := K) rfl (.int ((2 ^ m * o : Nat) : Int))) eva_int (by decide)) eva_int), fun hb G4 H4 a4 => ?_, fun hb G4 H4 a4 => ?_⟩
    · rw [half_odd ho] at hb
      obtain ⟨m', rfl⟩ : ∃ m', m = m' + 1 := ⟨m - 1, by cases m with | zero => cases hb | succ m => rfl⟩
      refine st_augF (K := K) a4.o rfl eva_int ⟨by decide, by decide⟩ fun G5 H5 a5 => ?_
      refine st_augA (K := K) a5.o rfl eva_int fun G6 H6 a6 => ⟨m', G6, by omega, A3.trans (a4.trans (a5.trans a6)), j + 1, ?_, by omega⟩
      show [_, some (V.int (((2 ^ (m' + 1) * o : Nat) : Int) / 2)), some (V.int ((j : Nat) + 1))] = _
      rw [half_div]; rfl
    · rw [half_odd ho] at hb
      have m0 : m = 0 := by
        cases m with
        | zero => rfl
        | succ m => cases hb
      subst m0
      have jt : j = t := by omega
      subst jt
      have e1 : ((2 ^ 0 * o : Nat) : Int) = (o : Nat) := by simp
      rw [e1]
      refine st_ret a4.o (eva_if (evt_test (eva_cmp (g := fun i j => decide (j < i)) (eva_var (K := K) rfl (.int (o : Nat))) eva_int)) (fun h1 => ?_) (fun h1 => ?_)) fun v G5 H5 a5 rv => q v G5 H5 (A3.trans (a4.trans a5)) rv
      · have : 1 < o := by have := of_decide_eq_true h1; omega
        exact eva_is (eva_tup (evaA_cons eva_int (evaA_cons (eva_var rfl (.int (j : Nat))) (evaA_cons (eva_var rfl (.int (o : Nat))) evaA_nil)))) (by unfold placeL; rw [if_pos this]; rfl)
      · have : ¬ 1 < o := by have := of_decide_eq_false h1; omega
        exact eva_is (eva_tup (evaA_cons eva_int (evaA_cons (eva_un (eva_var rfl (.int (j : Nat)))) (evaA_cons eva_int evaA_nil)))) (by unfold placeL; rw [if_neg this]; rfl)
theorem eva_ltT {σ : L2.St} {G H : Hp} {ta tb : TE} {ns ms : List Int} (ha : Eva K ta σ G H (.tuple (ns.map .int))) (hb : Eva K tb σ G H (.tuple (ms.map .int))) : Eva K (tOp (rLtT K) ta tb) σ G H (.bool (HT.lexLt ns ms)) := fun G1 H1 a Q q =>
  ha G1 H1 a _ fun v G2 H2 a2 r => hb G2 H2 (a.trans a2) _ fun v' G3 H3 a3 r' => by
    cases r with
    | @tup p xs _ hs hx =>
      cases r' with
      | @tup p' xs' _ hs' hx' =>
        cases rpa_ints hx
        cases rpa_ints hx'
        exact ⟨p, p', ns, ms, rfl, rfl, ex_t (a3.g.trans a3.o) hs, ex_t a3.o hs', q _ G3 H3 (a2.trans a3) (.bl _)⟩
def befB (t o t' o' : Nat) : Bool := HT.lexLt (placeL t o) (placeL t' o')
def R_comes_before (ds : List PyData) (d : PyData) : Prop := ∃ n m t o t' o', ds = [.int n, .int m] ∧ 1 ≤ n ∧ n ≤ 1000000 ∧ 1 ≤ m ∧ m ≤ 1000000 ∧ Tw n t o ∧ Tw m t' o' ∧ d = .bool (befB t o t' o')
theorem ok_comes_before : FnOk P w K mg base CX0 3 T.a_comes_before T.d_comes_before ["one", "other"] (PureSp K R_comes_before) := by
  refine T.F_comes_before.ok sc_comes_before (fun vs H Q E h => ?_) (fun cdv A outer s H vs Q E hr h => ?_)
  · obtain ⟨G, ds, d, k, r, ⟨n, m, t, o, t', o', rfl, _⟩, q⟩ := h
    exact rpa_len r
  · obtain ⟨G, ds, d, k, r, ⟨n, m, t, o, t', o', rfl, n1, n2, m1, m2, hn, hm, rfl⟩, q⟩ := h
    obtain ⟨v1, v2, rfl, r1, r2⟩ := rpa2 r
    refine ⟨_, (pss_cons (ps_expr (pe_call (ok_check_number T) hr (by rfl) T.g_check_number T.F_check_number.kp T.b_check_number .nil pass0 (pa_cons (pv 0) (pa_cons pe_int (pa_cons (pe_glob (v := .int 1000000) rfl T.c_MOST_NUMBER ⟨_, rfl⟩) pa_nil)))))
      (pss_cons (ps_expr (pe_call (ok_check_number T) hr (by rfl) T.g_check_number T.F_check_number.kp T.b_check_number .nil pass0 (pa_cons (pv 1) (pa_cons pe_int (pa_cons (pe_glob (v := .int 1000000) rfl T.c_MOST_NUMBER ⟨_, rfl⟩) pa_nil)))))
      (pss_one (ps_ret (pe_cmpR (op_ltT hr.units0) (pe_call (ok__place T) (hr.mono (by decide)) (by rfl) T.g__place T.F__place.kp T.b__place .nil pass0 (pa_cons (pv 0) pa_nil)) (pe_call (ok__place T) (hr.mono (by decide)) (by rfl) T.g__place T.F__place.kp T.b__place .nil pass0 (pa_cons (pv 1) pa_nil)) (nomark _)))))), ?_⟩
    refine qt_drop k (eva_call (evaA_cons (eva_var rfl r1) (evaA_cons eva_int (evaA_cons eva_int evaA_nil))) ⟨_, _, _, rfl, n1, n2, rfl⟩) fun G1 H1 a1 => ?_
    refine qt_drop a1.o (eva_call (evaA_cons (eva_var rfl (r2.ex a1.g)) (evaA_cons eva_int (evaA_cons eva_int evaA_nil))) ⟨_, _, _, rfl, m1, m2, rfl⟩) fun G2 H2 a2 => ?_
    exact st_ret a2.o (eva_ltT (eva_call (evaA_cons (eva_var rfl (r1.ex (a1.trans a2).g)) evaA_nil) ⟨n, t, o, rfl, hn, rfl⟩) (eva_call (evaA_cons (eva_var rfl (r2.ex (a1.trans a2).g)) evaA_nil) ⟨m, t', o', rfl, hm, rfl⟩)) fun v G3 H3 a3 rv => q v G3 H3 ((a1.trans a2).trans a3) rv
/-! ### _law_rank -/
def rkL (t o : Nat) : List Int := if o = 1 then [1, 0 - (t : Int), 0] else [0, t, o]
def R__law_rank (ds : List PyData) (d : PyData) : Prop := ∃ n t o, ds = [.int n] ∧ Tw n t o ∧ d = .tuple ((rkL t o).map .int)
theorem ok__law_rank : FnOk P w K mg base CX0 1 T.a__law_rank T.d__law_rank ["number"] (PureSp K R__law_rank) := by
  refine T.F__law_rank.ok sc__law_rank (fun vs H Q E h => ?_) (fun cdv A outer s H vs Q E hr h => ?_)
  · obtain ⟨G, ds, d, k, r, ⟨n, t, o, rfl, _⟩, q⟩ := h
    exact rpa_len r
  · obtain ⟨G, ds, d, k, r, ⟨n, t, o, rfl, ⟨rfl, ho, ht⟩, rfl⟩, q⟩ := h
    obtain ⟨v1, rfl, r1⟩ := rpa1 r
    cases rp_int r1
    refine ⟨_, (pss_cons (ps_set (i := 1) sc__law_rank.nd rfl (Or.inl rfl) pe_int)
      (pss_cons (ps_for PassesOwn.never rfl (pi_range1 (by rfl) T.z_range (pa_cons pe_int pa_nil)) (pg_name (i := 2) sc__law_rank.nd rfl (Or.inl rfl)) (pss_cons (ps_if (pt_cmpR (op_eqK K rfl hr.units) (pe_op op_mod (pe_callTy call_int1 (by rfl) T.z_int (by decide +kernel) (pa_cons (pv 0) pa_nil)) pe_int) pe_int (nomark _)) (pss_one ps_break) pss_nil)
      (pss_one (ps_par (i := 0) (j := 1) rfl sc__law_rank.nd rfl rfl (by decide) rfl rfl (pa_cons (pe_op op_fdiv (pv 0) pe_int) (pa_cons (pe_op op_add (pv 1) pe_int) pa_nil)) (by rfl)))))
      (pss_one (ps_ret (pe_ifExp (pt_cmpR (op_eqK K rfl hr.units) (pv 0) pe_int (nomark _)) (pe_tup (pa_cons pe_int (pa_cons (pe_op op_sub pe_int (pv 1)) (pa_cons pe_int pa_nil)))) (pe_tup (pa_cons pe_int (pa_cons (pv 1) (pa_cons (pv 0) pa_nil))))))))), ?_⟩
    refine qt_asg k (eva_int (K := K)) fun v2 G1 H1 a1 r2 => ?_
    cases rp_int r2
    have fin : ∀ (G' H' : Hp) (o3 : Option V), Adv G H G' H' → tRet (tIf (tTest (tOp (rEqD K) (tVar 0) (tC (.int 1)))) (tTup (tCons (tC (.int 1)) (tCons (tOp (rI0 fun i j => .int (i - j)) (tC (.int 0)) (tVar 1)) (tCons (tC (.int 0)) tNil)))) (tTup (tCons (tC (.int 0)) (tCons (tVar 1) (tCons (tVar 0) tNil))))) { nx := fun _ H' => Q V.non H', rt := Q } [some (.int (o : Nat)), some (.int (t : Nat)), o3] H' := fun G' H' o3 a => by
      refine st_ret a.o (eva_if (evt_test (eva_eqI (eva_var (K := K) rfl (.int (o : Nat))) eva_int)) (fun h1 => ?_) (fun h1 => ?_)) fun v G5 H5 a5 rv => q v G5 H5 (a.trans a5) rv
      · have : o = 1 := by
          have := eq_of_beq h1
          omega
        exact eva_is (eva_tup (evaA_cons eva_int (evaA_cons (eva_op (g := fun i j => i - j) eva_int (eva_var rfl (.int (t : Nat)))) (evaA_cons eva_int evaA_nil)))) (by unfold rkL; rw [if_pos this]; rfl)
      · have : ¬ o = 1 := fun z => by rw [z] at h1; cases h1
        exact eva_is (eva_tup (evaA_cons eva_int (evaA_cons (eva_var rfl (.int (t : Nat))) (evaA_cons (eva_var rfl (.int (o : Nat))) evaA_nil)))) (by unfold rkL; rw [if_neg this]; rfl)
    refine qt_for (List.range 30) (fun i => .int (0 + (i : Nat))) (fun B i σ G' H' => Ex B G' ∧ Adv G H G' H' ∧ i ≤ t ∧ ∃ o3, σ = [some (.int ((2 ^ (t - i) * o : Nat) : Int)), some (.int (i : Nat)), o3]) a1.o (src_rng1 (K := K) (n := 30) eva_int)
      (fun G2 H2 a2 => ⟨Ex.refl _, a1.trans a2, Nat.zero_le _, none, rfl⟩) (fun B i σ' G' H' z => ⟨z.1, z.2.1.o⟩) ?_ ?_
    · rintro B i x vx σ' G2 H2 G3 H3 hi ⟨eB, A2, hit, o3, rfl⟩ a3 rx
      refine bd_name ?_
      have hmod : (((2 ^ (t - i) * o : Nat) : Int) % 2 == 1) = (t - i == 0) := by
        have := half_odd (t := t - i) ho
        rw [Bool.eq_iff_iff]
        constructor
        · intro z
          have z := eq_of_beq z
          rw [z] at this
          cases h : (t - i == 0) with
          | true => rfl
          | false => rw [h] at this; cases this
        · intro z
          rw [z] at this
          have h2 := Int.emod_two_eq ((2 ^ (t - i) * o : Nat) : Int)
          rcases h2 with h2 | h2
          · rw [h2] at this; cases this
          · rw [h2]; rfl
      refine qt_when a3.o (evt_is (evt_test (eva_eqI (eva_opc (g := fun i j => i % j) (eva_int1 (eva_var (K := K) rfl (.int ((2 ^ (t - i) * o : Nat) : Int)))) eva_int (by decide)) eva_int)) hmod) (fun hb G4 H4 a4 => ?_) fun hb G4 H4 a4 => ?_
      · have : t - i = 0 := eq_of_beq hb
        have e1 : ((2 ^ (t - i) * o : Nat) : Int) = (o : Nat) := by rw [this]; simp
        have e2 : i = t := by omega
        rw [e1, e2]
        exact fin G4 H4 _ (A2.trans (a3.trans a4))
      · obtain ⟨m, hm⟩ : ∃ m, t - i = m + 1 := ⟨t - i - 1, by
          have : t - i ≠ 0 := fun z => by rw [z] at hb; cases hb
          omega⟩
        refine (evaA_cons (eva_opc (g := fun i j => i / j) (eva_var (K := K) rfl (.int ((2 ^ (t - i) * o : Nat) : Int))) eva_int ⟨by decide, by decide⟩) (evaA_cons (eva_op (g := fun i j => i + j) (eva_var (K := K) rfl (.int (i : Nat))) eva_int) evaA_nil)) G4 H4 a4.ok _ fun vs G5 H5 a5 rv => ?_
        obtain ⟨u1, u2, rfl, t1, t2⟩ := rpa2 rv
        cases rp_int t1
        cases rp_int t2
        refine ⟨_, _, rfl, G5, eB.trans (a3.g.trans (a4.g.trans a5.g)), A2.trans (a3.trans (a4.trans a5)), by omega, some vx, ?_⟩
        show [some (V.int (((2 ^ (t - i) * o : Nat) : Int) / 2)), some (V.int ((i : Nat) + 1)), some vx] = [some (V.int ((2 ^ (t - (i + 1)) * o : Nat) : Int)), _, some vx]
        rw [hm, half_div, show t - (i + 1) = m by omega]; rfl
    · rintro B σ' G2 H2 ⟨eB, A2, hit, o3, rfl⟩
      rw [List.length_range] at hit
      omega
end
end K56

set_option Elab.async false
set_option linter.all false
set_option maxRecDepth 100000
set_option maxHeartbeats 4000000
namespace K56
open PySem PySem.Spec PyProof.Rows L2 Vf
open Evl hiding Ex Ex.refl Ex.trans Ex.new Ex.mut ex_rd ex_l ex_t fresh_back
section
variable {P : Program} {w : World} {K : PySem.W.Frag} {mg : PySem.Str → Option Value} {base : Heap} (T : Tops K mg base)
theorem ok__law_taken : FnOk P w K mg base CX0 1 T.a__law_taken T.d__law_taken ["row", "many"] (TakenSp K) := by
  refine T.F__law_taken.ok sc__law_taken (fun vs H Q E h => ?_) (fun cdv A outer s H vs Q E hr h => ?_)
  · obtain ⟨G, r, many, k, rfl, _⟩ := h
    rfl
  · obtain ⟨G, r, many, k, rfl, hw, m0, m1, q⟩ := h
    obtain ⟨sc, ns, a, b, c, ow, hs, ha⟩ := hw
    refine ⟨_, (pss_cons (ps_if (pt_cmpR op_gt (pe_ix (ix_seqK K rfl) (pv 0) pe_int (fun _ _ => rfl)) pe_int (nomark _)) (pss_cons (ps_set (i := 2) sc__law_taken.nd rfl (Or.inl rfl) (pe_op op_mod (pe_callTy call_int1 (by rfl) T.z_int (by decide +kernel) (pa_cons (pe_ix (ix_seqK K rfl) (pv 0) pe_int (fun _ _ => rfl)) pa_nil)) (pv 1)))
      (pss_cons (ps_asg (pe_op op_fdiv (pe_ix (ix_seqK K rfl) (pv 0) pe_int (fun _ _ => rfl)) (pv 1)) (pg_sub (pv 0) pe_int set_list))
      (pss_one (ps_ret (pv 2))))) pss_nil)
      (pss_cons (ps_asg (pe_op op_add (pe_ix (ix_seqK K rfl) (pv 0) pe_int (fun _ _ => rfl)) pe_int) (pg_sub (pv 0) pe_int set_list))
      (pss_cons (ps_if (pt_cmpR op_gt (pe_ix (ix_seqK K rfl) (pv 0) pe_int (fun _ _ => rfl)) (pe_callB (call_lenK K rfl) (by rfl) T.z_len (by decide +kernel) (pa_cons (pe_ix (ix_seqK K rfl) (pv 0) pe_int (fun _ _ => rfl)) pa_nil)) (nomark _)) (pss_cons (ps_asg (pe_op op_mod (pe_callTy call_int1 (by rfl) T.z_int (by decide +kernel) (pa_cons (pe_op op_add (pe_op op_mul (pe_ix (ix_seqK K rfl) (pv 0) pe_int (fun _ _ => rfl)) pe_int) pe_int) pa_nil)) pe_int) (pg_sub (pv 0) pe_int set_list))
      (pss_one (ps_ret (pe_op op_mod (pe_callTy call_int1 (by rfl) T.z_int (by decide +kernel) (pa_cons (pe_op op_fdiv (pe_ix (ix_seqK K rfl) (pv 0) pe_int (fun _ _ => rfl)) pe_int) pa_nil)) (pv 1))))) pss_nil)
      (pss_cons (ps_set (i := 3) sc__law_taken.nd rfl (Or.inl rfl) (pe_ix (ix_seqK K rfl) (pe_ix (ix_seqK K rfl) (pv 0) pe_int (fun _ _ => rfl)) (pe_op op_sub (pe_ix (ix_seqK K rfl) (pv 0) pe_int (fun _ _ => rfl)) pe_int) (fun _ _ => rfl)))
      (pss_cons (ps_asg (pe_op op_mod (pe_callTy call_int1 (by rfl) T.z_int (by decide +kernel) (pa_cons (pe_op op_add (pe_op op_add (pe_op op_mul (pe_ix (ix_seqK K rfl) (pv 0) pe_int (fun _ _ => rfl)) pe_int) (pv 3)) pe_int) pa_nil)) pe_int) (pg_sub (pv 0) pe_int set_list))
      (pss_cons (ps_if (pt_cmpR op_ge (pv 3) (pe_op op_pow pe_int pe_int) (nomark _)) (pss_one (ps_asg (pe_op op_fdiv (pv 3) (pv 1)) (pg_sub (pv 0) pe_int set_list))) pss_nil)
      (pss_one (ps_ret (pe_op op_mod (pe_callTy call_int1 (by rfl) T.z_int (by decide +kernel) (pa_cons (pv 3) pa_nil)) (pv 1)))))))))), ?_⟩
    have vr : ∀ {G' H'} {σ : L2.St}, σ[0]? = some (some (.ref r)) → EvaV (tVar 0) σ G' H' (.ref r) := fun h => evv_var h
    -- an item of the row
    have it : ∀ {G' H' a b c} {σ : L2.St} {i : Int} {z : Int}, Own G' H' r (.lst (rowV sc a b c)) → σ[0]? = some (some (.ref r)) → atI (rowV sc a b c) i = some (.int z) → Eva K (tOp (rIx K) (tVar 0) (tC (.int i))) σ G' H' (.int z) := fun o h e => eva_ixO (vr h) eva_int o.h e (.int _)
    refine qt_when k (evt_test (eva_cmp (g := fun i j => decide (j < i)) (it ow rfl rfl) eva_int)) (fun hb G1 H1 a1 => ?_) fun hb G1 H1 a1 => ?_
    · -- the rest of a great cell
      have o1 := ow.adv a1
      refine qt_asg a1.o (eva_opc (g := fun i j => i % j) (eva_int1 (it o1 rfl rfl)) (eva_var rfl (.int many)) m0) fun v G2 H2 a2 rv => ?_
      cases rp_int rv
      have o2 := o1.adv a2
      refine qt_setO (j := 3) a2.o (eva_opc (g := fun i j => i / j) (it o2 rfl rfl) (eva_var rfl (.int many)) ⟨m0, m1⟩) (vr rfl) eva_int o2 (by show 3 < 4; decide) fun v G3 H3 a3 rv k3 => ?_
      cases rp_int rv
      have o3 := o2.adv a3
      have c4 : AdvR [r] G H G3 (upd H3 r (.lst (rowV sc a b (c / many)))) := ((a1.trans a2).trans a3).toR.trans (o3.chg a3.o)
      refine st_ret (K := K) k3 (eva_var rfl (.int (c % many))) fun v G4 H4 a4 rv => ?_
      cases rp_int rv
      exact q _ G4 H4 (Int.emod_nonneg _ (by omega)) (Int.emod_lt_of_pos _ m0) (c4.trans a4.toR) ⟨sc, ns, a, b, c / many, (o3.put).adv a4, ex_l (c4.trans (a4.toR (rs := [r]))).g hs, ha⟩
    · have o1 := ow.adv a1
      refine qt_setO (j := 1) a1.o (eva_op (g := fun i j => i + j) (it o1 rfl rfl) eva_int) (vr rfl) eva_int o1 (by show 1 < 4; decide) fun v G2 H2 a2 rv k2 => ?_
      cases rp_int rv
      have o2 := (o1.adv a2).put (u := .lst (rowV sc (a + 1) b c))
      have c2 : AdvR [r] G H G2 (upd H2 r (.lst (rowV sc (a + 1) b c))) := (a1.trans a2).toR.trans ((o1.adv a2).chg a2.o)
      have s2 : SqL K G2 sc (ns.map V.int) := ex_l c2.g hs
      have k2 := c2.o
      revert c2 o2 s2 k2
      change Own G2 (upd H2 r (.lst (rowV sc (a + 1) b c))) r (.lst (rowV sc (a + 1) b c)) → _ → _ → _ → tSeq _ _ _ _ (upd H2 r (.lst (rowV sc (a + 1) b c)))
      generalize upd H2 r (.lst (rowV sc (a + 1) b c)) = HH
      intro o2 c2 s2 k2
      have scr : ∀ {G' H' a b c} {σ : L2.St}, Own G' H' r (.lst (rowV sc a b c)) → σ[0]? = some (some (.ref r)) → EvaV (tOp (rIx K) (tVar 0) (tC (.int 0))) σ G' H' (.ref sc) := fun o h => evv_ixO (vr h) eva_int o.h rfl
      refine qt_when k2 (evt_test (eva_cmp (g := fun i j => decide (j < i)) (it o2 rfl rfl) (eva_lenS (scr o2 rfl) (ex_l k2 s2)))) (fun hb G3 H3 a3 => ?_) fun hb G3 H3 a3 => ?_
      · -- beyond the script
        have o3 := o2.adv a3
        refine qt_setO (j := 2) a3.o (eva_opc (g := fun i j => i % j) (eva_int1 (eva_op (g := fun i j => i + j) (eva_opc (g := fun i j => i * j) (it o3 rfl rfl) eva_int (.inr (by decide))) eva_int)) eva_int (by decide)) (vr rfl) eva_int o3 (by show 2 < 4; decide) fun v G4 H4 a4 rv k4 => ?_
        cases rp_int rv
        have o4 := (o3.adv a4).put (u := .lst (rowV sc (a + 1) ((b * 48271 + 11) % 2147483647) c))
        have c4 : AdvR [r] G H G4 (upd H4 r (.lst (rowV sc (a + 1) ((b * 48271 + 11) % 2147483647) c))) := (c2.trans (a3.trans a4).toR).trans ((o3.adv a4).chg a4.o)
        have k4 := c4.o
        change tRet _ _ _ (upd H4 r (.lst (rowV sc (a + 1) ((b * 48271 + 11) % 2147483647) c)))
        refine st_ret k4 (eva_opc (g := fun i j => i % j) (eva_int1 (eva_opc (g := fun i j => i / j) (it o4 rfl rfl) eva_int ⟨by decide, by decide⟩)) (eva_var rfl (.int many)) m0) fun v G5 H5 a5 rv => ?_
        cases rp_int rv
        exact q _ G5 H5 (Int.emod_nonneg _ (by omega)) (Int.emod_lt_of_pos _ m0) (c4.trans a5.toR) ⟨sc, ns, a + 1, _, c, o4.adv a5, ex_l (c4.trans (a5.toR (rs := [r]))).g hs, by omega⟩
      · -- a cell
        have o3 := o2.adv a3
        have s3 := ex_l a3.g s2
        have hlt : a < ns.length := by
          rw [List.length_map] at hb; simp at hb; omega
        obtain ⟨n, hn⟩ : ∃ n, ns[a.toNat]? = some n := ⟨ns[a.toNat]'(by omega), List.getElem?_eq_getElem _⟩
        have hat : atI ns (a + 1 - 1) = some n := by
          rw [show a + 1 - 1 = (a.toNat : Int) by omega]; exact atI_nat hn
        refine qt_asg a3.o (eva_ixS (scr o3 rfl) (eva_op (g := fun i j => i - j) (it o3 rfl rfl) eva_int) (ex_l a3.o s3) hat) fun v G4 H4 a4 rv => ?_
        cases rp_int rv
        have o4 := o3.adv a4
        refine qt_setO (j := 2) a4.o (eva_opc (g := fun i j => i % j) (eva_int1 (eva_op (g := fun i j => i + j) (eva_op (g := fun i j => i + j) (eva_opc (g := fun i j => i * j) (it o4 rfl rfl) eva_int (.inr (by decide))) (eva_var rfl (.int n))) eva_int)) eva_int (by decide)) (vr rfl) eva_int o4 (by show 2 < 4; decide) fun v G5 H5 a5 rv k5 => ?_
        cases rp_int rv
        generalize hb' : (b * 48271 + n + 11) % 2147483647 = b'
        have o5 := (o4.adv a5).put (u := .lst (rowV sc (a + 1) b' c))
        have c5 : AdvR [r] G H G5 (upd H5 r (.lst (rowV sc (a + 1) b' c))) := (c2.trans ((a3.trans a4).trans a5).toR).trans ((o4.adv a5).chg a5.o)
        have k5 := c5.o
        have s5 := ex_l c5.g hs
        change tSeq _ _ _ _ (upd H5 r (.lst (rowV sc (a + 1) b' c)))
        revert c5 o5 k5
        generalize upd H5 r (.lst (rowV sc (a + 1) b' c)) = HJ
        intro o5 c5 k5
        refine qt_when k5 (evt_test (K := K) (eva_cmp (g := fun i j => decide (j ≤ i)) (eva_var rfl (.int n)) (eva_opc (g := fun i j => i ^ j.toNat) eva_int eva_int ⟨by decide, by decide, by decide⟩))) (fun hb G6 H6 a6 => ?_) fun hb G6 H6 a6 => ?_
        · have o6 := o5.adv a6
          refine st_setO (K := K) (j := 3) a6.o (eva_opc (g := fun i j => i / j) (eva_var rfl (.int n)) (eva_var rfl (.int many)) ⟨m0, m1⟩) (vr rfl) eva_int o6 (by show 3 < 4; decide) fun v G7 H7 a7 rv k7 => ?_
          cases rp_int rv
          have o7 := (o6.adv a7).put (u := .lst (rowV sc (a + 1) b' (n / many)))
          have c7 : AdvR [r] G H G7 (upd H7 r (.lst (rowV sc (a + 1) b' (n / many)))) := (c5.trans (a6.trans a7).toR).trans ((o6.adv a7).chg a7.o)
          dsimp only
          change tRet _ _ _ (upd H7 r (.lst (rowV sc (a + 1) b' (n / many))))
          refine st_ret (K := K) c7.o (eva_opc (g := fun i j => i % j) (eva_int1 (eva_var rfl (.int n))) (eva_var rfl (.int many)) m0) fun v G8 H8 a8 rv => ?_
          cases rp_int rv
          exact q _ G8 H8 (Int.emod_nonneg _ (by omega)) (Int.emod_lt_of_pos _ m0) (c7.trans a8.toR) ⟨sc, ns, a + 1, _, _, o7.adv a8, ex_l (c7.trans (a8.toR (rs := [r]))).g hs, by omega⟩
        · have o6 := o5.adv a6
          refine st_ret (K := K) a6.o (eva_opc (g := fun i j => i % j) (eva_int1 (eva_var rfl (.int n))) (eva_var rfl (.int many)) m0) fun v G8 H8 a8 rv => ?_
          cases rp_int rv
          exact q _ G8 H8 (Int.emod_nonneg _ (by omega)) (Int.emod_lt_of_pos _ m0) (c5.trans (a6.trans a8).toR) ⟨sc, ns, a + 1, _, _, o6.adv a8, ex_l (c5.trans ((a6.trans a8).toR (rs := [r]))).g hs, by omega⟩
/-! ### _law_alike -/
def good : Nat → PyData → Prop
  | 0, _ => False
  | n + 1, .tuple ds => ds.length ≤ 40000 ∧ ∀ d ∈ ds, good n d
  | n + 1, .list ds => ds.length ≤ 40000 ∧ ∀ d ∈ ds, good n d
  | _ + 1, .dict _ => False
  | _ + 1, .str s => SeqAt.shaped (.str s) = true
  | _ + 1, _ => True
def R_alike (n : Nat) (ds : List PyData) (d : PyData) : Prop := ∃ x, ds = [x, x] ∧ good n x ∧ d = .bool true
theorem eva_isN {σ : L2.St} {G H : Hp} {ta : TE} {d : PyData} (h : Eva K ta σ G H d) : Eva K (tOp (fun x y H Q => y = .non ∧ Q (.bl (decide (x = .non))) H) ta (tC .non)) σ G H (.bool (match d with | .none => true | _ => false)) := fun G1 H1 a Q q =>
  h G1 H1 a _ fun v G2 H2 a2 r => ⟨rfl, q _ G2 H2 a2 (by cases r <;> exact .bl _)⟩
theorem ok_alike : ∀ n, FnOk P w K mg base CX0 n T.a__law_alike T.d__law_alike ["found", "due"] (PureSp K (R_alike n))
  | 0 => fn_false fun vs H Q E ⟨G, ds, d, k, r, ⟨x, _, h, _⟩, q⟩ => h
  | n + 1 => by
    have GREC := ok_alike n
    refine T.F__law_alike.ok sc__law_alike (fun vs H Q E h => ?_) (fun cdv A outer s H vs Q E hr h => ?_)
    · obtain ⟨G, ds, d, k, r, ⟨x, rfl, hg, rfl⟩, q⟩ := h
      exact rpa_len r
    · obtain ⟨G, ds, d, k, r, ⟨x, rfl, hg, rfl⟩, q⟩ := h
      obtain ⟨v1, v2, rfl, r1, r2⟩ := rpa2 r
      refine ⟨_, (pss_cons (ps_if (pt_val (pe_callB call_isiT (by rfl) T.z_isinstance (by decide +kernel) (pa_cons (pv 1) (pa_cons (pe_tup (pa_cons (pe_bltn (v := .ty "tuple") (u := .type "tuple") (by rfl) T.z_tuple (by decide +kernel) rfl) (pa_cons (pe_bltn (v := .ty "list") (u := .type "list") (by rfl) T.z_list (by decide +kernel) rfl) pa_nil))) pa_nil)))) (pss_cons (ps_if (PW.pt (pw_or (pt_not (pt_val (pe_callB call_isiT (by rfl) T.z_isinstance (by decide +kernel) (pa_cons (pv 0) (pa_cons (pe_tup (pa_cons (pe_bltn (v := .ty "tuple") (u := .type "tuple") (by rfl) T.z_tuple (by decide +kernel) rfl) (pa_cons (pe_bltn (v := .ty "list") (u := .type "list") (by rfl) T.z_list (by decide +kernel) rfl) pa_nil))) pa_nil))))) (pw_or1 (pt_cmpR (op_neK K rfl hr.units) (pe_callB call_isi (by rfl) T.z_isinstance (by decide +kernel) (pa_cons (pv 0) (pa_cons (pe_bltn (v := .ty "list") (u := .type "list") (by rfl) T.z_list (by decide +kernel) rfl) pa_nil))) (pe_callB call_isi (by rfl) T.z_isinstance (by decide +kernel) (pa_cons (pv 1) (pa_cons (pe_bltn (v := .ty "list") (u := .type "list") (by rfl) T.z_list (by decide +kernel) rfl) pa_nil))) (nomark _))))) (pss_one (ps_ret pe_bl)) pss_nil)
      (pss_cons (ps_if (pt_cmpR (op_neK K rfl hr.units) (pe_callB (call_lenK K rfl) (by rfl) T.z_len (by decide +kernel) (pa_cons (pv 0) pa_nil)) (pe_callB (call_lenK K rfl) (by rfl) T.z_len (by decide +kernel) (pa_cons (pv 1) pa_nil)) (nomark _)) (pss_one (ps_ret pe_bl)) pss_nil)
      (pss_one (ps_ret (pe_cmpR (op_eqK K rfl hr.units) (pe_lc rfl sc__law_alike.nd (pi_range1 (by rfl) T.z_range (pa_cons (pe_callB (call_lenK K rfl) (by rfl) T.z_len (by decide +kernel) (pa_cons (pv 1) pa_nil)) pa_nil)) (blkOk_by (own := [("k", 2)]) (N := N__law_alike) (by kernel_rfl)) (fun _ _ _ _ _ => (pg_name (i := 2) sc__law_alike.nd rfl (Or.inl rfl))) (fun _ _ _ _ _ => (pts_one (pt_not (pt_val (pe_call GREC hr (by rfl) T.g__law_alike T.F__law_alike.kp T.b__law_alike .nil pass0 (pa_cons (pe_ix (ix_seqK K rfl) (pv 0) (pv 2) (fun _ _ => rfl)) (pa_cons (pe_ix (ix_seqK K rfl) (pv 1) (pv 2) (fun _ _ => rfl)) pa_nil))))))) (fun _ _ _ _ _ => (pv 2))) (pe_lst pa_nil) (nomark _)))))) pss_nil)
      (pss_cons (ps_if (PW.pt (pw_or (pt_cmpR op_isN (pv 1) pe_non (nomark _)) (pw_or1 (pt_val (pe_callB call_isi (by rfl) T.z_isinstance (by decide +kernel) (pa_cons (pv 1) (pa_cons (pe_bltn (v := .ty "str") (u := .type "str") (by rfl) T.z_str (by decide +kernel) rfl) pa_nil))))))) (pss_one (ps_ret (pe_and (pe_cmpR (op_eqK K rfl hr.units) (pv 0) (pv 1) (nomark _)) (pe_one (pe_cmpR (op_eqK K rfl hr.units) (pe_callB call_isi (by rfl) T.z_isinstance (by decide +kernel) (pa_cons (pv 0) (pa_cons (pe_bltn (v := .ty "str") (u := .type "str") (by rfl) T.z_str (by decide +kernel) rfl) pa_nil))) (pe_callB call_isi (by rfl) T.z_isinstance (by decide +kernel) (pa_cons (pv 1) (pa_cons (pe_bltn (v := .ty "str") (u := .type "str") (by rfl) T.z_str (by decide +kernel) rfl) pa_nil))) (nomark _)))))) pss_nil)
      (pss_one (ps_ret (pe_and (pe_callB call_isi (by rfl) T.z_isinstance (by decide +kernel) (pa_cons (pv 0) (pa_cons (pe_bltn (v := .ty "int") (u := .type "int") (by rfl) T.z_int (by decide +kernel) rfl) pa_nil))) (pe_and (pe_cmpR (op_eqK K rfl hr.units) (pe_callB call_isi (by rfl) T.z_isinstance (by decide +kernel) (pa_cons (pv 0) (pa_cons (pe_bltn (v := .ty "bool") (u := .type "bool") (by rfl) T.z_bool (by decide +kernel) rfl) pa_nil))) (pe_callB call_isi (by rfl) T.z_isinstance (by decide +kernel) (pa_cons (pv 1) (pa_cons (pe_bltn (v := .ty "bool") (u := .type "bool") (by rfl) T.z_bool (by decide +kernel) rfl) pa_nil))) (nomark _)) (pe_one (pe_cmpR (op_eqK K rfl hr.units) (pv 0) (pv 1) (nomark _))))))))), ?_⟩
      -- the items of two alike rows
      have items : ∀ (es : List PyData) (G1 H1 : Hp) (ta tb : TE) (σ : L2.St) (tl : TE), σ = [some v1, some v2, none] → (∀ d ∈ es, good n d) → es.length ≤ 40000 → Eva K tl σ G1 H1 (.int es.length) →
          (∀ (i : Nat) d v G2 H2, es[i]? = some d → Adv G1 H1 G2 H2 → v = V.int (i : Nat) → Eva K ta (σ.set 2 (some v)) G2 H2 d) → (∀ (i : Nat) d v G2 H2, es[i]? = some d → Adv G1 H1 G2 H2 → v = V.int (i : Nat) → Eva K tb (σ.set 2 (some v)) G2 H2 d) →
          Eva K (tOp (rEqD K) (tLc (iRng1 (tCons tl tNil)) (gName 2) (tNot (tB (tCall (PureSp K (R_alike n)) [] E0 (tCons ta (tCons tb tNil))))) (tVar 2) [2]) (tLst tNil)) σ G1 H1 (.bool true) := fun es G1 H1 ta tb σ tl hσ hgs hlen hl h1 h2 => by
        subst hσ
        have S := src_rng1 hl (by omega) (by omega)
        rw [Int.toNat_natCast, rng_map] at S
        have L : Eva K (tLc (iRng1 (tCons tl tNil)) (gName 2) (tNot (tB (tCall (PureSp K (R_alike n)) [] E0 (tCons ta (tCons tb tNil))))) (tVar 2) [2]) [some v1, some v2, none] G1 H1 (.list []) := by
          refine eva_is (evan_eva (evan_lc (List.range es.length) _ (fun _ => false) (fun _ => .none) S (by rw [List.length_range]; exact hlen) fun i x v G' H' hx a' rv => bd_name ⟨rfl, ?_, fun z => by cases z⟩)) (by rw [List.filter_eq_nil_iff.mpr fun _ _ => Bool.false_ne_true]; rfl)
          obtain ⟨rfl, hi⟩ := range_get hx
          cases rp_int rv
          have hd : es[x]? = some es[x] := List.getElem?_eq_getElem hi
          refine evt_is (evt_not (evt_B (eva_call (evaA_cons (h1 x es[x] _ G' H' hd a' (by rw [Int.zero_add])) (evaA_cons (h2 x es[x] _ G' H' hd a' (by rw [Int.zero_add])) evaA_nil)) ⟨_, rfl, hgs _ (List.getElem_mem hi), rfl⟩))) rfl
        exact eva_is (eva_eq L (eva_lst evaA_nil) rfl rfl) rfl
      cases x with
      | tuple es =>
        refine qt_if k (b := true) (evt_is (evt_B (eva_isi2 (eva_var rfl r2))) rfl) (fun _ G1 H1 a1 => ?_) fun z => by cases z
        refine qt_unless a1.o (evt_or (b := false) (c := false) (evt_is (evt_not (evt_B (eva_isi2 (eva_var rfl (r1.ex a1.g))))) rfl) fun _ => evt_is (evt_test (eva_ne (eva_isi (eva_var rfl (r1.ex a1.g))) (eva_isi (eva_var rfl (r2.ex a1.g))) rfl rfl)) rfl) rfl fun G2 H2 a2 => ?_
        have q1 := r1.ex (a1.trans a2).g
        have q2 := r2.ex (a1.trans a2).g
        refine qt_unless a2.o (evt_is (evt_test (eva_neI (eva_len (eva_var rfl q1) (.inr rfl)) (eva_len (eva_var rfl q2) (.inr rfl)))) (by simp)) rfl fun G3 H3 a3 => ?_
        refine st_ret a3.o (items es G3 H3 _ _ _ _ rfl hg.2 hg.1 (eva_len (eva_var rfl (q2.ex a3.g)) (.inr rfl)) (fun i d v G4 H4 he a4 hv => ?_) fun i d v G4 H4 he a4 hv => ?_) fun v G4 H4 a4 rv => q v G4 H4 (((a1.trans a2).trans a3).trans a4) rv
        · subst hv; exact eva_ixT (eva_var rfl ((q1.ex a3.g).ex a4.g)) (eva_var rfl (.int _)) (atI_nat he)
        · subst hv; exact eva_ixT (eva_var rfl ((q2.ex a3.g).ex a4.g)) (eva_var rfl (.int _)) (atI_nat he)
      | list es =>
        refine qt_if k (b := true) (evt_is (evt_B (eva_isi2 (eva_var rfl r2))) rfl) (fun _ G1 H1 a1 => ?_) fun z => by cases z
        refine qt_unless a1.o (evt_or (b := false) (c := false) (evt_is (evt_not (evt_B (eva_isi2 (eva_var rfl (r1.ex a1.g))))) rfl) fun _ => evt_is (evt_test (eva_ne (eva_isi (eva_var rfl (r1.ex a1.g))) (eva_isi (eva_var rfl (r2.ex a1.g))) rfl rfl)) rfl) rfl fun G2 H2 a2 => ?_
        have q1 := r1.ex (a1.trans a2).g
        have q2 := r2.ex (a1.trans a2).g
        refine qt_unless a2.o (evt_is (evt_test (eva_neI (eva_len (eva_var rfl q1) (.inl rfl)) (eva_len (eva_var rfl q2) (.inl rfl)))) (by simp)) rfl fun G3 H3 a3 => ?_
        refine st_ret a3.o (items es G3 H3 _ _ _ _ rfl hg.2 hg.1 (eva_len (eva_var rfl (q2.ex a3.g)) (.inl rfl)) (fun i d v G4 H4 he a4 hv => ?_) fun i d v G4 H4 he a4 hv => ?_) fun v G4 H4 a4 rv => q v G4 H4 (((a1.trans a2).trans a3).trans a4) rv
        · subst hv; exact eva_ixL (eva_var rfl ((q1.ex a3.g).ex a4.g)) (eva_var rfl (.int _)) (atI_nat he)
        · subst hv; exact eva_ixL (eva_var rfl ((q2.ex a3.g).ex a4.g)) (eva_var rfl (.int _)) (atI_nat he)
      | dict _ => exact hg.elim
      | none =>
        refine qt_unless k (evt_is (evt_B (eva_isi2 (eva_var rfl r2))) rfl) rfl fun G1 H1 a1 => ?_
        refine qt_when a1.o (evt_or (b := true) (c := true) (evt_test (eva_isN (eva_var rfl (r2.ex a1.g)))) fun z => by cases z) (fun _ G2 H2 a2 => ?_) fun z => by cases z
        have q1 := r1.ex (a1.trans a2).g
        have q2 := r2.ex (a1.trans a2).g
        exact st_ret a2.o (eva_and (b := true) (c := true) (eva_is (eva_eq (eva_var rfl q1) (eva_var rfl q2) rfl rfl) (by simp [PyData.eqv])) fun _ => eva_is (eva_eq (eva_isi (eva_var rfl q1)) (eva_isi (eva_var rfl q2)) rfl rfl) rfl) fun v G3 H3 a3 rv => q v G3 H3 ((a1.trans a2).trans a3) rv
      | str x =>
        refine qt_unless k (evt_is (evt_B (eva_isi2 (eva_var rfl r2))) rfl) rfl fun G1 H1 a1 => ?_
        refine qt_when a1.o (evt_or (b := false) (c := true) (evt_test (eva_isN (eva_var rfl (r2.ex a1.g)))) fun z => evt_is (evt_B (eva_isi (eva_var rfl (r2.ex a1.g)))) rfl) (fun _ G2 H2 a2 => ?_) fun z => by cases z
        have q1 := r1.ex (a1.trans a2).g
        have q2 := r2.ex (a1.trans a2).g
        exact st_ret a2.o (eva_and (b := true) (c := true) (eva_is (eva_eq (eva_var rfl q1) (eva_var rfl q2) hg hg) (by simp [PyData.eqv])) fun _ => eva_is (eva_eq (eva_isi (eva_var rfl q1)) (eva_isi (eva_var rfl q2)) rfl rfl) rfl) fun v G3 H3 a3 rv => q v G3 H3 ((a1.trans a2).trans a3) rv
      | int x =>
        refine qt_unless k (evt_is (evt_B (eva_isi2 (eva_var rfl r2))) rfl) rfl fun G1 H1 a1 => ?_
        refine qt_unless a1.o (evt_or (b := false) (c := false) (evt_test (eva_isN (eva_var rfl (r2.ex a1.g)))) fun z => evt_is (evt_B (eva_isi (eva_var rfl (r2.ex a1.g)))) rfl) rfl fun G2 H2 a2 => ?_
        have q1 := r1.ex (a1.trans a2).g
        have q2 := r2.ex (a1.trans a2).g
        exact st_ret a2.o (eva_and (b := true) (c := true) (eva_is (eva_isi (eva_var rfl q1)) rfl) fun _ => eva_and (b := true) (c := true) (eva_is (eva_eq (eva_isi (eva_var rfl q1)) (eva_isi (eva_var rfl q2)) rfl rfl) rfl) fun _ => eva_is (eva_eq (eva_var rfl q1) (eva_var rfl q2) rfl rfl) (by simp [PyData.eqv])) fun v G3 H3 a3 rv => q v G3 H3 ((a1.trans a2).trans a3) rv
      | bool x =>
        refine qt_unless k (evt_is (evt_B (eva_isi2 (eva_var rfl r2))) rfl) rfl fun G1 H1 a1 => ?_
        refine qt_unless a1.o (evt_or (b := false) (c := false) (evt_test (eva_isN (eva_var rfl (r2.ex a1.g)))) fun z => evt_is (evt_B (eva_isi (eva_var rfl (r2.ex a1.g)))) rfl) rfl fun G2 H2 a2 => ?_
        have q1 := r1.ex (a1.trans a2).g
        have q2 := r2.ex (a1.trans a2).g
        exact st_ret a2.o (eva_and (b := true) (c := true) (eva_is (eva_isi (eva_var rfl q1)) rfl) fun _ => eva_and (b := true) (c := true) (eva_is (eva_eq (eva_isi (eva_var rfl q1)) (eva_isi (eva_var rfl q2)) rfl rfl) rfl) fun _ => eva_is (eva_eq (eva_var rfl q1) (eva_var rfl q2) rfl rfl) (by simp [PyData.eqv])) fun v G3 H3 a3 rv => q v G3 H3 ((a1.trans a2).trans a3) rv
theorem ok__law_alike : FnOk P w K mg base CX0 4 T.a__law_alike T.d__law_alike ["found", "due"] (PureSp K (R_alike 4)) := ok_alike T 4
/-! ### _law_pick -/
def PickSp (K : PySem.W.Frag) : Sp := fun vs H Q _ => ∃ G r v ds, Ex G H ∧ vs = [.ref r, v] ∧ RowI K r G H ∧ Rp K G v (.list ds) ∧ 0 < ds.length ∧ ds.length ≤ 100000 ∧
  ∀ d u G' H', d ∈ ds → AdvR [r] G H G' H' → RowI K r G' H' → Rp K G' u d → Q u H'
theorem ok__law_pick : FnOk P w K mg base CX0 2 T.a__law_pick T.d__law_pick ["row", "things"] (PickSp K) := by
  refine T.F__law_pick.ok sc__law_pick (fun vs H Q E h => ?_) (fun cdv A outer s H vs Q E hr h => ?_)
  · obtain ⟨G, r, v, ds, k, rfl, _⟩ := h
    rfl
  · obtain ⟨G, r, v, ds, k, rfl, hw, rv, l0, l1, q⟩ := h
    refine ⟨_, (pss_one (ps_ret (pe_ix (ix_seqK K rfl) (pv 1) (pe_call (ok__law_taken T) hr (by rfl) T.g__law_taken T.F__law_taken.kp T.b__law_taken .nil pass0 (pa_cons (pv 0) (pa_cons (pe_callB (call_lenK K rfl) (by rfl) T.z_len (by decide +kernel) (pa_cons (pv 1) pa_nil)) pa_nil))) (fun _ _ => rfl)))), ?_⟩
    refine ⟨v, rfl, ?_⟩
    refine evr_taken (many := (ds.length : Nat)) (σ := L2.start N__law_pick [V.ref r, v]) (E := E0) (fun _ _ _ => evv_var rfl) (fun G1 H1 a1 => eva_len (eva_var (i := 1) rfl (rv.ex a1.g)) (.inl rfl)) (by omega) (by omega) G H (AdvR.refl k) hw _ fun u d G2 H2 hd a2 w2 ru => ?_
    obtain ⟨x, rfl, x0, x1⟩ := hd
    cases rp_int ru
    obtain ⟨d, hd⟩ : ∃ d, ds[x.toNat]? = some d := ⟨ds[x.toNat]'(by omega), List.getElem?_eq_getElem _⟩
    have rv2 := rv.ex a2.g
    cases rv2 with
    | @lst p xs _ hs hx =>
      obtain ⟨u, hu, ru2⟩ := rpa_get' hx hd
      exact .inl ⟨p, xs, x, u, rfl, rfl, SqL.of (a2.o _ _ hs), atI_int x0 hu, q d u G2 H2 (List.mem_of_getElem? hd) a2 w2 ru2⟩
/-! ### draws -/
theorem evr_lst {σ : L2.St} {G H : Hp} {r : Addr} {tA : TA} {Ds : List PyData → Prop} (h : EvRA K r tA σ G H Ds) (hl : ∀ ds, Ds ds → ds.length ≤ 100000) : EvR K r (tLst tA) σ G H (fun d => ∃ ds, d = .list ds ∧ Ds ds) := fun G1 H1 a w Q q =>
  h G1 H1 a w _ fun vs ds G2 H2 hd a2 w2 rv => ⟨sz_of (by rw [rpa_len rv]; exact hl ds hd), fun p hp => by
    have a3 : Adv G2 H2 (upd G2 p (.lst vs)) (upd H2 p (.lst vs)) := .new a2.o hp
    exact q _ _ _ _ ⟨ds, rfl, hd⟩ (a2.trans a3.toR) (w2.adv a3) (.lst upd_same (rv.ex a3.g))⟩
theorem evr_pickR {σ : L2.St} {G H : Hp} {r : Addr} {i : Nat} {te : TE} {E : XK} {A : PyData → Prop} (hi : σ[i]? = some (some (.ref r))) (h : EvR K r te σ G H fun d => ∃ ds, d = .list ds ∧ 0 < ds.length ∧ ds.length ≤ 100000 ∧ ∀ e ∈ ds, A e) :
    EvR K r (tCall (PickSp K) [] E (tCons (tVar i) (tCons te tNil))) σ G H A := fun G1 H1 a w Q q =>
  ⟨_, hi, h G1 H1 a w _ fun v d G2 H2 hd a2 w2 rv => by
    obtain ⟨ds, rfl, l0, l1, hA⟩ := hd
    exact (show PickSp K [V.ref r, v] H2 Q E from ⟨G2, r, v, ds, a2.o, rfl, w2, rv, l0, l1, fun d u G3 H3 hd a3 w3 ru => q u d G3 H3 (hA d hd) (a2.trans a3) w3 ru⟩)⟩
theorem qt_row {σ : L2.St} {H : Hp} {D : Ends} {tz : TS} {i j : Nat} {sc : Addr} {ns : List Int} {b : Int} (hi : σ[i]? = some (some (.ref sc))) (hs : SqL K H sc (ns.map V.int))
    (c : ∀ r H1, Ex H H1 → RowI K r H H1 → tz D (σ.set j (some (.ref r))) H1) : tSeq (tAsg (tLst (tCons (tVar i) (tCons (tC (.int 0)) (tCons (tC (.int b)) (tCons (tC (.int 0)) tNil))))) (gName j)) tz D σ H :=
  ⟨_, hi, by show 4 ≤ sizeLine; decide, fun p hp => c p _ (Ex.new hp) ⟨sc, ns, 0, b, 0, ⟨upd_same, hp, fun _ z => nomatch z⟩, hs, Int.le_refl _⟩⟩
def spLaw (K : PySem.W.Frag) : Sp := fun vs H Q _ => ∃ (a : Addr) (ns : List Int), vs = [.ref a] ∧ SqL K H a (ns.map V.int) ∧ ns.length ≤ 63 ∧ ∀ H', Q (.bl true) H'
/-! ### _law_number -/
def NumSp (K : PySem.W.Frag) : Sp := fun vs H Q _ => ∃ G r, Ex G H ∧ vs = [.ref r] ∧ RowI K r G H ∧
  ∀ n G' H', 1 ≤ n → n ≤ 1000000 → AdvR [r] G H G' H' → RowI K r G' H' → Q (.int n) H'
theorem evr_number {σ : L2.St} {G H : Hp} {r : Addr} {i : Nat} {E : XK} (hi : σ[i]? = some (some (.ref r))) :
    EvR K r (tCall (NumSp K) [] E (tCons (tVar i) tNil)) σ G H (fun d => ∃ n, d = .int n ∧ 1 ≤ n ∧ n ≤ 1000000) := fun G1 H1 a w Q q =>
  ⟨_, hi, (show NumSp K [V.ref r] H1 Q E from ⟨G1, r, a.o, rfl, w, fun n G2 H2 n1 n2 a2 w2 => q _ _ G2 H2 ⟨n, rfl, n1, n2⟩ a2 w2 (.int n)⟩)⟩
theorem evr_int {σ : L2.St} {G H : Hp} {r : Addr} {a : Int} : EvR K r (tC (.int a)) σ G H (fun d => ∃ x, d = .int x ∧ x = a) := evr_imp (evr_of fun _ _ _ => eva_int) fun d hd => ⟨a, hd, rfl⟩
theorem evr_opc {σ : L2.St} {G H : Hp} {r : Addr} {ta tb : TE} {g : Int → Int → Int} {C : Int → Int → Prop} {A B : Int → Prop} (ha : EvR K r ta σ G H fun d => ∃ x, d = .int x ∧ A x) (hb : EvR K r tb σ G H fun d => ∃ x, d = .int x ∧ B x) (hc : ∀ x y, A x → B y → C x y) :
    EvR K r (tOp (rI C fun i j => .int (g i j)) ta tb) σ G H (fun d => ∃ x y, d = .int (g x y) ∧ A x ∧ B y) := fun G1 H1 a w Q q =>
  ha G1 H1 a w _ fun v d G2 H2 hd a2 w2 rv => hb G2 H2 (a.trans a2) w2 _ fun v' d' G3 H3 hd' a3 w3 rv' => by
    obtain ⟨x, rfl, hx⟩ := hd
    obtain ⟨y, rfl, hy⟩ := hd'
    cases rp_int rv
    cases rp_int rv'
    exact ⟨x, y, rfl, rfl, hc x y hx hy, q _ _ G3 H3 ⟨x, y, rfl, hx, hy⟩ (a2.trans a3) w3 (.int _)⟩
def inR (d : PyData) : Prop := ∃ n, d = .int n ∧ 1 ≤ n ∧ n ≤ 1000000
theorem ok__law_number : FnOk P w K mg base CX0 3 T.a__law_number T.d__law_number ["row"] (NumSp K) := by
  refine T.F__law_number.ok sc__law_number (fun vs H Q E h => ?_) (fun cdv A outer s H vs Q E hr h => ?_)
  · obtain ⟨G, r, k, rfl, _⟩ := h
    rfl
  · obtain ⟨G, r, k, rfl, hw, q⟩ := h
    refine ⟨_, (pss_cons (ps_set (i := 1) sc__law_number.nd rfl (Or.inl rfl) (pe_call (ok__law_pick T) hr (by rfl) T.g__law_pick T.F__law_pick.kp T.b__law_pick .nil pass0 (pa_cons (pv 0) (pa_cons (pe_lst (pa_cons pe_int (pa_cons pe_int (pa_cons pe_int (pa_cons pe_int (pa_cons pe_int (pa_cons pe_int (pa_cons (pe_op op_add (pe_op op_mul pe_int (pe_call (ok__law_taken T) (hr.mono (by decide)) (by rfl) T.g__law_taken T.F__law_taken.kp T.b__law_taken .nil pass0 (pa_cons (pv 0) (pa_cons pe_int pa_nil)))) pe_int) pa_nil)))))))) pa_nil))))
      (pss_cons (ps_for PassesOwn.never rfl (pi_range1 (by rfl) T.z_range (pa_cons (pe_call (ok__law_taken T) (hr.mono (by decide)) (by rfl) T.g__law_taken T.F__law_taken.kp T.b__law_taken .nil pass0 (pa_cons (pv 0) (pa_cons pe_int pa_nil))) pa_nil)) (pg_name (i := 2) sc__law_number.nd rfl (Or.inl rfl)) (pss_one (ps_set (i := 1) sc__law_number.nd rfl (Or.inl rfl) (pe_ifExp (pt_cmpR op_le (pe_op op_mul pe_int (pv 1)) pe_int (nomark _)) (pe_op op_mul pe_int (pv 1)) (pv 1)))))
      (pss_one (ps_ret (pv 1))))), ?_⟩
    have e7 : EvR K r (tOp (rI CMul fun i j => .int (i * j)) (tC (.int 2)) (tCall (TakenSp K) [] E0 (tCons (tVar 0) (tCons (tC (.int 500000)) tNil)))) (L2.start N__law_number [V.ref r]) G H (fun d => ∃ x, d = .int x ∧ 0 ≤ x ∧ x < 999999) :=
      evr_imp (evr_opc (g := fun i j => i * j) (B := fun x => 0 ≤ x ∧ x < 500000) evr_int (evr_taken (fun _ _ _ => evv_var rfl) (fun _ _ _ => eva_int) (by decide) (by decide)) (fun x y h1 h2 => by subst h1; exact .inl (by decide))) fun d ⟨x, y, h, h1, h2, h3⟩ => ⟨x * y, h, by subst h1; omega⟩
    have e8 : EvR K r (tOp (rI0 fun i j => .int (i + j)) (tOp (rI CMul fun i j => .int (i * j)) (tC (.int 2)) (tCall (TakenSp K) [] E0 (tCons (tVar 0) (tCons (tC (.int 500000)) tNil)))) (tC (.int 1))) (L2.start N__law_number [V.ref r]) G H inR :=
      evr_imp (evr_op (g := fun i j => i + j) e7 evr_int) fun d ⟨x, y, h, ⟨h1, h2⟩, h3⟩ => ⟨x + y, h, by subst h3; omega⟩
    have ic : ∀ a : Int, 1 ≤ a → a ≤ 1000000 → EvR K r (tC (.int a)) (L2.start N__law_number [V.ref r]) G H inR := fun a h1 h2 => evr_imp evr_int fun d ⟨x, h, e⟩ => ⟨x, h, by subst e; exact ⟨h1, h2⟩⟩
    refine qt_asgR (A := inR) k hw (evr_pickR (K := K) rfl (evr_imp (evr_lst (evrA_cons (ic 1 (by decide) (by decide)) (evrA_cons (ic 1 (by decide) (by decide)) (evrA_cons (ic 3 (by decide) (by decide)) (evrA_cons (ic 5 (by decide) (by decide)) (evrA_cons (ic 7 (by decide) (by decide)) (evrA_cons (ic 9 (by decide) (by decide)) (evrA_cons e8 evrA_nil)))))))
        fun ds h => by
          obtain ⟨_, _, rfl, _, _, _, rfl, _, _, _, rfl, _, _, _, rfl, _, _, _, rfl, _, _, _, rfl, _, _, _, rfl, _, rfl⟩ := h
          show 7 ≤ 100000; decide) fun d h => ?_)) fun v d G1 H1 hd a1 w1 rv => ?_
    · obtain ⟨_, rfl, _, _, rfl, h1, _, _, rfl, h2, _, _, rfl, h3, _, _, rfl, h4, _, _, rfl, h5, _, _, rfl, h6, _, _, rfl, h7, rfl⟩ := h
      refine ⟨_, rfl, by show 0 < 7; decide, by show 7 ≤ 100000; decide, fun e he => ?_⟩
      simp only [List.mem_cons, List.not_mem_nil, or_false] at he
      rcases he with rfl | rfl | rfl | rfl | rfl | rfl | rfl <;> assumption
    · obtain ⟨n, rfl, n1, n2⟩ := hd
      cases rp_int rv
      refine qt_forRow (N := 20) (by decide) a1.o w1 (evr_taken (fun _ _ _ => evv_var rfl) (fun _ _ _ => eva_int) (by decide) (by decide)) (fun _ _ σ' G' H' => AdvR [r] G H G' H' ∧ RowI K r G' H' ∧ ∃ m o, 1 ≤ m ∧ m ≤ 1000000 ∧ σ' = [some (.ref r), some (V.int m), o])
        (fun _ G2 H2 _ a2 w2 => ⟨a1.trans a2, w2, n, none, n1, n2, rfl⟩) (fun _ _ _ _ _ z => z.1.o) ?_ ?_
      · rintro _ i σ' G2 H2 hi ⟨A2, w2, m, o, m1, m2, rfl⟩
        refine bd_name ?_
        have e2 : ∀ {G' H' : Hp} {σ : L2.St}, σ[1]? = some (some (.int m)) → Eva K (tOp (rI CMul fun i j => .int (i * j)) (tC (.int 2)) (tVar 1)) σ G' H' (.int (2 * m)) := fun h => eva_opc (g := fun i j => i * j) eva_int (eva_var h (.int m)) (.inl (by decide))
        refine st_asg (K := K) A2.o (d := .int (if 2 * m ≤ 1000000 then 2 * m else m)) (eva_if (b := decide (2 * m ≤ 1000000)) (evt_test (eva_cmp (K := K) (g := fun i j => decide (i ≤ j)) (e2 rfl) (eva_int (K := K)))) (fun h => ?_) (fun h => ?_)) fun v G3 H3 a3 rv => ?_
        · rw [if_pos (of_decide_eq_true h)]; exact e2 rfl
        · rw [if_neg (of_decide_eq_false h)]; exact eva_var rfl (.int m)
        · cases rp_int rv
          refine ⟨G3, A2.trans a3.toR, w2.adv a3, _, some (V.int (i : Nat)), ?_, ?_, rfl⟩
          · split <;> omega
          · split <;> omega
      · rintro _ σ' G2 H2 ⟨A2, w2, m, o, m1, m2, rfl⟩
        refine st_ret (K := K) A2.o (eva_var rfl (.int m)) fun v G3 H3 a3 rv => ?_
        cases rp_int rv
        exact q m G3 H3 m1 m2 (A2.trans a3.toR) (w2.adv a3)
end
end K56

set_option Elab.async false
set_option linter.all false
set_option maxRecDepth 100000
set_option maxHeartbeats 4000000
namespace K56
open PySem PySem.Spec PyProof.Rows L2 Vf
open Evl hiding Ex Ex.refl Ex.trans Ex.new Ex.mut ex_rd ex_l ex_t fresh_back
/-! ### the order of places -/
theorem lex3 (a b c x y z : Int) : HT.lexLt [a, b, c] [x, y, z] = decide (a < x ∨ a = x ∧ (b < y ∨ b = y ∧ c < z)) := by
  rw [HT.lexLt_cons, HT.lexLt_cons, HT.lexLt_cons, HT.lexLt_nil_nil]
  by_cases h1 : a = x
  · by_cases h2 : b = y
    · by_cases h3 : c = z
      · simp [h1, h2, h3]
      · simp [h1, h2, h3]
    · simp [h1, h2]
  · simp [h1]
theorem odd_pos {o : Nat} (h : o % 2 = 1) : 1 ≤ o := by omega
theorem rank_bef {n m : Int} {t o t' o' : Nat} (h : Tw n t o) (h' : Tw m t' o') : HT.lexLt (rkL t o) (rkL t' o') = befB t o t' o' := by
  have p := odd_pos h.odd
  have p' := odd_pos h'.odd
  unfold befB rkL placeL
  by_cases c : o = 1
  · rw [if_pos c, if_neg (show ¬ 1 < o by omega)]
    by_cases c' : o' = 1
    · rw [if_pos c', if_neg (show ¬ 1 < o' by omega), lex3, lex3]
      exact decide_eq_decide.mpr (by omega)
    · rw [if_neg c', if_pos (show 1 < o' by omega), lex3, lex3]
      exact decide_eq_decide.mpr (by omega)
  · rw [if_neg c, if_pos (show 1 < o by omega)]
    by_cases c' : o' = 1
    · rw [if_pos c', if_neg (show ¬ 1 < o' by omega), lex3, lex3]
      exact decide_eq_decide.mpr (by omega)
    · rw [if_neg c', if_pos (show 1 < o' by omega)]
def befP (t o t' o' : Nat) : Prop := (1 < o ∧ ¬ 1 < o') ∨ (1 < o ∧ 1 < o' ∧ (t < t' ∨ t = t' ∧ o < o')) ∨ (¬ 1 < o ∧ ¬ 1 < o' ∧ t' < t)
theorem bef_iff {t o t' o' : Nat} : befB t o t' o' = true ↔ befP t o t' o' := by
  unfold befB placeL befP
  by_cases c : 1 < o
  · rw [if_pos c]
    by_cases c' : 1 < o'
    · rw [if_pos c', lex3, decide_eq_true_iff]; omega
    · rw [if_neg c', lex3, decide_eq_true_iff]; omega
  · rw [if_neg c]
    by_cases c' : 1 < o'
    · rw [if_pos c', lex3, decide_eq_true_iff]; omega
    · rw [if_neg c', lex3, decide_eq_true_iff]; omega
theorem bef_self {t o : Nat} : befB t o t o = false := by
  cases h : befB t o t o with
  | false => rfl
  | true => have := bef_iff.mp h; unfold befP at this; omega
theorem bef_un {n m : Int} {t o t' o' : Nat} (h : Tw n t o) (h' : Tw m t' o') (hn : n ≠ m) : (befB t o t' o' == befB t' o' t o) = false := by
  have p := odd_pos h.odd
  have p' := odd_pos h'.odd
  have ne : ¬ (t = t' ∧ o = o') := fun ⟨a, b⟩ => hn (by rw [h.eq, h'.eq, a, b])
  cases e1 : befB t o t' o' with
  | true =>
    cases e2 : befB t' o' t o with
    | false => rfl
    | true =>
      have a := bef_iff.mp e1
      have b := bef_iff.mp e2
      unfold befP at a b
      omega
  | false =>
    cases e2 : befB t' o' t o with
    | true => rfl
    | false =>
      have a : ¬ befP t o t' o' := fun z => by rw [bef_iff.mpr z] at e1; cases e1
      have b : ¬ befP t' o' t o := fun z => by rw [bef_iff.mpr z] at e2; cases e2
      unfold befP at a b
      omega
theorem bef_trans {t o t' o' t'' o'' : Nat} (h : befB t o t' o' = true) (h' : befB t' o' t'' o'' = true) : befB t o t'' o'' = true := by
  have a := bef_iff.mp h
  have b := bef_iff.mp h'
  refine bef_iff.mpr ?_
  unfold befP at a b ⊢
  omega
section
variable {P : Program} {w : World} {K : PySem.W.Frag} {mg : PySem.Str → Option Value} {base : Heap} (T : Tops K mg base)
theorem qt_par3R {σ : L2.St} {G H : Hp} {r : Addr} {D : Ends} {tz : TS} {i j l : Nat} {ta : TA} {Ds : List PyData → Prop} (k : Ex G H) (w : RowI K r G H) (h : EvRA K r ta σ G H Ds) (hl : ∀ ds, Ds ds → ∃ a b c, ds = [a, b, c])
    (c : ∀ u1 u2 u3 a b c G1 H1, Ds [a, b, c] → AdvR [r] G H G1 H1 → RowI K r G1 H1 → Rp K G1 u1 a → Rp K G1 u2 b → Rp K G1 u3 c → tz D (((σ.set i (some u1)).set j (some u2)).set l (some u3)) H1) : tSeq (tPar3 i j l ta) tz D σ H :=
  h G H (.refl k) w _ fun vs ds G1 H1 hd a1 w1 rv => by
    obtain ⟨a, b, c', rfl⟩ := hl ds hd
    obtain ⟨u1, u2, u3, rfl, r1, r2, r3⟩ := rpa3 rv
    exact ⟨u1, u2, u3, rfl, c u1 u2 u3 a b c' G1 H1 hd a1 w1 r1 r2 r3⟩
theorem ok_law : FnOk P w K mg base CX0 5 T.a_law T.d_law ["script"] (spLaw K) := by
  refine T.F_law.ok sc_law (fun vs H Q E h => ?_) (fun cdv A outer s H vs Q E hr h => ?_)
  · obtain ⟨a, ns, rfl, _⟩ := h
    rfl
  · obtain ⟨sc, ns, rfl, hS, hlen, q⟩ := h
    refine ⟨_, (pss_cons (ps_set (i := 1) sc_law.nd rfl (Or.inl rfl) (pe_lst (pa_cons (pv 0) (pa_cons pe_int (pa_cons pe_int (pa_cons pe_int pa_nil))))))
      (pss_cons (ps_for PassesOwn.never rfl (pi_range1 (by rfl) T.z_range (pa_cons pe_int pa_nil)) (pg_name (i := 2) sc_law.nd rfl (Or.inl rfl)) (pss_cons (ps_par3 (i := 3) (j := 4) (l := 5) rfl sc_law.nd rfl rfl rfl (by decide) (by decide) (by decide) rfl rfl rfl (pa_cons (pe_call (ok__law_number T) (hr.mono (by decide)) (by rfl) T.g__law_number T.F__law_number.kp T.b__law_number .nil pass0 (pa_cons (pv 1) pa_nil)) (pa_cons (pe_call (ok__law_number T) (hr.mono (by decide)) (by rfl) T.g__law_number T.F__law_number.kp T.b__law_number .nil pass0 (pa_cons (pv 1) pa_nil)) (pa_cons (pe_call (ok__law_number T) (hr.mono (by decide)) (by rfl) T.g__law_number T.F__law_number.kp T.b__law_number .nil pass0 (pa_cons (pv 1) pa_nil)) pa_nil))) (by rfl))
      (pss_cons (ps_if (pt_not (pt_val (pe_call (ok__law_alike T) hr (by rfl) T.g__law_alike T.F__law_alike.kp T.b__law_alike .nil pass0 (pa_cons (pe_call (ok_comes_before T) (hr.mono (by decide)) (by rfl) T.g_comes_before T.F_comes_before.kp T.b_comes_before .nil pass0 (pa_cons (pv 3) (pa_cons (pv 4) pa_nil))) (pa_cons (pe_cmpR (op_ltT hr.units0) (pe_call (ok__law_rank T) (hr.mono (by decide)) (by rfl) T.g__law_rank T.F__law_rank.kp T.b__law_rank .nil pass0 (pa_cons (pv 3) pa_nil)) (pe_call (ok__law_rank T) (hr.mono (by decide)) (by rfl) T.g__law_rank T.F__law_rank.kp T.b__law_rank .nil pass0 (pa_cons (pv 4) pa_nil)) (nomark _)) pa_nil))))) (pss_one (ps_ret pe_bl)) pss_nil)
      (pss_cons (ps_if (PW.pt (pw_or (pt_val (pe_call (ok_comes_before T) (hr.mono (by decide)) (by rfl) T.g_comes_before T.F_comes_before.kp T.b_comes_before .nil pass0 (pa_cons (pv 3) (pa_cons (pv 3) pa_nil)))) (pw_or1 (PW.pt (pw_and (pt_cmpR (op_neK K rfl hr.units) (pv 3) (pv 4) (nomark _)) (pw_and1 (pt_cmpR (op_eqK K rfl hr.units) (pe_call (ok_comes_before T) (hr.mono (by decide)) (by rfl) T.g_comes_before T.F_comes_before.kp T.b_comes_before .nil pass0 (pa_cons (pv 3) (pa_cons (pv 4) pa_nil))) (pe_call (ok_comes_before T) (hr.mono (by decide)) (by rfl) T.g_comes_before T.F_comes_before.kp T.b_comes_before .nil pass0 (pa_cons (pv 4) (pa_cons (pv 3) pa_nil))) (nomark _)))))))) (pss_one (ps_ret pe_bl)) pss_nil)
      (pss_one (ps_if (PW.pt (pw_and (pt_val (pe_call (ok_comes_before T) (hr.mono (by decide)) (by rfl) T.g_comes_before T.F_comes_before.kp T.b_comes_before .nil pass0 (pa_cons (pv 3) (pa_cons (pv 4) pa_nil)))) (pw_and (pt_val (pe_call (ok_comes_before T) (hr.mono (by decide)) (by rfl) T.g_comes_before T.F_comes_before.kp T.b_comes_before .nil pass0 (pa_cons (pv 4) (pa_cons (pv 5) pa_nil)))) (pw_and1 (pt_not (pt_val (pe_call (ok_comes_before T) (hr.mono (by decide)) (by rfl) T.g_comes_before T.F_comes_before.kp T.b_comes_before .nil pass0 (pa_cons (pv 3) (pa_cons (pv 5) pa_nil))))))))) (pss_one (ps_ret pe_bl)) pss_nil))))))
      (pss_one (ps_ret pe_bl)))), ?_⟩
    refine qt_row rfl hS fun r H1 e1 w1 => ?_
    have S0 : Src K (iRng1 (tCons (tC (.int 6)) tNil)) (List.set (L2.start N_law [.ref sc]) 1 (some (.ref r))) H H1 ((List.range 6).map fun i => .int (0 + (i : Nat))) := src_rng1 (K := K) (n := 6) eva_int
    refine qt_for (List.range 6) _ (fun B i σ G' H' => Ex B G' ∧ Ex G' H' ∧ RowI K r G' H' ∧ ∃ o2 o3 o4 o5, σ = [some (.ref sc), some (.ref r), o2, o3, o4, o5]) e1 S0
      (fun G2 H2 a2 => ⟨Ex.refl _, a2.o, w1.adv a2, none, none, none, none, rfl⟩) (fun B i σ' G' H' p => ⟨p.1, p.2.1⟩) ?_ fun B σ' G' H' p => st_ret (K := K) p.2.1 eva_bl fun v G3 H3 a3 rv => by cases rp_bool rv; exact q H3
    rintro B i tn vt σ' G2 H2 G3 H3 _ ⟨eB, k2, w2, o2, o3, o4, o5, rfl⟩ a3 _
    refine bd_name ?_
    have en : ∀ {σ : L2.St} {G H : Hp}, σ[1]? = some (some (.ref r)) → EvR K r (tCall (NumSp K) [] E0 (tCons (tVar 1) tNil)) σ G H (fun d => ∃ n, d = .int n ∧ 1 ≤ n ∧ n ≤ 1000000) := fun h => evr_number h
    refine qt_par3R (K := K) a3.o (w2.adv a3) (evrA_cons (en rfl) (evrA_cons (en rfl) (evrA_cons (en rfl) evrA_nil))) (fun ds h => by
      obtain ⟨_, _, rfl, _, _, _, rfl, _, _, _, rfl, _, rfl⟩ := h
      exact ⟨_, _, _, rfl⟩) fun v1 v2 v3 x1 x2 x3 G4 H4 hd a4 w4 r1 r2 r3 => ?_
    obtain ⟨_, _, hh, ⟨n1, rfl, l1, u1⟩, _, _, rfl, ⟨n2, rfl, l2, u2⟩, _, _, rfl, ⟨n3, rfl, l3, u3⟩, rfl⟩ := hd
    cases hh
    cases rp_int r1
    cases rp_int r2
    cases rp_int r3
    obtain ⟨t1, p1, h1⟩ := tw_ex l1 u1
    obtain ⟨t2, p2, h2⟩ := tw_ex l2 u2
    obtain ⟨t3, p3, h3⟩ := tw_ex l3 u3
    have cb : ∀ {a b : Nat} {x y : Int} {t o t' o' : Nat} {G' H' : Hp} {σ : L2.St}, σ[a]? = some (some (.int x)) → σ[b]? = some (some (.int y)) → 1 ≤ x → x ≤ 1000000 → 1 ≤ y → y ≤ 1000000 → Tw x t o → Tw y t' o' → Eva K (tCall (PureSp K R_comes_before) [] E0 (tCons (tVar a) (tCons (tVar b) tNil))) σ G' H' (.bool (befB t o t' o')) :=
      fun ha hb x1 x2 y1 y2 hx hy => eva_call (evaA_cons (eva_var ha (.int _)) (evaA_cons (eva_var hb (.int _)) evaA_nil)) ⟨_, _, _, _, _, _, rfl, x1, x2, y1, y2, hx, hy, rfl⟩
    have rk : ∀ {a : Nat} {x : Int} {t o : Nat} {G' H' : Hp} {σ : L2.St}, σ[a]? = some (some (.int x)) → Tw x t o → Eva K (tCall (PureSp K R__law_rank) [] E0 (tCons (tVar a) tNil)) σ G' H' (.tuple ((rkL t o).map .int)) :=
      fun ha hx => eva_call (evaA_cons (eva_var ha (.int _)) evaA_nil) ⟨_, _, _, rfl, hx, rfl⟩
    refine qt_unless a4.o (evt_not (evt_B (eva_call (evaA_cons (cb rfl rfl l1 u1 l2 u2 h1 h2) (evaA_cons (eva_is (eva_ltT (rk rfl h1) (rk rfl h2)) (congrArg PyData.bool (rank_bef h1 h2))) evaA_nil)) ⟨_, rfl, trivial, rfl⟩))) rfl fun G5 H5 a5 => ?_
    refine qt_unless a5.o (b := befB t1 p1 t1 p1 || (!(n1 == n2) && PyData.eqv (.bool (befB t1 p1 t2 p2)) (.bool (befB t2 p2 t1 p1)))) (evt_or (evt_B (cb rfl rfl l1 u1 l1 u1 h1 h1)) fun _ => evt_and (evt_test (eva_neI (K := K) (eva_var rfl (.int n1)) (eva_var rfl (.int n2)))) fun _ => evt_test (eva_eq (cb rfl rfl l1 u1 l2 u2 h1 h2) (cb rfl rfl l2 u2 l1 u1 h2 h1) rfl rfl)) ?_ fun G6 H6 a6 => ?_
    · rw [bef_self, Bool.false_or]
      by_cases e : n1 = n2
      · simp [e]
      · have := bef_un h1 h2 e
        simp only [PyData.eqv]
        rw [this, Bool.and_false]
    refine st_unless a6.o (b := befB t1 p1 t2 p2 && (befB t2 p2 t3 p3 && !befB t1 p1 t3 p3)) (evt_and (evt_B (cb rfl rfl l1 u1 l2 u2 h1 h2)) fun _ => evt_and (evt_B (cb rfl rfl l2 u2 l3 u3 h2 h3)) fun _ => evt_not (evt_B (cb rfl rfl l1 u1 l3 u3 h1 h3))) ?_ fun G7 H7 a7 => ?_
    · cases e1 : befB t1 p1 t2 p2 with
      | false => rfl
      | true =>
        cases e2 : befB t2 p2 t3 p3 with
        | false => rfl
        | true => rw [bef_trans e1 e2]; rfl
    · exact ⟨G7, eB.trans (a3.g.trans (a4.g.trans (a5.trans (a6.trans a7)).g)), a7.o, w4.adv (a5.trans (a6.trans a7)), _, _, _, _, rfl⟩
end
/-! ### what the top has written; the head -/
theorem all_mk {l : PySem.W.OpenLaw} {w : World} {K : PySem.W.Frag} {h : Heap} {mg : PySem.Str → Option Value} {fa : Addr} (X : K.In h) (G : h.Ns mainGlobals mg) (hfa : mg "law" = some (.ref fa))
    {f__law_taken : Addr} {od__law_taken an__law_taken : Option Addr} {sl__law_taken : Array (Option Value)} {oc__law_taken kV__law_taken dc__law_taken pm__law_taken cd__law_taken ct__law_taken : Value}
    {f__law_pick : Addr} {od__law_pick an__law_pick : Option Addr} {sl__law_pick : Array (Option Value)} {oc__law_pick kV__law_pick dc__law_pick pm__law_pick cd__law_pick ct__law_pick : Value}
    {f__law_number : Addr} {od__law_number an__law_number : Option Addr} {sl__law_number : Array (Option Value)} {oc__law_number kV__law_number dc__law_number pm__law_number cd__law_number ct__law_number : Value}
    {f__law_alike : Addr} {od__law_alike an__law_alike : Option Addr} {sl__law_alike : Array (Option Value)} {oc__law_alike kV__law_alike dc__law_alike pm__law_alike cd__law_alike ct__law_alike : Value}
    {f_is_between : Addr} {od_is_between an_is_between : Option Addr} {sl_is_between : Array (Option Value)} {oc_is_between kV_is_between dc_is_between pm_is_between cd_is_between ct_is_between : Value}
    {f_check_number : Addr} {od_check_number an_check_number : Option Addr} {sl_check_number : Array (Option Value)} {oc_check_number kV_check_number dc_check_number pm_check_number cd_check_number ct_check_number : Value}
    {f__place : Addr} {od__place an__place : Option Addr} {sl__place : Array (Option Value)} {oc__place kV__place dc__place pm__place cd__place ct__place : Value}
    {f_comes_before : Addr} {od_comes_before an_comes_before : Option Addr} {sl_comes_before : Array (Option Value)} {oc_comes_before kV_comes_before dc_comes_before pm_comes_before cd_comes_before ct_comes_before : Value}
    {f__law_rank : Addr} {od__law_rank an__law_rank : Option Addr} {sl__law_rank : Array (Option Value)} {oc__law_rank kV__law_rank dc__law_rank pm__law_rank cd__law_rank ct__law_rank : Value}
    {f_law : Addr} {od_law an_law : Option Addr} {sl_law : Array (Option Value)} {oc_law kV_law dc_law pm_law cd_law ct_law : Value}
    {t_MOST_NUMBER : Tok}
    (a__law_taken : PySem.W.nsIn K mainGlobals "_law_taken" = some (some (.ref f__law_taken))) (l__law_taken : K.lookup f__law_taken = some ⟨oc__law_taken, od__law_taken, .func (PySem.W.fnOf "_law_taken" "_law_taken" (defArgs s__law_taken) (defBody s__law_taken) (defScope s__law_taken) .none kV__law_taken dc__law_taken pm__law_taken an__law_taken cd__law_taken ct__law_taken), sl__law_taken⟩) (c__law_taken : PySem.W.codeIn K cd__law_taken "_law_taken" = true) (k__law_taken : PySem.W.keepIn K (.ref f__law_taken) = true)
    (a__law_pick : PySem.W.nsIn K mainGlobals "_law_pick" = some (some (.ref f__law_pick))) (l__law_pick : K.lookup f__law_pick = some ⟨oc__law_pick, od__law_pick, .func (PySem.W.fnOf "_law_pick" "_law_pick" (defArgs s__law_pick) (defBody s__law_pick) (defScope s__law_pick) .none kV__law_pick dc__law_pick pm__law_pick an__law_pick cd__law_pick ct__law_pick), sl__law_pick⟩) (c__law_pick : PySem.W.codeIn K cd__law_pick "_law_pick" = true) (k__law_pick : PySem.W.keepIn K (.ref f__law_pick) = true)
    (a__law_number : PySem.W.nsIn K mainGlobals "_law_number" = some (some (.ref f__law_number))) (l__law_number : K.lookup f__law_number = some ⟨oc__law_number, od__law_number, .func (PySem.W.fnOf "_law_number" "_law_number" (defArgs s__law_number) (defBody s__law_number) (defScope s__law_number) .none kV__law_number dc__law_number pm__law_number an__law_number cd__law_number ct__law_number), sl__law_number⟩) (c__law_number : PySem.W.codeIn K cd__law_number "_law_number" = true) (k__law_number : PySem.W.keepIn K (.ref f__law_number) = true)
    (a__law_alike : PySem.W.nsIn K mainGlobals "_law_alike" = some (some (.ref f__law_alike))) (l__law_alike : K.lookup f__law_alike = some ⟨oc__law_alike, od__law_alike, .func (PySem.W.fnOf "_law_alike" "_law_alike" (defArgs s__law_alike) (defBody s__law_alike) (defScope s__law_alike) .none kV__law_alike dc__law_alike pm__law_alike an__law_alike cd__law_alike ct__law_alike), sl__law_alike⟩) (c__law_alike : PySem.W.codeIn K cd__law_alike "_law_alike" = true) (k__law_alike : PySem.W.keepIn K (.ref f__law_alike) = true)
    (a_is_between : PySem.W.nsIn K mainGlobals "is_between" = some (some (.ref f_is_between))) (l_is_between : K.lookup f_is_between = some ⟨oc_is_between, od_is_between, .func (PySem.W.fnOf "is_between" "is_between" (defArgs s_is_between) (defBody s_is_between) (defScope s_is_between) .none kV_is_between dc_is_between pm_is_between an_is_between cd_is_between ct_is_between), sl_is_between⟩) (c_is_between : PySem.W.codeIn K cd_is_between "is_between" = true) (k_is_between : PySem.W.keepIn K (.ref f_is_between) = true)
    (a_check_number : PySem.W.nsIn K mainGlobals "check_number" = some (some (.ref f_check_number))) (l_check_number : K.lookup f_check_number = some ⟨oc_check_number, od_check_number, .func (PySem.W.fnOf "check_number" "check_number" (defArgs s_check_number) (defBody s_check_number) (defScope s_check_number) .none kV_check_number dc_check_number pm_check_number an_check_number cd_check_number ct_check_number), sl_check_number⟩) (c_check_number : PySem.W.codeIn K cd_check_number "check_number" = true) (k_check_number : PySem.W.keepIn K (.ref f_check_number) = true)
    (a__place : PySem.W.nsIn K mainGlobals "_place" = some (some (.ref f__place))) (l__place : K.lookup f__place = some ⟨oc__place, od__place, .func (PySem.W.fnOf "_place" "_place" (defArgs s__place) (defBody s__place) (defScope s__place) .none kV__place dc__place pm__place an__place cd__place ct__place), sl__place⟩) (c__place : PySem.W.codeIn K cd__place "_place" = true) (k__place : PySem.W.keepIn K (.ref f__place) = true)
    (a_comes_before : PySem.W.nsIn K mainGlobals "comes_before" = some (some (.ref f_comes_before))) (l_comes_before : K.lookup f_comes_before = some ⟨oc_comes_before, od_comes_before, .func (PySem.W.fnOf "comes_before" "comes_before" (defArgs s_comes_before) (defBody s_comes_before) (defScope s_comes_before) .none kV_comes_before dc_comes_before pm_comes_before an_comes_before cd_comes_before ct_comes_before), sl_comes_before⟩) (c_comes_before : PySem.W.codeIn K cd_comes_before "comes_before" = true) (k_comes_before : PySem.W.keepIn K (.ref f_comes_before) = true)
    (a__law_rank : PySem.W.nsIn K mainGlobals "_law_rank" = some (some (.ref f__law_rank))) (l__law_rank : K.lookup f__law_rank = some ⟨oc__law_rank, od__law_rank, .func (PySem.W.fnOf "_law_rank" "_law_rank" (defArgs s__law_rank) (defBody s__law_rank) (defScope s__law_rank) .none kV__law_rank dc__law_rank pm__law_rank an__law_rank cd__law_rank ct__law_rank), sl__law_rank⟩) (c__law_rank : PySem.W.codeIn K cd__law_rank "_law_rank" = true) (k__law_rank : PySem.W.keepIn K (.ref f__law_rank) = true)
    (a_law : PySem.W.nsIn K mainGlobals "law" = some (some (.ref f_law))) (l_law : K.lookup f_law = some ⟨oc_law, od_law, .func (PySem.W.fnOf "law" "law" (defArgs s_law) (defBody s_law) (defScope s_law) .none kV_law dc_law pm_law an_law cd_law ct_law), sl_law⟩) (c_law : PySem.W.codeIn K cd_law "law" = true) (k_law : PySem.W.keepIn K (.ref f_law) = true)
    (z_bool : PySem.W.nsIn K mainGlobals "bool" = some none)
    (z_int : PySem.W.nsIn K mainGlobals "int" = some none)
    (z_isinstance : PySem.W.nsIn K mainGlobals "isinstance" = some none)
    (z_len : PySem.W.nsIn K mainGlobals "len" = some none)
    (z_list : PySem.W.nsIn K mainGlobals "list" = some none)
    (z_range : PySem.W.nsIn K mainGlobals "range" = some none)
    (z_str : PySem.W.nsIn K mainGlobals "str" = some none)
    (z_tuple : PySem.W.nsIn K mainGlobals "tuple" = some none)
    (c_MOST_NUMBER : PySem.W.nsIn K mainGlobals "MOST_NUMBER" = some (some (.int 1000000 t_MOST_NUMBER))) :
    ∃ fd : FuncData, (∀ (s : Shared) (v : Value), BindsTo s fd ⟨[v], []⟩ [("script", v)]) ∧ ∀ base : Heap, K.In base → base.Ns mainGlobals mg → FnOk l.prog w K mg base CX0 5 fa fd ["script"] (spLaw K) := by
  have e := hfa.symm.trans (PySem.W.mg_of X G a_law)
  cases e
  have F__law_taken := fun_mk (st := s__law_taken) l__law_taken c__law_taken k__law_taken
  have F__law_pick := fun_mk (st := s__law_pick) l__law_pick c__law_pick k__law_pick
  have F__law_number := fun_mk (st := s__law_number) l__law_number c__law_number k__law_number
  have F__law_alike := fun_mk (st := s__law_alike) l__law_alike c__law_alike k__law_alike
  have F_is_between := fun_mk (st := s_is_between) l_is_between c_is_between k_is_between
  have F_check_number := fun_mk (st := s_check_number) l_check_number c_check_number k_check_number
  have F__place := fun_mk (st := s__place) l__place c__place k__place
  have F_comes_before := fun_mk (st := s_comes_before) l_comes_before c_comes_before k_comes_before
  have F__law_rank := fun_mk (st := s__law_rank) l__law_rank c__law_rank k__law_rank
  have F_law := fun_mk (st := s_law) l_law c_law k_law
  let T : ∀ base : Heap, Tops K mg base := fun base => ⟨_, _, F__law_taken, PySem.W.mg_of X G a__law_taken, F__law_taken.binds (ps := ["row", "many"]) fun _ _ _ _ _ _ us hl => match us, hl with | [_, _], _ => rfl,
    _, _, F__law_pick, PySem.W.mg_of X G a__law_pick, F__law_pick.binds (ps := ["row", "things"]) fun _ _ _ _ _ _ us hl => match us, hl with | [_, _], _ => rfl,
    _, _, F__law_number, PySem.W.mg_of X G a__law_number, F__law_number.binds (ps := ["row"]) fun _ _ _ _ _ _ us hl => match us, hl with | [_], _ => rfl,
    _, _, F__law_alike, PySem.W.mg_of X G a__law_alike, F__law_alike.binds (ps := ["found", "due"]) fun _ _ _ _ _ _ us hl => match us, hl with | [_, _], _ => rfl,
    _, _, F_is_between, PySem.W.mg_of X G a_is_between, F_is_between.binds (ps := ["value", "low", "high"]) fun _ _ _ _ _ _ us hl => match us, hl with | [_, _, _], _ => rfl,
    _, _, F_check_number, PySem.W.mg_of X G a_check_number, F_check_number.binds (ps := ["number", "low", "high"]) fun _ _ _ _ _ _ us hl => match us, hl with | [_, _, _], _ => rfl,
    _, _, F__place, PySem.W.mg_of X G a__place, F__place.binds (ps := ["number"]) fun _ _ _ _ _ _ us hl => match us, hl with | [_], _ => rfl,
    _, _, F_comes_before, PySem.W.mg_of X G a_comes_before, F_comes_before.binds (ps := ["one", "other"]) fun _ _ _ _ _ _ us hl => match us, hl with | [_, _], _ => rfl,
    _, _, F__law_rank, PySem.W.mg_of X G a__law_rank, F__law_rank.binds (ps := ["number"]) fun _ _ _ _ _ _ us hl => match us, hl with | [_], _ => rfl,
    _, _, F_law, PySem.W.mg_of X G a_law, F_law.binds (ps := ["script"]) fun _ _ _ _ _ _ us hl => match us, hl with | [_], _ => rfl,
    PySem.W.mg_none_of X G z_bool,
    PySem.W.mg_none_of X G z_int,
    PySem.W.mg_none_of X G z_isinstance,
    PySem.W.mg_none_of X G z_len,
    PySem.W.mg_none_of X G z_list,
    PySem.W.mg_none_of X G z_range,
    PySem.W.mg_none_of X G z_str,
    PySem.W.mg_none_of X G z_tuple,
    _, PySem.W.mg_of X G c_MOST_NUMBER⟩
  exact ⟨_, fun s v => .of_eq rfl, fun base _ _ => ok_law (T base)⟩
end K56
open PySem PySem.W PyProof.Rows
set_option maxHeartbeats 0 in
theorem PySem.Challenge.cw_shiftcore_k56_whole_order_of_periods_holds : PySem.Challenge.rw_shiftcore_k56_whole_order_of_periods.Holds := by
  w_on; o_law; k_head; (case hw => w_witness2)
  k_fill
  refine L2.walk_of (l := PySem.Challenge.rw_shiftcore_k56_whole_order_of_periods) (n := 63) (k := 5) (x := "script") (CX := fun _ => L2.CX0) (sp := fun w => K56.spLaw _) rfl (by decide) rfl ⟨rfl, by decide, by decide⟩ (fun w h Y => PySem.W.kIn_of Y) ?F (fun _ _ a ns hl _ hS => ⟨a, ns, rfl, hS, hl, fun _ => rfl⟩) (fun _ _ _ _ _ h => h)
  case F =>
    intro w mg fa h KX G hmg
    refine' K56.all_mk KX G hmg ?a__law_taken ?l__law_taken ?c__law_taken ?k__law_taken ?a__law_pick ?l__law_pick ?c__law_pick ?k__law_pick ?a__law_number ?l__law_number ?c__law_number ?k__law_number ?a__law_alike ?l__law_alike ?c__law_alike ?k__law_alike ?a_is_between ?l_is_between ?c_is_between ?k_is_between ?a_check_number ?l_check_number ?c_check_number ?k_check_number ?a__place ?l__place ?c__place ?k__place ?a_comes_before ?l_comes_before ?c_comes_before ?k_comes_before ?a__law_rank ?l__law_rank ?c__law_rank ?k__law_rank ?a_law ?l_law ?c_law ?k_law ?z_bool ?z_int ?z_isinstance ?z_len ?z_list ?z_range ?z_str ?z_tuple ?c_MOST_NUMBER
    (case a__law_taken => k_is); (case l__law_taken => k_is); (case c__law_taken => k_is); (case k__law_taken => k_is); (case a__law_pick => k_is); (case l__law_pick => k_is); (case c__law_pick => k_is); (case k__law_pick => k_is); (case a__law_number => k_is); (case l__law_number => k_is); (case c__law_number => k_is); (case k__law_number => k_is); (case a__law_alike => k_is); (case l__law_alike => k_is); (case c__law_alike => k_is); (case k__law_alike => k_is); (case a_is_between => k_is); (case l_is_between => k_is); (case c_is_between => k_is); (case k_is_between => k_is); (case a_check_number => k_is); (case l_check_number => k_is); (case c_check_number => k_is); (case k_check_number => k_is); (case a__place => k_is); (case l__place => k_is); (case c__place => k_is); (case k__place => k_is); (case a_comes_before => k_is); (case l_comes_before => k_is); (case c_comes_before => k_is); (case k_comes_before => k_is); (case a__law_rank => k_is); (case l__law_rank => k_is); (case c__law_rank => k_is); (case k__law_rank => k_is); (case a_law => k_is); (case l_law => k_is); (case c_law => k_is); (case k_law => k_is); (case z_bool => k_is); (case z_int => k_is); (case z_isinstance => k_is); (case z_len => k_is); (case z_list => k_is); (case z_range => k_is); (case z_str => k_is); (case z_tuple => k_is); (case c_MOST_NUMBER => k_is)

