import PyProof.Rows.All
import HandS.ExcInit
import HandS.Nested
import HandS.Words
import KE.KExcSuper
import HandS.ExcField
import HandS.ExcValue
import HandS.ExcOwn
import KE.KExcIs
import PyProof.P3Eq
import PyProof.ReprRoads
import PyProof.ReprLen
import PyProof.StrBlock2
import HandS.Ends
import Wide.All
import OpenK.AllK
import Wide.FinOn
import HandS.ForMost
import HandS.Walk
import HandS.IsInst
import HandS.CallLocal
import HandS.Defaults
import HandS.Evl
import HandS.WideBits
import HandS.DictComp
import HandS.Style
import PySem.Challenge.RW_firstclause_k01_errors_made
set_option Elab.async false
set_option linter.all false
set_option maxRecDepth 100000
set_option maxHeartbeats 4000000
/-! Data logic over the hand layer: slots hold data (PyData), a base heap B within the heap H. -/
namespace FC
open PySem PySem.Spec PyProof.Rows L2
open Evl (Ex)

abbrev Dat := PyData
/-! ### data in a heap -/
theorem ex_rd {H H' : Hp} {a : Addr} {u : HO} (e : Ex H H') (h : Rd H a u) : Rd H' a u := by
  rcases h with h | ⟨o, h⟩
  · exact .inl (e a _ h)
  · exact .inr ⟨o, e a _ h⟩
theorem ex_l {K : PySem.W.Frag} {H H' : Hp} {a : Addr} {xs : List V} (e : Ex H H') (h : SqL K H a xs) : SqL K H' a xs := by
  rcases h with h | h
  · exact .inl (ex_rd e h)
  · exact .inr h
theorem ex_t {K : PySem.W.Frag} {H H' : Hp} {a : Addr} {xs : List V} (e : Ex H H') (h : SqT K H a xs) : SqT K H' a xs := by
  rcases h with h | h
  · exact .inl (ex_rd e h)
  · exact .inr h
mutual
theorem dp_ex {K : PySem.W.Frag} {H H' : Hp} (e : Ex H H') : ∀ (d : PyData) (v : V), Dp K H v d → Dp K H' v d
  | .none, _, h => by cases h; exact .non
  | .bool b, _, h => by cases h; exact .bl b
  | .int i, _, h => by cases h; exact .int i
  | .str s, _, h => by cases h; exact .str s
  | .list ds, _, h => by
    cases h with
    | lst hs ha => exact .lst (ex_l e hs) (dps_ex e ds _ ha)
  | .tuple ds, _, h => by
    cases h with
    | tup hs ha => exact .tup (ex_t e hs) (dps_ex e ds _ ha)
  | .dict _, _, h => by cases h
theorem dps_ex {K : PySem.W.Frag} {H H' : Hp} (e : Ex H H') : ∀ (ds : List PyData) (vs : List V), DpAll K H vs ds → DpAll K H' vs ds
  | [], _, h => by cases h; exact .nil
  | d :: ds, _, h => by
    cases h with
    | cons h1 h2 => exact .cons (dp_ex e d _ h1) (dps_ex e ds _ h2)
end
theorem dps_len {K : PySem.W.Frag} {H : Hp} : ∀ {ds : List PyData} {vs : List V}, DpAll K H vs ds → vs.length = ds.length
  | [], _, h => by cases h; rfl
  | _ :: ds, _, h => by
    cases h with
    | cons _ h2 => simp [dps_len h2]
theorem dps_get {K : PySem.W.Frag} {H : Hp} : ∀ {ds : List PyData} {vs : List V} {i : Nat} {d : PyData}, DpAll K H vs ds → ds[i]? = some d → ∃ v, vs[i]? = some v ∧ Dp K H v d
  | [], _, _, _, _, e => by simp at e
  | _ :: _, _, 0, _, h, e => by
    cases h with
    | cons h1 _ =>
      simp at e
      subst e
      exact ⟨_, rfl, h1⟩
  | _ :: ds, _, i + 1, d, h, e => by
    cases h with
    | cons _ h2 =>
      obtain ⟨v, h3, h4⟩ := dps_get (i := i) (d := d) h2 (by simpa using e)
      exact ⟨v, by simpa using h3, h4⟩
theorem dps_snoc {K : PySem.W.Frag} {H : Hp} {v : V} {d : PyData} (r : Dp K H v d) : ∀ {ds : List PyData} {vs : List V}, DpAll K H vs ds → DpAll K H (vs ++ [v]) (ds ++ [d])
  | [], _, h => by cases h; exact .cons r .nil
  | _ :: _, _, h => by
    cases h with
    | cons h1 h2 => exact .cons h1 (dps_snoc r h2)
theorem dps_append {K : PySem.W.Frag} {H : Hp} {es : List PyData} {ws : List V} (r : DpAll K H ws es) : ∀ {ds : List PyData} {vs : List V}, DpAll K H vs ds → DpAll K H (vs ++ ws) (ds ++ es)
  | [], _, h => by cases h; exact r
  | _ :: _, _, h => by
    cases h with
    | cons h1 h2 => exact .cons h1 (dps_append r h2)
/-- the pairs of a dict with texts as keys -/
def KR (K : PySem.W.Frag) (H : Hp) (ks : List (Key × V)) (kvs : List (Str × PyData)) : Prop :=
  Paired (fun (p : Key × V) (q : Str × PyData) => p.1 = Sum.inr q.1 ∧ Dp K H p.2 q.2) ks kvs
def bodyOf (kvs : List (Str × PyData)) : List (PyData × PyData) := kvs.map fun q => (.str q.1, q.2)
/-- a dict, locked or not; one that is not locked; one that is locked, at a -/
def dictOf (kvs : List (Str × PyData)) : PyData := .dict (bodyOf kvs)
def dictU (kvs : List (Str × PyData)) : PyData := .dict ((.none, .none) :: bodyOf kvs)
def dictL (a : Addr) (kvs : List (Str × PyData)) : PyData := .dict ((.int (a : Nat), .none) :: bodyOf kvs)
/-- a list that stands by itself (tracked, not locked) -/
def listX (ds : List PyData) : PyData := .dict [(.bool true, .list ds)]
inductive Rt (K : PySem.W.Frag) (H : Hp) : V → PyData → Prop where
  | d {v : V} {x : PyData} (h : Dp K H v x) : Rt K H v x
  | dict {a : Addr} {ks : List (Key × V)} {kvs : List (Str × PyData)} (e : Rd H a (.dK ks)) (h : KR K H ks kvs) (nd : (kvs.map (·.1)).Nodup) : Rt K H (.ref a) (dictOf kvs)
  | dictU {a : Addr} {ks : List (Key × V)} {kvs : List (Str × PyData)} (e : H a = some (.dK ks)) (h : KR K H ks kvs) (nd : (kvs.map (·.1)).Nodup) : Rt K H (.ref a) (dictU kvs)
  | dictL {a : Addr} {o : Obj} {ks : List (Key × V)} {kvs : List (Str × PyData)} (e : H a = some (.frz o (.dK ks))) (h : KR K H ks kvs) (nd : (kvs.map (·.1)).Nodup) : Rt K H (.ref a) (dictL a kvs)
  | lstX {a : Addr} {vs : List V} {ds : List PyData} (e : H a = some (.lst vs)) (h : DpAll K H vs ds) : Rt K H (.ref a) (listX ds)
theorem kr_ex {K : PySem.W.Frag} {H H' : Hp} (e : Ex H H') : ∀ {ks : List (Key × V)} {kvs : List (Str × PyData)}, KR K H ks kvs → KR K H' ks kvs
  | _, _, .nil => .nil
  | _, _, .cons r t => .cons ⟨r.1, dp_ex e _ _ r.2⟩ (kr_ex e t)
theorem Rt.ex {K : PySem.W.Frag} {H H' : Hp} {v : V} {x : PyData} (e : Ex H H') (h : Rt K H v x) : Rt K H' v x := by
  cases h with
  | d h => exact .d (dp_ex e _ _ h)
  | dict e1 h nd => exact .dict (ex_rd e e1) (kr_ex e h) nd
  | dictU e1 h nd => exact .dictU (e _ _ e1) (kr_ex e h) nd
  | dictL e1 h nd => exact .dictL (e _ _ e1) (kr_ex e h) nd
  | lstX e1 h => exact .lstX (e _ _ e1) (dps_ex e _ _ h)
theorem bodyOf_inj : ∀ {k1 k2 : List (Str × PyData)}, bodyOf k1 = bodyOf k2 → k1 = k2
  | [], [], _ => rfl
  | [], _ :: _, h => by simp [bodyOf] at h
  | _ :: _, [], h => by simp [bodyOf] at h
  | (a, b) :: r, (c, d) :: s, h => by
    simp only [bodyOf, List.map_cons, List.cons.injEq, Prod.mk.injEq, PyData.str.injEq] at h
    obtain ⟨⟨h1, h2⟩, h3⟩ := h
    rw [h1, h2, bodyOf_inj (k1 := r) (k2 := s) h3]
theorem body_ne {kvs : List (Str × PyData)} {x : PyData × PyData} {r : List (PyData × PyData)} (hx : ∀ s, x.1 ≠ .str s) : bodyOf kvs ≠ x :: r := by
  cases kvs with
  | nil => intro h; simp [bodyOf] at h
  | cons q qs =>
    intro h
    simp only [bodyOf, List.map_cons, List.cons.injEq] at h
    exact hx q.1 (by rw [← h.1])
theorem rt_dict {K : PySem.W.Frag} {B : Hp} {v : V} {kvs : List (Str × PyData)} (h : Rt K B v (dictOf kvs)) : ∃ a ks, v = .ref a ∧ Rd B a (.dK ks) ∧ KR K B ks kvs ∧ (kvs.map (·.1)).Nodup := by
  generalize hd : dictOf kvs = dd at h
  cases h with
  | d h =>
    subst hd
    cases h
  | dict e1 h nd =>
    have e := bodyOf_inj (PyData.dict.inj hd)
    subst e
    exact ⟨_, _, rfl, e1, h, nd⟩
  | dictU e1 h nd => exact (body_ne (x := (.none, .none)) (fun s z => by cases z) (PyData.dict.inj hd)).elim
  | @dictL a2 o ks kv2 e1 h nd => exact (body_ne (x := (.int (a2 : Nat), .none)) (fun s z => by cases z) (PyData.dict.inj hd)).elim
  | @lstX a2 vs ds2 e1 h => exact (body_ne (x := (.bool true, .list ds2)) (fun s z => by cases z) (PyData.dict.inj hd)).elim
theorem rt_dictU {K : PySem.W.Frag} {B : Hp} {v : V} {kvs : List (Str × PyData)} (h : Rt K B v (dictU kvs)) : ∃ a ks, v = .ref a ∧ B a = some (.dK ks) ∧ KR K B ks kvs ∧ (kvs.map (·.1)).Nodup := by
  generalize hd : dictU kvs = dd at h
  cases h with
  | d h =>
    subst hd
    cases h
  | dict e1 h nd => exact (body_ne (x := (.none, .none)) (fun s z => by cases z) (PyData.dict.inj hd).symm).elim
  | dictU e1 h nd =>
    have e := bodyOf_inj (List.cons.inj (PyData.dict.inj hd)).2
    subst e
    exact ⟨_, _, rfl, e1, h, nd⟩
  | dictL e1 h nd =>
    have e := (List.cons.inj (PyData.dict.inj hd)).1
    simp at e
  | lstX e1 h =>
    have e := (List.cons.inj (PyData.dict.inj hd)).1
    simp at e
theorem rt_dictL {K : PySem.W.Frag} {B : Hp} {v : V} {a : Addr} {kvs : List (Str × PyData)} (h : Rt K B v (dictL a kvs)) : ∃ o ks, v = .ref a ∧ B a = some (.frz o (.dK ks)) ∧ KR K B ks kvs ∧ (kvs.map (·.1)).Nodup := by
  generalize hd : dictL a kvs = dd at h
  cases h with
  | d h =>
    subst hd
    cases h
  | dict e1 h nd => exact (body_ne (x := (.int (a : Nat), .none)) (fun s z => by cases z) (PyData.dict.inj hd).symm).elim
  | dictU e1 h nd =>
    have e := (List.cons.inj (PyData.dict.inj hd)).1
    simp at e
  | @dictL a2 o ks kv2 e1 h nd =>
    have e := bodyOf_inj (List.cons.inj (PyData.dict.inj hd)).2
    have e2 := (List.cons.inj (PyData.dict.inj hd)).1
    simp only [Prod.mk.injEq, PyData.int.injEq, and_true] at e2
    have e3 : a = a2 := Int.ofNat.inj e2
    subst e e3
    exact ⟨_, _, rfl, e1, h, nd⟩
  | lstX e1 h =>
    have e := (List.cons.inj (PyData.dict.inj hd)).1
    simp at e
theorem rt_listX {K : PySem.W.Frag} {B : Hp} {v : V} {ds : List PyData} (h : Rt K B v (listX ds)) : ∃ a vs, v = .ref a ∧ B a = some (.lst vs) ∧ DpAll K B vs ds := by
  generalize hd : listX ds = dd at h
  cases h with
  | d h =>
    subst hd
    cases h
  | dict e1 h nd => exact (body_ne (x := (.bool true, .list ds)) (fun s z => by cases z) (PyData.dict.inj hd).symm).elim
  | dictU e1 h nd =>
    have e := (List.cons.inj (PyData.dict.inj hd)).1
    simp at e
  | dictL e1 h nd =>
    have e := (List.cons.inj (PyData.dict.inj hd)).1
    simp at e
  | lstX e1 h =>
    have e := (List.cons.inj (PyData.dict.inj hd)).1
    simp only [Prod.mk.injEq, PyData.list.injEq, true_and] at e
    subst e
    exact ⟨_, _, rfl, e1, h⟩
theorem rt_ofX {K : PySem.W.Frag} {B : Hp} {v : V} {ds : List PyData} (h : Rt K B v (listX ds)) : Rt K B v (.list ds) := by
  obtain ⟨a, vs, rfl, e, h⟩ := rt_listX h
  exact .d (.lst (.inl (.inl e)) h)
theorem rt_ofU {K : PySem.W.Frag} {B : Hp} {v : V} {kvs : List (Str × PyData)} (h : Rt K B v (dictU kvs)) : Rt K B v (dictOf kvs) := by
  obtain ⟨a, ks, rfl, e, kr, nd⟩ := rt_dictU h
  exact .dict (.inl e) kr nd
theorem rt_ofL {K : PySem.W.Frag} {B : Hp} {v : V} {a : Addr} {kvs : List (Str × PyData)} (h : Rt K B v (dictL a kvs)) : Rt K B v (dictOf kvs) := by
  obtain ⟨o, ks, rfl, e, kr, nd⟩ := rt_dictL h
  exact .dict (.inr ⟨o, e⟩) kr nd
def plain : PyData → Bool
  | .dict _ => false
  | _ => true
theorem Rt.dp {K : PySem.W.Frag} {H : Hp} {v : V} {x : PyData} (h : Rt K H v x) (p : plain x = true) : Dp K H v x := by
  cases h with
  | d h => exact h
  | dict e1 h nd => simp [plain, dictOf] at p
  | dictU e1 h nd => simp [plain, FC.dictU] at p
  | dictL e1 h nd => simp [plain, FC.dictL] at p
  | lstX e1 h => simp [plain, FC.listX] at p
abbrev RtA (K : PySem.W.Frag) (H : Hp) : List V → List PyData → Prop := Paired (Rt K H)
theorem RtA.ex {K : PySem.W.Frag} {H H' : Hp} (e : Ex H H') : ∀ {vs : List V} {ds : List PyData}, RtA K H vs ds → RtA K H' vs ds
  | _, _, .nil => .nil
  | _, _, .cons r t => .cons (r.ex e) (RtA.ex e t)
theorem RtA.dps {K : PySem.W.Frag} {H : Hp} : ∀ {vs : List V} {ds : List PyData}, RtA K H vs ds → ds.all plain = true → DpAll K H vs ds
  | _, _, .nil, _ => .nil
  | _, _, .cons r t, h => by
    simp only [List.all_cons, Bool.and_eq_true] at h
    exact .cons (r.dp h.1) (RtA.dps t h.2)
/-! ### the slots -/
structure En (K : PySem.W.Frag) (B : Hp) (σ : L2.St) (G : List (Option PyData)) : Prop where
  len : σ.length = G.length
  get : ∀ (i : Nat) (d : PyData), G[i]? = some (some d) → ∃ v, σ[i]? = some (some v) ∧ Rt K B v d
theorem En.ex {K : PySem.W.Frag} {B B' : Hp} {σ : L2.St} {G : List (Option PyData)} (e : Ex B B') (h : En K B σ G) : En K B' σ G :=
  ⟨h.len, fun i d q => by
    obtain ⟨v, h1, h2⟩ := h.get i d q
    exact ⟨v, h1, h2.ex e⟩⟩
theorem En.set {K : PySem.W.Frag} {B : Hp} {σ : L2.St} {G : List (Option PyData)} {v : V} {d : PyData} (j : Nat) (h : En K B σ G) (r : Rt K B v d) : En K B (σ.set j (some v)) (G.set j (some d)) := by
  refine ⟨by rw [List.length_set, List.length_set, h.len], fun i e q => ?_⟩
  by_cases hij : j = i
  · subst hij
    have hl : j < G.length := by
      have := (List.getElem?_eq_some_iff.mp q).1
      simpa using this
    rw [List.getElem?_set_self hl] at q
    cases q
    exact ⟨v, List.getElem?_set_self (by rw [h.len]; exact hl), r⟩
  · rw [List.getElem?_set_ne hij] at q
    obtain ⟨u, h1, h2⟩ := h.get i e q
    exact ⟨u, by rw [List.getElem?_set_ne hij]; exact h1, h2⟩
/-- a slot whose value is not told -/
theorem En.setN {K : PySem.W.Frag} {B : Hp} {σ : L2.St} {G : List (Option PyData)} {x : Option V} (j : Nat) (h : En K B σ G) : En K B (σ.set j x) (G.set j none) := by
  refine ⟨by rw [List.length_set, List.length_set, h.len], fun i e q => ?_⟩
  by_cases hij : j = i
  · subst hij
    have hl : j < G.length := by
      have := (List.getElem?_eq_some_iff.mp q).1
      simpa using this
    rw [List.getElem?_set_self hl] at q
    cases q
  · rw [List.getElem?_set_ne hij] at q
    obtain ⟨u, h1, h2⟩ := h.get i e q
    exact ⟨u, by rw [List.getElem?_set_ne hij]; exact h1, h2⟩
def wipeG (G : List (Option PyData)) : List Nat → List (Option PyData)
  | [] => G
  | v :: vs => (wipeG G vs).set v none
theorem En.wipe {K : PySem.W.Frag} {B : Hp} {σ : L2.St} {G : List (Option PyData)} (h : En K B σ G) : ∀ vs, En K B (wipe σ vs) (wipeG G vs)
  | [] => h
  | v :: vs => (h.wipe vs).setN v
def startG (N : List Str) (ds : List PyData) : List (Option PyData) := ds.map some ++ List.replicate (N.length - ds.length) none
theorem En.start {K : PySem.W.Frag} {B : Hp} {N : List Str} {vs : List V} {ds : List PyData} (h : RtA K B vs ds) : En K B (start N vs) (startG N ds) := by
  have hl : vs.length = ds.length := Paired.length h
  unfold L2.start startG
  refine ⟨by simp [hl], fun i d q => ?_⟩
  rw [List.getElem?_append] at q
  split at q
  · rename_i hi
    rw [List.length_map] at hi
    rw [List.getElem?_map] at q
    have hi' : i < vs.length := by omega
    have e1 : ds[i]? = some d := by
      cases e : ds[i]? with
      | none => rw [e] at q; cases q
      | some x => rw [e] at q; simpa using q
    have key : ∀ {vs : List V} {ds : List PyData} {i : Nat}, RtA K B vs ds → ds[i]? = some d → ∃ v, vs[i]? = some v ∧ Rt K B v d := by
      intro vs ds i h
      induction h generalizing i with
      | nil => intro e; simp at e
      | cons r t ih =>
        intro e
        cases i with
        | zero =>
          simp at e
          subst e
          exact ⟨_, rfl, r⟩
        | succ i => simpa using ih (by simpa using e)
    obtain ⟨v, h1, h2⟩ := key h e1
    refine ⟨v, ?_, h2⟩
    rw [List.getElem?_append_left (by simpa using hi'), List.getElem?_map, h1]
    rfl
  · rename_i hi
    have : ∀ (n j : Nat), (List.replicate n (none : Option PyData))[j]? = some (some d) → False := by
      intro n j e
      rw [List.getElem?_replicate] at e
      split at e <;> simp at e
    exact (this _ _ q).elim
/-! ### steps of (B, H) -/
structure Go (B H B' H' : Hp) : Prop where
  eb : Ex B B'
  eh : Ex H H'
  sub : Ex B' H'
  fr : ∀ a o, H a = some o → B a = none → B' a = none
theorem Go.refl {B H : Hp} (e : Ex B H) : Go B H B H := ⟨Evl.Ex.refl _, Evl.Ex.refl _, e, fun _ _ _ n => n⟩
theorem Go.trans {B H B1 H1 B2 H2 : Hp} (a : Go B H B1 H1) (b : Go B1 H1 B2 H2) : Go B H B2 H2 :=
  ⟨a.eb.trans b.eb, a.eh.trans b.eh, b.sub, fun c o h n => b.fr c o (a.eh c o h) (a.fr c o h n)⟩
theorem sub_none {B H : Hp} {p : Addr} (e : Ex B H) (n : H p = none) : B p = none := Evl.fresh_back e n
theorem Go.new {B H : Hp} {p : Addr} {o : HO} (e : Ex B H) (n : H p = none) : Go B H (upd B p o) (upd H p o) :=
  ⟨Evl.Ex.new (sub_none e n), Evl.Ex.new n, fun a u h => by
    by_cases ha : a = p
    · subst ha
      rw [upd_same] at h ⊢
      exact h
    · rw [upd_ne ha] at h ⊢
      exact e a u h, fun a u h nb => by
    rw [upd_ne (ne_of_none h n)]
    exact nb⟩
/-- a new object that B does not learn of -/
theorem Go.own {B H : Hp} {p : Addr} {o : HO} (e : Ex B H) (n : H p = none) : Go B H B (upd H p o) :=
  ⟨Evl.Ex.refl _, Evl.Ex.new n, e.trans (Evl.Ex.new n), fun _ _ _ nb => nb⟩

/-! ### judgements -/
section
variable (K : PySem.W.Frag)
def DE (te : TE) (G : List (Option PyData)) (d : PyData) : Prop :=
  ∀ σ B H, Ex B H → En K B σ G → ∀ Q : VK, (∀ v B' H', Go B H B' H' → Rt K B' v d → Q v H') → te σ H Q
def DT (tt : TT) (G : List (Option PyData)) (b : Bool) : Prop :=
  ∀ σ B H, Ex B H → En K B σ G → ∀ Q : Bool → Hp → Prop, (∀ B' H', Go B H B' H' → Q b H') → tt σ H Q
def DA (ta : TA) (G : List (Option PyData)) (ds : List PyData) : Prop :=
  ∀ σ B H, Ex B H → En K B σ G → ∀ Q : List V → Hp → Prop, (∀ vs B' H', Go B H B' H' → RtA K B' vs ds → Q vs H') → ta σ H Q
inductive Out where
  | nx (G : List (Option PyData)) | rt (d : PyData)
def Out.Ok (B H : Hp) (D : Ends) : Out → Prop
  | .nx G => ∀ σ' B' H', Go B H B' H' → En K B' σ' G → D.nx σ' H'
  | .rt d => ∀ v B' H', Go B H B' H' → Rt K B' v d → D.rt v H'
def DS (ts : TS) (G : List (Option PyData)) (r : Out) : Prop :=
  ∀ D σ B H, Ex B H → En K B σ G → r.Ok K B H D → ts D σ H
/-- the promise of a def: data in, data out, nothing that stood is changed -/
def spD (n : Nat) (pre : List PyData → Prop) (F : List PyData → PyData) : Sp := fun vs H Q _ =>
  ∃ B ds, Ex B H ∧ RtA K B vs ds ∧ ds.length = n ∧ pre ds ∧ ∀ v B' H', Go B H B' H' → Rt K B' v (F ds) → Q v H'
end
theorem Out.Ok.go {K : PySem.W.Frag} {B H B1 H1 : Hp} {D : Ends} (g : Go B H B1 H1) {r : Out} (h : r.Ok K B H D) : r.Ok K B1 H1 D := by
  cases r with
  | nx G => exact fun σ' B' H' g' e => h σ' B' H' (g.trans g') e
  | rt d => exact fun v B' H' g' e => h v B' H' (g.trans g') e
section
variable {K : PySem.W.Frag} {G : List (Option PyData)} {ta tb te tc : TE} {t u : TT} {d e f : PyData} {b c : Bool}
theorem DE.fin {n : Nat} {pre : List PyData → Prop} {F : List PyData → PyData} {N : List Str} {ts : TS} {vs : List V} {ds : List PyData} {B H : Hp} {Q : VK} (h : DS K ts (startG N ds) (.rt (F ds)))
    (e : Ex B H) (r : RtA K B vs ds) (q : ∀ v B' H', Go B H B' H' → Rt K B' v (F ds) → Q v H') : ts { nx := fun _ H' => Q .non H', rt := Q } (start N vs) H :=
  h _ _ B H e (En.start r) q
theorem de_ofU {kvs : List (Str × PyData)} (h : DE K te G (dictU kvs)) : DE K te G (dictOf kvs) := fun σ B H x en Q q => h σ B H x en _ fun v B' H' g r => q v B' H' g (rt_ofU r)
theorem de_ofL {a : Addr} {kvs : List (Str × PyData)} (h : DE K te G (dictL a kvs)) : DE K te G (dictOf kvs) := fun σ B H x en Q q => h σ B H x en _ fun v B' H' g r => q v B' H' g (rt_ofL r)
theorem de_ofX {ds : List PyData} (h : DE K te G (listX ds)) : DE K te G (.list ds) := fun σ B H x en Q q => h σ B H x en _ fun v B' H' g r => q v B' H' g (rt_ofX r)
theorem de_is (h : DE K te G d) (x : d = e) : DE K te G e := x ▸ h
theorem dt_is (h : DT K t G b) (x : b = c) : DT K t G c := x ▸ h
theorem de_var {i : Nat} (h : G[i]? = some (some d)) : DE K (tVar i) G d := fun σ B H x en Q q => by
  obtain ⟨v, h1, h2⟩ := en.get i d h
  exact ⟨v, h1, q v B H (.refl x) h2⟩
theorem de_int {i : Int} : DE K (tC (.int i)) G (.int i) := fun σ B H x en Q q => q _ B H (.refl x) (.d (.int i))
theorem de_bl {b : Bool} : DE K (tC (.bl b)) G (.bool b) := fun σ B H x en Q q => q _ B H (.refl x) (.d (.bl b))
theorem de_non : DE K (tC .non) G .none := fun σ B H x en Q q => q _ B H (.refl x) (.d .non)
theorem de_str {s : Str} : DE K (tC (.str s)) G (.str s) := fun σ B H x en Q q => q _ B H (.refl x) (.d (.str s))
theorem da_nil : DA K tNil G [] := fun σ B H x en Q q => q [] B H (.refl x) .nil
theorem da_cons {tr : TA} {ds : List PyData} (h : DE K te G d) (hr : DA K tr G ds) : DA K (tCons te tr) G (d :: ds) := fun σ B H x en Q q =>
  h σ B H x en _ fun v B1 H1 g1 r1 => hr σ B1 H1 g1.sub (en.ex g1.eb) _ fun vs B2 H2 g2 r2 => q (v :: vs) B2 H2 (g1.trans g2) (.cons (r1.ex g2.eb) r2)
theorem de_tup {tr : TA} {ds : List PyData} (h : DA K tr G ds) (hp : ds.all plain = true) (hl : ds.length ≤ 1000) : DE K (tTup tr) G (.tuple ds) := fun σ B H x en Q q =>
  h σ B H x en _ fun vs B1 H1 g1 r1 => ⟨by rw [Paired.length r1]; exact Nat.le_trans hl (by decide), fun p hn => by
    have g2 : Go B1 H1 (upd B1 p (.tup vs)) (upd H1 p (.tup vs)) := Go.new g1.sub hn
    exact q _ _ _ (g1.trans g2) (.d (.tup (.inl (.inl upd_same)) ((RtA.ex g2.eb r1).dps hp)))⟩
theorem de_lst {tr : TA} {ds : List PyData} (h : DA K tr G ds) (hp : ds.all plain = true) (hl : ds.length ≤ 1000) : DE K (tLst tr) G (.list ds) := fun σ B H x en Q q =>
  h σ B H x en _ fun vs B1 H1 g1 r1 => ⟨by rw [Paired.length r1]; exact Nat.le_trans hl (by decide), fun p hn => by
    have g2 : Go B1 H1 (upd B1 p (.lst vs)) (upd H1 p (.lst vs)) := Go.new g1.sub hn
    exact q _ _ _ (g1.trans g2) (.d (.lst (.inl (.inl upd_same)) ((RtA.ex g2.eb r1).dps hp)))⟩
theorem de_lstX {tr : TA} {ds : List PyData} (h : DA K tr G ds) (hp : ds.all plain = true) (hl : ds.length ≤ 1000) : DE K (tLst tr) G (listX ds) := fun σ B H x en Q q =>
  h σ B H x en _ fun vs B1 H1 g1 r1 => ⟨by rw [Paired.length r1]; exact Nat.le_trans hl (by decide), fun p hn => by
    have g2 : Go B1 H1 (upd B1 p (.lst vs)) (upd H1 p (.lst vs)) := Go.new g1.sub hn
    exact q _ _ _ (g1.trans g2) (.lstX upd_same ((RtA.ex g2.eb r1).dps hp))⟩
theorem rt_bool {B : Hp} {v : V} (h : Rt K B v (.bool b)) : v = .bl b := by
  have h := h.dp rfl
  cases h
  rfl
theorem rt_int {B : Hp} {v : V} {i : Int} (h : Rt K B v (.int i)) : v = .int i := by
  have h := h.dp rfl
  cases h
  rfl
theorem rt_str {B : Hp} {v : V} {s : Str} (h : Rt K B v (.str s)) : v = .str s := by
  have h := h.dp rfl
  cases h
  rfl
theorem de_and (h1 : DE K ta G (.bool b)) (h2 : b = true → DE K tb G (.bool c)) : DE K (tAndV ta tb) G (.bool (b && c)) := fun σ B H x en Q q =>
  h1 σ B H x en _ fun v B1 H1 g1 r1 => ⟨b, rt_bool r1, by
    cases b with
    | true =>
      rw [if_pos rfl]
      exact h2 rfl σ B1 H1 g1.sub (en.ex g1.eb) _ fun v B2 H2 g2 r2 => q v B2 H2 (g1.trans g2) r2
    | false =>
      rw [if_neg Bool.false_ne_true]
      exact q _ B1 H1 g1 (.d (.bl false))⟩
theorem de_or (h1 : DE K ta G (.bool b)) (h2 : b = false → DE K tb G (.bool c)) : DE K (tOrV ta tb) G (.bool (b || c)) := fun σ B H x en Q q =>
  h1 σ B H x en _ fun v B1 H1 g1 r1 => ⟨b, rt_bool r1, by
    cases b with
    | true =>
      rw [if_pos rfl]
      exact q _ B1 H1 g1 (.d (.bl true))
    | false =>
      rw [if_neg Bool.false_ne_true]
      exact h2 rfl σ B1 H1 g1.sub (en.ex g1.eb) _ fun v B2 H2 g2 r2 => q v B2 H2 (g1.trans g2) r2⟩
theorem de_not (h1 : DE K ta G (.bool b)) : DE K (tNotV ta) G (.bool (!b)) := fun σ B H x en Q q =>
  h1 σ B H x en _ fun v B1 H1 g1 r1 => ⟨b, rt_bool r1, q _ B1 H1 g1 (.d (.bl _))⟩
theorem de_if (h : DT K t G b) (h1 : b = true → DE K ta G d) (h2 : b = false → DE K tb G d) : DE K (tIf t ta tb) G d := fun σ B H x en Q q =>
  h σ B H x en _ fun B1 H1 g1 => by
    cases b with
    | true =>
      rw [if_pos rfl]
      exact h1 rfl σ B1 H1 g1.sub (en.ex g1.eb) _ fun v B2 H2 g2 r2 => q v B2 H2 (g1.trans g2) r2
    | false =>
      rw [if_neg Bool.false_ne_true]
      exact h2 rfl σ B1 H1 g1.sub (en.ex g1.eb) _ fun v B2 H2 g2 r2 => q v B2 H2 (g1.trans g2) r2
theorem dt_B (h : DE K te G (.bool b)) : DT K (tB te) G b := fun σ B H x en Q q => h σ B H x en _ fun v B1 H1 g1 r1 => ⟨b, rt_bool r1, q B1 H1 g1⟩
theorem dt_test (h : DE K te G (.bool b)) : DT K (tTest te) G b := fun σ B H x en Q q => h σ B H x en _ fun v B1 H1 g1 r1 => ⟨b, rt_bool r1, q B1 H1 g1⟩
theorem dt_and (h1 : DT K t G b) (h2 : b = true → DT K u G c) : DT K (tAnd t u) G (b && c) := fun σ B H x en Q q =>
  h1 σ B H x en _ fun B1 H1 g1 => by
    cases b with
    | true =>
      rw [if_pos rfl]
      exact h2 rfl σ B1 H1 g1.sub (en.ex g1.eb) _ fun B2 H2 g2 => q B2 H2 (g1.trans g2)
    | false =>
      rw [if_neg Bool.false_ne_true]
      exact q B1 H1 g1
theorem dt_or (h1 : DT K t G b) (h2 : b = false → DT K u G c) : DT K (tOr t u) G (b || c) := fun σ B H x en Q q =>
  h1 σ B H x en _ fun B1 H1 g1 => by
    cases b with
    | true =>
      rw [if_pos rfl]
      exact q B1 H1 g1
    | false =>
      rw [if_neg Bool.false_ne_true]
      exact h2 rfl σ B1 H1 g1.sub (en.ex g1.eb) _ fun B2 H2 g2 => q B2 H2 (g1.trans g2)
theorem dt_not (h1 : DT K t G b) : DT K (tNot t) G (!b) := fun σ B H x en Q q => h1 σ B H x en _ fun B1 H1 g1 => q B1 H1 g1
/-- a value operation on two data -/
def RD (K : PySem.W.Frag) (r : R2) (d e f : PyData) : Prop := ∀ B H v w, Ex B H → Rt K B v d → Rt K B w e → ∀ Q : VK, (∀ z B' H', Go B H B' H' → Rt K B' z f → Q z H') → r v w H Q
theorem de_op {r : R2} (h1 : DE K ta G d) (h2 : DE K tb G e) (hr : RD K r d e f) : DE K (tOp r ta tb) G f := fun σ B H x en Q q =>
  h1 σ B H x en _ fun v B1 H1 g1 r1 => h2 σ B1 H1 g1.sub (en.ex g1.eb) _ fun w B2 H2 g2 r2 =>
    hr B2 H2 v w g2.sub (r1.ex g2.eb) r2 _ fun z B3 H3 g3 r3 => q z B3 H3 (g1.trans (g2.trans g3)) r3
theorem de_chain {r r' : R2} {e' : PyData} (h1 : DE K ta G d) (h2 : DE K tb G e) (h3 : b = true → DE K tc G e') (hr : RD K r d e (.bool b)) (hr' : b = true → RD K r' e e' (.bool c)) :
    DE K (tChain r r' ta tb tc) G (.bool (b && c)) := fun σ B H x en Q q =>
  h1 σ B H x en _ fun v B1 H1 g1 r1 => h2 σ B1 H1 g1.sub (en.ex g1.eb) _ fun w B2 H2 g2 r2 =>
    hr B2 H2 v w g2.sub (r1.ex g2.eb) r2 _ fun z B3 H3 g3 r3 => ⟨b, rt_bool r3, by
      cases b with
      | true =>
        rw [if_pos rfl]
        exact h3 rfl σ B3 H3 g3.sub (((en.ex g1.eb).ex g2.eb).ex g3.eb) _ fun w' B4 H4 g4 r4 =>
          hr' rfl B4 H4 w w' g4.sub ((r2.ex g3.eb).ex g4.eb) r4 _ fun z5 B5 H5 g5 r5 => q z5 B5 H5 (g1.trans (g2.trans (g3.trans (g4.trans g5)))) r5
      | false =>
        rw [if_neg Bool.false_ne_true]
        exact q _ B3 H3 (g1.trans (g2.trans g3)) (.d (.bl false))⟩
/-- a call's rule on data -/
def CD (K : PySem.W.Frag) (r : List V → Hp → VK → Prop) (ds : List PyData) (f : PyData) : Prop := ∀ B H vs, Ex B H → RtA K B vs ds → ∀ Q : VK, (∀ z B' H', Go B H B' H' → Rt K B' z f → Q z H') → r vs H Q
theorem de_cb {r : List V → Hp → VK → Prop} {tr : TA} {ds : List PyData} (h : DA K tr G ds) (hr : CD K r ds f) : DE K (tCB r tr) G f := fun σ B H x en Q q =>
  h σ B H x en _ fun vs B1 H1 g1 r1 => hr B1 H1 vs g1.sub r1 _ fun z B2 H2 g2 r2 => q z B2 H2 (g1.trans g2) r2
theorem de_call {tr : TA} {ds : List PyData} {n : Nat} {pre : List PyData → Prop} {F : List PyData → PyData} {E : XK} (h : DA K tr G ds) (hn : ds.length = n) (hp : pre ds) : DE K (tCall (spD K n pre F) [] E tr) G (F ds) := fun σ B H x en Q q =>
  h σ B H x en _ fun vs B1 H1 g1 r1 => by
    rw [List.append_nil]
    exact ⟨B1, ds, g1.sub, r1, hn, hp, fun v B' H' g2 r2 => q v B' H' (g1.trans g2) r2⟩
/-! ### statements -/
variable {t1 t2 : TS} {r : Out}
theorem ds_seq {G1 : List (Option PyData)} (h1 : DS K t1 G (.nx G1)) (h2 : DS K t2 G1 r) : DS K (tSeq t1 t2) G r := fun D σ B H x en q =>
  h1 { D with nx := t2 D } σ B H x en fun σ' B' H' g e => h2 D σ' B' H' g.sub e (q.go g)
theorem ds_seqR (h1 : DS K t1 G (.rt d)) : DS K (tSeq t1 t2) G (.rt d) := fun D σ B H x en q => h1 { D with nx := t2 D } σ B H x en q
theorem ds_next : DS K tNext G (.nx G) := fun D σ B H x en q => q σ B H (.refl x) en
theorem ds_ret (h : DE K te G d) : DS K (tRet te) G (.rt d) := fun D σ B H x en q => h σ B H x en _ fun v B' H' g r => q v B' H' g r
theorem ds_set {i : Nat} (h : DE K te G d) : DS K (tAsg te (gName i)) G (.nx (G.set i (some d))) := fun D σ B H x en q =>
  h σ B H x en _ fun v B' H' g r => q _ B' H' g ((en.ex g.eb).set i r)
theorem ds_drop (h : DE K te G d) : DS K (tDrop te) G (.nx G) := fun D σ B H x en q => h σ B H x en _ fun v B' H' g r => q σ B' H' g (en.ex g.eb)
theorem ds_if (h : DT K t G b) (h1 : b = true → DS K t1 G r) (h2 : b = false → DS K t2 G r) : DS K (tIfS t t1 t2) G r := fun D σ B H x en q =>
  h σ B H x en _ fun B1 H1 g1 => by
    cases b with
    | true =>
      rw [if_pos rfl]
      exact h1 rfl D σ B1 H1 g1.sub (en.ex g1.eb) (q.go g1)
    | false =>
      rw [if_neg Bool.false_ne_true]
      exact h2 rfl D σ B1 H1 g1.sub (en.ex g1.eb) (q.go g1)
/-- if .. : return .. ; the rest -/
theorem ds_guard (h : DT K t G b) (h1 : b = true → DS K t1 G (.rt d)) (h2 : b = false → DS K t2 G (.rt d)) : DS K (tSeq (tIfS t t1 tNext) t2) G (.rt d) := fun D σ B H x en q =>
  h σ B H x en _ fun B1 H1 g1 => by
    cases b with
    | true =>
      rw [if_pos rfl]
      exact h1 rfl { D with nx := t2 D } σ B1 H1 g1.sub (en.ex g1.eb) (Out.Ok.go (K := K) (r := .rt d) g1 q)
    | false =>
      rw [if_neg Bool.false_ne_true]
      exact h2 rfl D σ B1 H1 g1.sub (en.ex g1.eb) (Out.Ok.go (K := K) (r := .rt d) g1 q)
end
end FC
/-! Data logic: the operations. -/
namespace FC
open PySem PySem.Spec PyProof.Rows L2
open Evl (Ex)
section
variable {X : Cx}
theorem pe_dead {e : Expr} : PE X e (fun _ _ _ => False) := ⟨fun _ _ _ _ _ _ h => h.elim⟩
theorem pt_dead {e : Expr} : PT X e (fun _ _ _ => False) := ⟨fun _ _ _ _ _ _ h => h.elim⟩
theorem pe_either {e : Expr} {t u : TE} (h : PE X e t) (h2 : PE X e u) : PE X e (fun σ H Q => t σ H Q ∨ u σ H Q) := ⟨fun pins s σ H Q I q => by
  rcases q with q | q
  · exact h.run pins s σ H Q I q
  · exact h2.run pins s σ H Q I q⟩
theorem ps_either {e : Stmt} {t u : TS} (h : PS X e t) (h2 : PS X e u) : PS X e (fun D σ H => t D σ H ∨ u D σ H) := ⟨fun pins s σ H D I q => by
  rcases q with q | q
  · exact h.run pins s σ H D I q
  · exact h2.run pins s σ H D I q⟩
end
/-- a def of the module by its name, its promise on data -/
structure Cl (P : Program) (w : World) (K : PySem.W.Frag) (mg : Str → Option Value) (base : Heap) (k : Nat) (x : Str) (sp : Sp) : Prop where
  ex : ∃ (f : Addr) (fd : FuncData) (ps : List Str), FnOk P w K mg base CX0 k f fd ps sp ∧ mg x = some (.ref f) ∧ PySem.W.keepIn K (.ref f) = true ∧ Binds K fd ps []
section
variable {X : Cx} {k j : Nat} {x : Str} {sp : Sp} {p pos : Pos} {e : Expr} {es : List Expr} {t : TA}
theorem pe_cl (c : Cl X.prog X.w X.K X.mg X.base k x sp) (hr : Room j X.A) (hk : k ≤ j) (hg : Gl X x) (ha : PA X (e :: es) t)
    (hdb : (x == ("__debug__" : Str)) = false := by decide) (he : starEach (e :: es) X.env = (false, eval e X.env) :: starEach es X.env := by rfl) (hpl : (backTo pos (starEach es X.env)).any (·.1) = false := by rfl) :
    PE X (.Call (.Name x p) (e :: es) [] pos) (tCall sp [] E0 t) := by
  obtain ⟨f, fd, ps, F, hm, kp, b⟩ := c.ex
  exact pe_call F (hr.mono hk) hg hm kp b .nil pass0 ha hdb he hpl
end
section
variable {K : PySem.W.Frag} {G : List (Option PyData)} {ta tb te tc : TE} {t u : TT} {d e f : PyData} {b c : Bool}
/-! ### == , is None, <= -/
theorem rd_eq (hd : SeqAt.shaped d = true) (he : SeqAt.shaped e = true) (pd : plain d = true) (pe : plain e = true) : RD K (rEqD K) d e (.bool (PyData.eqv d e)) := fun B H v w x r1 r2 Q q =>
  ⟨d, e, dp_ex x _ _ (r1.dp pd), dp_ex x _ _ (r2.dp pe), hd, he, q _ B H (.refl x) (.d (.bl _))⟩
theorem rd_ne (hd : SeqAt.shaped d = true) (he : SeqAt.shaped e = true) (pd : plain d = true) (pe : plain e = true) : RD K (rNeD K) d e (.bool (!PyData.eqv d e)) := fun B H v w x r1 r2 Q q =>
  ⟨d, e, dp_ex x _ _ (r1.dp pd), dp_ex x _ _ (r2.dp pe), hd, he, q _ B H (.refl x) (.d (.bl _))⟩
def isNon : PyData → Bool
  | .none => true
  | _ => false
theorem rt_isnon {B : Hp} {v : V} (h : Rt K B v d) : decide (v = V.non) = isNon d := by
  cases h with
  | d h => cases h <;> simp [isNon]
  | dict e1 h nd => simp [isNon, dictOf]
  | dictU e1 h nd => simp [isNon, dictU]
  | dictL e1 h nd => simp [isNon, dictL]
  | lstX e1 h => simp [isNon, listX]
theorem de_isN (h : DE K ta G d) : DE K (tIsN ta) G (.bool (isNon d)) := fun σ B H x en Q q => h σ B H x en _ fun v B' H' g r => by
  rw [rt_isnon r]
  exact q _ B' H' g (.d (.bl _))
theorem de_notN (h : DE K ta G d) : DE K (tNotN ta) G (.bool (!isNon d)) := fun σ B H x en Q q => h σ B H x en _ fun v B' H' g r => by
  rw [rt_isnon r]
  exact q _ B' H' g (.d (.bl _))
theorem rd_le {i j : Int} : RD K (rI0 fun i j => .bl (decide (i ≤ j))) (.int i) (.int j) (.bool (decide (i ≤ j))) := fun B H v w x r1 r2 Q q => ⟨i, j, rt_int r1, rt_int r2, q _ B H (.refl x) (.d (.bl _))⟩
theorem rd_ge {i j : Int} : RD K (rI0 fun i j => .bl (decide (j ≤ i))) (.int i) (.int j) (.bool (decide (j ≤ i))) := fun B H v w x r1 r2 Q q => ⟨i, j, rt_int r1, rt_int r2, q _ B H (.refl x) (.d (.bl _))⟩
theorem rd_gt {i j : Int} : RD K (rI0 fun i j => .bl (decide (j < i))) (.int i) (.int j) (.bool (decide (j < i))) := fun B H v w x r1 r2 Q q => ⟨i, j, rt_int r1, rt_int r2, q _ B H (.refl x) (.d (.bl _))⟩
theorem rd_lt {i j : Int} : RD K (rI0 fun i j => .bl (decide (i < j))) (.int i) (.int j) (.bool (decide (i < j))) := fun B H v w x r1 r2 Q q => ⟨i, j, rt_int r1, rt_int r2, q _ B H (.refl x) (.d (.bl _))⟩
theorem rd_add {i j : Int} : RD K (rI0 fun i j => .int (i + j)) (.int i) (.int j) (.int (i + j)) := fun B H v w x r1 r2 Q q => ⟨i, j, rt_int r1, rt_int r2, q _ B H (.refl x) (.d (.int _))⟩
theorem rd_sub {i j : Int} : RD K (rI0 fun i j => .int (i - j)) (.int i) (.int j) (.int (i - j)) := fun B H v w x r1 r2 Q q => ⟨i, j, rt_int r1, rt_int r2, q _ B H (.refl x) (.d (.int _))⟩
def rLeS : R2 := fun x y H Q => ∃ i j, x = .str i ∧ y = .str j ∧ Q (.bl (!decide (j.cps.toList < i.cps.toList))) H
theorem op_leS {X : Cx} : OpR X (compareOp .LtE) rLeS := op_le_str
theorem rd_leS {i j : Str} : RD K rLeS (.str i) (.str j) (.bool (!decide (j.cps.toList < i.cps.toList))) := fun B H v w x r1 r2 Q q => ⟨i, j, rt_str r1, rt_str r2, q _ B H (.refl x) (.d (.bl _))⟩
/-! ### items -/
theorem rd_ixT {ds : List PyData} {i : Int} {j : Nat} (hi : i = (j : Int)) (h : ds[j]? = some d) : RD K (rIxT K) (.tuple ds) (.int i) d := fun B H v w x r1 r2 Q q => by
  have r1 := r1.dp rfl
  cases r1 with
  | tup hs ha =>
    obtain ⟨y, h1, h2⟩ := dps_get ha h
    exact ⟨_, _, i, y, rfl, rt_int r2, ex_t x hs, by rw [hi]; exact atI_nat h1, q y B H (.refl x) (.d h2)⟩
theorem rd_ixL {ds : List PyData} {i : Int} {j : Nat} (hi : i = (j : Int)) (h : ds[j]? = some d) : RD K (rIxL K) (.list ds) (.int i) d := fun B H v w x r1 r2 Q q => by
  have r1 := r1.dp rfl
  cases r1 with
  | lst hs ha =>
    obtain ⟨y, h1, h2⟩ := dps_get ha h
    exact ⟨_, _, i, y, rfl, rt_int r2, ex_l x hs, by rw [hi]; exact atI_nat h1, q y B H (.refl x) (.d h2)⟩
/-! ### isinstance, len, all, any -/
def tyN : PyData → String
  | .none => "NoneType" | .bool _ => "bool" | .int _ => "int" | .str _ => "str" | .list _ => "list" | .tuple _ => "tuple" | .dict ((.bool true, _) :: _) => "list" | .dict _ => "dict"
theorem tyN_dictOf (kvs : List (Str × PyData)) : tyN (dictOf kvs) = "dict" := by
  cases kvs <;> rfl
theorem rt_ty {B H : Hp} {v : V} (x : Ex B H) (h : Rt K B v d) : TyX K H v (.type (tyN d)) := by
  cases h with
  | d h =>
    cases h with
    | non => exact .base .non
    | bl b => exact .base (.bl b)
    | int i => exact .base (.int i)
    | str s => exact .base (.str s)
    | lst hs _ =>
      rcases ex_l x hs with (h | ⟨o, h⟩) | ⟨o, its, n, h, hc, _⟩
      · exact .base (.lst h)
      · exact .base (.frz h)
      · exact .kList h hc
    | tup hs _ =>
      rcases ex_t x hs with (h | ⟨o, h⟩) | ⟨o, its, n, h, hc, _⟩
      · exact .base (.tup h)
      · exact .fTuple h
      · exact .kTuple h hc
  | dict e1 h nd =>
    rw [tyN_dictOf]
    rcases ex_rd x e1 with h | ⟨o, h⟩
    · exact .base (.dK h)
    · exact .fDict h
  | dictU e1 h nd => exact .base (.dK (x _ _ e1))
  | dictL e1 h nd => exact .fDict (x _ _ e1)
  | lstX e1 h => exact .base (.lst (x _ _ e1))
theorem de_isi {n : String} (h : DE K ta G d) (hk : kitB (tyN d) n = some b) : DE K (tCB (rIsi K) (tCons ta (tCons (tC (.ty n)) tNil))) G (.bool b) := fun σ B H x en Q q =>
  h σ B H x en _ fun v B' H' g r => ⟨v, .ty n, .type (tyN d), .type n, b, rfl, .ty n, rt_ty g.sub r, kit_ty hk, q _ B' H' g (.d (.bl b))⟩
theorem de_ty {n m : String} (h : DE K ta G d) (ht : tyN d = m) (hk : kitB m n = some b) : DE K (tCB (rIsi K) (tCons ta (tCons (tC (.ty n)) tNil))) G (.bool b) := de_isi h (by rw [ht]; exact hk)
def rLen (K : PySem.W.Frag) : List V → Hp → VK → Prop := fun xs H Q => ∃ x n, xs = [x] ∧ LenV K x H n ∧ Q (.int n) H
theorem call_lenR {X : Cx} : CallR X (.builtin "len") (rLen X.K) := call_len
theorem cd_lenL {ds : List PyData} : CD K (rLen K) [.list ds] (.int ds.length) := fun B H vs x r Q q => by
  cases r with
  | cons r1 r2 =>
    cases r2
    have r1 := r1.dp rfl
    cases r1 with
    | lst hs ha => exact ⟨_, _, rfl, .inl ⟨_, ex_l x hs, (dps_len ha).symm⟩, q _ B H (.refl x) (.d (.int _))⟩
theorem cd_lenT {ds : List PyData} : CD K (rLen K) [.tuple ds] (.int ds.length) := fun B H vs x r Q q => by
  cases r with
  | cons r1 r2 =>
    cases r2
    have r1 := r1.dp rfl
    cases r1 with
    | tup hs ha => exact ⟨_, _, rfl, .inr ⟨_, ex_t x hs, (dps_len ha).symm⟩, q _ B H (.refl x) (.d (.int _))⟩
theorem cd_lenS {s : Str} (hl : s.length ≤ sizeLine) : CD K (rLen K) [.str s] (.int s.length) := fun B H vs x r Q q => by
  cases r with
  | cons r1 r2 =>
    cases r2
    have r1 := r1.dp rfl
    cases r1
    exact ⟨_, _, rfl, ⟨hl, rfl⟩, q _ B H (.refl x) (.d (.int _))⟩
theorem bools_dp {B : Hp} : ∀ {bs : List Bool} {vs : List V}, DpAll K B vs (bs.map PyData.bool) → vs = bs.map V.bl
  | [], _, h => by cases h; rfl
  | _ :: bs, _, h => by
    cases h with
    | cons h1 h2 =>
      cases h1
      rw [bools_dp h2]
      rfl
theorem cd_all {bs : List Bool} : CD K (rAll K) [.list (bs.map .bool)] (.bool (bs.all id)) := fun B H vs x r Q q => by
  cases r with
  | cons r1 r2 =>
    cases r2
    have r1 := r1.dp rfl
    cases r1 with
    | lst hs ha => exact ⟨_, bs, rfl, by rw [← bools_dp ha]; exact ex_l x hs, q _ B H (.refl x) (.d (.bl _))⟩
theorem cd_any {bs : List Bool} : CD K (rAny K) [.list (bs.map .bool)] (.bool (bs.any id)) := fun B H vs x r Q q => by
  cases r with
  | cons r1 r2 =>
    cases r2
    have r1 := r1.dp rfl
    cases r1 with
    | lst hs ha => exact ⟨_, bs, rfl, by rw [← bools_dp ha]; exact ex_l x hs, q _ B H (.refl x) (.d (.bl _))⟩
end
end FC
/-! Data logic: what is walked; comprehensions, loops; dicts. -/
namespace FC
open PySem PySem.Spec PyProof.Rows L2
open Evl (Ex)
/-- a target's effect on the slots -/
def TgOk (K : PySem.W.Frag) (T : List Nat) (g : TG) (ff : List (Option PyData) → List (Option PyData)) (P : Hp → V → Hp → Prop) : Prop :=
  ∀ B H σ G x H', Ex B H → En K B σ G → P H x H' → ∀ Q : L2.St → Hp → Prop, (∀ σ' B' H2, Go B H B' H2 → En K B' σ' (ff G) → (∀ vs, (∀ j ∈ T, j ∈ vs) → wipe σ' vs = wipe σ vs) → Q σ' H2) → g x σ H' Q
/-- wi gives n turns; turn i sets the slots as ff i says -/
def DIat (K : PySem.W.Frag) (wi : TI) (g : TG) (T : List Nat) (n : Nat) (ff : Nat → List (Option PyData) → List (Option PyData)) (σ : L2.St) (B H : Hp) : Prop :=
  ∀ R : It → Hp → Prop, (∀ J B1 H1 Y, Go B H B1 H1 → Walk J n (fun H2 => Ex B1 H2) Y →
    (∀ i, i < n → ∀ B2 H2 σ2 G2 x H3, Ex B1 B2 → Ex B2 H2 → En K B2 σ2 G2 → Y i H2 x H3 → ∀ Q : L2.St → Hp → Prop, (∀ σ' B' H4, Go B2 H2 B' H4 → En K B' σ' (ff i G2) → (∀ vs, (∀ j ∈ T, j ∈ vs) → wipe σ' vs = wipe σ2 vs) → Q σ' H4) → g x σ2 H3 Q) → R J H1) → wi σ H R
def DI (K : PySem.W.Frag) (wi : TI) (g : TG) (T : List Nat) (G : List (Option PyData)) (n : Nat) (ff : Nat → List (Option PyData) → List (Option PyData)) : Prop :=
  ∀ σ B H, Ex B H → En K B σ G → DIat K wi g T n ff σ B H
theorem wipe_set : ∀ {vs : List Nat} {σ : L2.St} {j : Nat} {x : Option V}, j ∈ vs → wipe (σ.set j x) vs = wipe σ vs
  | [], _, _, _, h => by cases h
  | v :: vs, σ, j, x, h => by
    show (wipe (σ.set j x) vs).set v none = (wipe σ vs).set v none
    by_cases hj : j ∈ vs
    · rw [wipe_set hj]
    · have e : j = v := by
        rcases List.mem_cons.mp h with h | h
        · exact h
        · exact absurd h hj
      subst e
      have key : ∀ (ws : List Nat) (τ : L2.St), j ∉ ws → wipe (τ.set j x) ws = (wipe τ ws).set j x := by
        intro ws
        induction ws with
        | nil => intro τ _; rfl
        | cons w ws ih =>
          intro τ hn
          show (wipe (τ.set j x) ws).set w none = ((wipe τ ws).set w none).set j x
          rw [ih τ (fun z => hn (List.mem_cons_of_mem _ z))]
          exact List.set_comm _ _ (fun z => hn (by rw [z]; exact List.mem_cons_self ..))
      rw [key vs σ hj, List.set_set]
theorem wipe_wipe {σ : L2.St} : ∀ {vs ws : List Nat}, (∀ j ∈ vs, j ∈ ws) → wipe (wipe σ vs) ws = wipe σ ws
  | [], _, _ => rfl
  | v :: vs, ws, h => by
    show wipe ((wipe σ vs).set v none) ws = wipe σ ws
    rw [wipe_set (h v (List.mem_cons_self ..)), wipe_wipe fun j hj => h j (List.mem_cons_of_mem _ hj)]
section
variable {K : PySem.W.Frag} {G : List (Option PyData)} {te td : TE} {tt : TT} {n : Nat} {g : TG} {T : List Nat} {wi : TI} {ff : Nat → List (Option PyData) → List (Option PyData)}
/-- over a list of data, a name as target -/
theorem di_list {ds : List PyData} {j : Nat} (h : DE K te G (.list ds)) : DI K (iList K te) (gName j) [j] G ds.length (fun i G2 => G2.set j ds[i]?) := fun σ B H x en R q =>
  h σ B H x en _ fun v B1 H1 g1 r1 => by
    have r1 := r1.dp rfl
    cases r1 with
    | @lst a xs _ hs ha =>
      refine ⟨a, rfl, ⟨xs, ex_l g1.sub hs⟩, ?_⟩
      have hl := dps_len ha
      refine q (Itl K a) B1 H1 (YAt xs) g1 ?_ fun i hi B2 H2 σ2 G2 y H3 e1 e2 en2 hy Q k => ?_
      · rw [← hl]
        exact walk_list.mono (fun H2 e => ex_l e hs) fun _ _ _ _ _ _ y => y
      · obtain ⟨rfl, hy⟩ := hy
        have hd : ds[i]? = some ds[i] := List.getElem?_eq_getElem hi
        obtain ⟨y', h1, h2⟩ := dps_get ha hd
        have : y = y' := Option.some.inj (hy.symm.trans h1)
        subst this
        refine k _ B2 H3 (.refl e2) ?_ fun vs hv => wipe_set (hv j (List.mem_singleton.mpr rfl))
        show En K B2 _ (G2.set j ds[i]?)
        rw [hd]
        exact en2.set j (.d (dp_ex e1 _ _ h2))
theorem di_tup {ds : List PyData} {j : Nat} (h : DE K te G (.tuple ds)) : DI K (iTup K te) (gName j) [j] G ds.length (fun i G2 => G2.set j ds[i]?) := fun σ B H x en R q =>
  h σ B H x en _ fun v B1 H1 g1 r1 => by
    have r1 := r1.dp rfl
    cases r1 with
    | @tup a xs _ hs ha =>
      refine ⟨a, rfl, ⟨xs, ex_t g1.sub hs⟩, ?_⟩
      have hl := dps_len ha
      refine q (Itt K a) B1 H1 (YAt xs) g1 ?_ fun i hi B2 H2 σ2 G2 y H3 e1 e2 en2 hy Q k => ?_
      · rw [← hl]
        exact walk_tup.mono (fun H2 e => ex_t e hs) fun _ _ _ _ _ _ y => y
      · obtain ⟨rfl, hy⟩ := hy
        have hd : ds[i]? = some ds[i] := List.getElem?_eq_getElem hi
        obtain ⟨y', h1, h2⟩ := dps_get ha hd
        have : y = y' := Option.some.inj (hy.symm.trans h1)
        subst this
        refine k _ B2 H3 (.refl e2) ?_ fun vs hv => wipe_set (hv j (List.mem_singleton.mpr rfl))
        show En K B2 _ (G2.set j ds[i]?)
        rw [hd]
        exact en2.set j (.d (dp_ex e1 _ _ h2))
def sgnsOf (s : Str) : List PyData := s.cps.toList.map fun c => .str ⟨#[c]⟩
theorem di_str {s : Str} {j : Nat} (h : DE K te G (.str s)) : DI K (iStr te) (gName j) [j] G s.cps.size (fun i G2 => G2.set j (sgnsOf s)[i]?) := fun σ B H x en R q =>
  h σ B H x en _ fun v B1 H1 g1 r1 => by
    have e := rt_str r1
    subst e
    refine ⟨s, rfl, ?_⟩
    refine q (Its s) B1 H1 (fun i H v H' => H' = H ∧ ∃ c, s.cps[i]? = some c ∧ v = .str ⟨#[c]⟩) g1 ?_ fun i hi B2 H2 σ2 G2 y H3 e1 e2 en2 hy Q k => ?_
    · exact walk_str.mono (fun _ _ => trivial) fun _ _ _ _ _ _ y => y
    · obtain ⟨rfl, c, hc, rfl⟩ := hy
      have hd : (sgnsOf s)[i]? = some (.str ⟨#[c]⟩) := by
        unfold sgnsOf
        rw [List.getElem?_map, Array.getElem?_toList, hc]
        rfl
      refine k _ B2 H3 (.refl e2) ?_ fun vs hv => wipe_set (hv j (List.mem_singleton.mpr rfl))
      show En K _ _ (G2.set j (sgnsOf s)[i]?)
      rw [hd]
      exact en2.set j (.d (.str _))
/-- enumerate(list), target (name, (name, name)) with the items pairs: slots j, k, l -/
theorem di_enumP {ta : TA} {ps : List (PyData × PyData)} {j k l : Nat} (h : DA K ta G [.list (ps.map fun p => .tuple [p.1, p.2])]) :
    DI K (iEnum K ta) (gTup K 2 (gCons (gName j) (gCons (gTup K 2 (gCons (gName k) (gCons (gName l) gNil))) gNil))) [j, k, l] G ps.length
      (fun i G2 => ((G2.set j (some (.int i))).set k (ps[i]?.map (·.1))).set l (ps[i]?.map (·.2))) := fun σ B H x en R q =>
  h σ B H x en _ fun vs B1 H1 g1 r1 => by
    cases r1 with
    | cons r1 r2 =>
      cases r2
      have r1 := r1.dp rfl
      cases r1 with
      | @lst a xs _ hs ha =>
        refine ⟨a, xs, rfl, ex_l g1.sub hs, ?_⟩
        have hl := dps_len ha
        rw [List.length_map] at hl
        refine q (Ite K a) B1 H1 (YPair (fun i => some (.int (i : Nat))) (fun i => xs[i]?)) g1 ?_ fun i hi B2 H2 σ2 G2 y H3 e1 e2 en2 hy Q kk => ?_
        · rw [← hl]
          exact walk_enum.mono (fun H2 e => ex_l e hs) fun _ _ _ _ _ _ y => y
        · obtain ⟨t, y1, y2, rfl, ht, rfl, h1, h2⟩ := hy
          have hd : (ps.map fun p => PyData.tuple [p.1, p.2])[i]? = some (.tuple [ps[i].1, ps[i].2]) := by
            rw [List.getElem?_map, List.getElem?_eq_getElem hi]
            rfl
          obtain ⟨z, h3, h4⟩ := dps_get ha hd
          have ez : y2 = z := Option.some.inj (h2.symm.trans h3)
          have e1' : y1 = .int (i : Nat) := (Option.some.inj h1).symm
          subst ez e1'
          have h4 := dp_ex e1 _ _ h4
          cases h4 with
          | @tup b zs _ hz hza =>
            cases hza with
            | cons q1 hza =>
              cases hza with
              | cons q2 hza =>
                cases hza
                have gn : Go B2 H2 B2 (upd H2 t (.tup [.int (i : Nat), .ref b])) := Go.own e2 ht
                refine ⟨t, _, rfl, .inl (.inl upd_same), rfl, _, _, rfl, _, _, rfl, ⟨b, _, rfl, ex_t gn.sub hz, rfl, _, _, rfl, _, _, rfl, rfl, ?_⟩⟩
                refine ⟨rfl, ?_⟩
                refine kk _ B2 _ gn ?_ fun vs hv => ?_
                · show En K _ _ (((G2.set j (some (.int i))).set k (ps[i]?.map (·.1))).set l (ps[i]?.map (·.2)))
                  rw [List.getElem?_eq_getElem hi]
                  exact ((en2.set j (.d (.int _))).set k (.d q1)).set l (.d q2)
                · rw [wipe_set (hv l (by simp)), wipe_set (hv k (by simp)), wipe_set (hv j (by simp))]
theorem di_range {ta : TA} {m : Int} {j : Nat} (h : DA K ta G [.int m]) (h0 : 0 ≤ m) (h1 : m ≤ 100000) : DI K (iRng1 ta) (gName j) [j] G m.toNat (fun i G2 => G2.set j (some (.int (i : Nat)))) := fun σ B H x en R q =>
  h σ B H x en _ fun vs B1 H1 g1 r1 => by
    cases r1 with
    | cons r1 r2 =>
      cases r2
      have e := rt_int r1
      subst e
      refine ⟨m, rfl, by omega, by omega, ?_⟩
      refine q (Itr 0 m.toNat) B1 H1 (YFn fun i => .int (0 + (i : Nat))) g1 ?_ fun i hi B2 H2 σ2 G2 y H3 e1 e2 en2 hy Q k => ?_
      · exact walk_range.mono (fun _ _ => trivial) fun _ _ _ _ _ _ y => y
      · obtain ⟨rfl, rfl⟩ := hy
        show gName j (V.int (0 + (i : Int))) σ2 H3 Q
        rw [Int.zero_add]
        exact k _ B2 H3 (.refl e2) (en2.set j (.d (.int _))) fun vs hv => wipe_set (hv j (List.mem_singleton.mpr rfl))
/-- what a comprehension has made -/
def madeG (p : Nat → Bool) (d : Nat → PyData) (i : Nat) : List PyData := ((List.range i).filter p).map d
theorem madeG_yes {p : Nat → Bool} {d : Nat → PyData} {i : Nat} (h : p i = true) : madeG p d (i + 1) = madeG p d i ++ [d i] := by
  unfold madeG
  rw [List.range_succ, List.filter_append, List.map_append, List.filter_cons, if_pos h]
  rfl
theorem madeG_no {p : Nat → Bool} {d : Nat → PyData} {i : Nat} (h : p i = false) : madeG p d (i + 1) = madeG p d i := by
  unfold madeG
  rw [List.range_succ, List.filter_append, List.map_append, List.filter_cons, if_neg (by rw [h]; exact Bool.false_ne_true)]
  exact List.append_nil _
theorem madeG_len (p : Nat → Bool) (d : Nat → PyData) (i : Nat) : (madeG p d i).length ≤ i := by
  unfold madeG
  rw [List.length_map]
  have h := List.length_filter_le p (List.range i)
  rw [List.length_range] at h
  exact h
structure LcI (K : PySem.W.Frag) (B1 H1 : Hp) (D : Addr) (ds : List PyData) (B' H' : Hp) : Prop where
  go : Go B1 H1 B' H'
  nD : B' D = none
  acc : ∃ vs, H' D = some (.lst vs) ∧ DpAll K B' vs ds
theorem LcI.step {B1 H1 B' H' B2 H2 : Hp} {D : Addr} {ds : List PyData} (p : LcI K B1 H1 D ds B' H') (g : Go B' H' B2 H2) : LcI K B1 H1 D ds B2 H2 := by
  obtain ⟨vs, h1, h2⟩ := p.acc
  exact ⟨p.go.trans g, g.fr D _ h1 p.nD, vs, g.eh D _ h1, dps_ex g.eb _ _ h2⟩
theorem LcI.app {B1 H1 B' H' : Hp} {D : Addr} {ds : List PyData} {y : V} {d : PyData} (p : LcI K B1 H1 D ds B' H') (n1 : H1 D = none) (hl : ds.length ≤ 2000) (r : Dp K B' y d) :
    ∃ acc, H' D = some (.lst acc) ∧ acc.length < sizeLine ∧ LcI K B1 H1 D (ds ++ [d]) B' (upd H' D (.lst (acc ++ [y]))) := by
  obtain ⟨vs, h1, h2⟩ := p.acc
  have hlen := dps_len h2
  refine ⟨vs, h1, Nat.lt_of_le_of_lt (by rw [hlen]; exact hl) (by decide), ⟨⟨p.go.eb, Evl.Ex.mut p.go.eh n1, Evl.Ex.mut p.go.sub p.nD, p.go.fr⟩, p.nD, _, upd_same, dps_snoc r h2⟩⟩
theorem de_lcX {vs : List Nat} (p : Nat → Bool) (d : Nat → PyData) (hi : DI K wi g T G n ff) (hT : ∀ j ∈ T, j ∈ vs) (ht : ∀ i, i < n → DT K tt (ff i (wipeG G vs)) (p i)) (he : ∀ i, i < n → p i = true → DE K te (ff i (wipeG G vs)) (d i))
    (hp : ∀ i, i < n → p i = true → plain (d i) = true) (hn : n ≤ 2000) : DE K (tLc wi g tt te vs) G (listX (madeG p d n)) := fun σ B H x en Q q =>
  hi σ B H x en _ fun J B1 H1 Y g1 W turn => fun D hD => by
    refine lc_it W (fun i H' => ∃ B', LcI K B1 H1 D (madeG p d i) B' H') ⟨B1, Go.own g1.sub hD, sub_none g1.sub hD, [], upd_same, .nil⟩ (fun i H' _ ⟨B', p'⟩ => p'.go.eb.trans p'.go.sub) (fun i y H2 H3 hil ⟨B2, p2⟩ hy => ?_) (fun H2 ⟨B2, p2⟩ => ?_)
    · refine turn i hil B2 H2 (wipe σ vs) (wipeG G vs) y H3 p2.go.eb p2.go.sub ((en.ex (g1.eb.trans p2.go.eb)).wipe vs) hy _ fun σ' B3 H4 g3 en3 hw => ⟨?_, ?_⟩
      · exact (hw vs hT).trans (wipe_wipe fun _ h => h)
      · have p3 := p2.step g3
        refine ht i hil σ' B3 H4 g3.sub en3 _ fun B4 H5 g4 => ?_
        have p4 := p3.step g4
        cases hpi : p i with
        | true =>
          rw [if_pos rfl]
          refine he i hil hpi σ' B4 H5 g4.sub (en3.ex g4.eb) _ fun z B5 H6 g5 r5 => ?_
          have p5 := p4.step g5
          obtain ⟨acc, h1, h2, h3⟩ := p5.app hD (Nat.le_trans (madeG_len p d i) (by omega)) (r5.dp (hp i hil hpi))
          refine ⟨acc, h1, h2, B5, ?_⟩
          rw [madeG_yes hpi]
          exact h3
        | false =>
          rw [if_neg Bool.false_ne_true]
          refine ⟨B4, ?_⟩
          rw [madeG_no hpi]
          exact p4
    · obtain ⟨vs', h1, h2⟩ := p2.acc
      have gg : Go B H (upd B2 D (.lst vs')) H2 := by
        have g2 := g1.trans p2.go
        refine ⟨g2.eb.trans (Evl.Ex.new p2.nD), g2.eh, fun a o e => ?_, fun a o e nb => ?_⟩
        · by_cases ha : a = D
          · subst ha
            rw [upd_same] at e
            rw [← e]
            exact h1
          · rw [upd_ne ha] at e
            exact g2.sub a o e
        · have ha : a ≠ D := by
            intro z
            subst z
            have := Evl.fresh_back g1.eh hD
            rw [this] at e
            cases e
          rw [upd_ne ha]
          exact g2.fr a o e nb
      exact q _ _ _ gg (.lstX upd_same (dps_ex (Evl.Ex.new p2.nD) _ _ h2))
theorem de_lc {vs : List Nat} (p : Nat → Bool) (d : Nat → PyData) (hi : DI K wi g T G n ff) (hT : ∀ j ∈ T, j ∈ vs) (ht : ∀ i, i < n → DT K tt (ff i (wipeG G vs)) (p i)) (he : ∀ i, i < n → p i = true → DE K te (ff i (wipeG G vs)) (d i))
    (hp : ∀ i, i < n → p i = true → plain (d i) = true) (hn : n ≤ 2000) : DE K (tLc wi g tt te vs) G (.list (madeG p d n)) := de_ofX (de_lcX p d hi hT ht he hp hn)
theorem dt_yes : DT K tYes G true := fun σ B H x en Q q => q B H (.refl x)
/-- a for: every turn goes on -/
theorem ds_for {tb : TS} (Gs : Nat → List (Option PyData)) (hi : DI K wi g T G n ff) (h0 : Gs 0 = G) (hs : ∀ i, i < n → DS K tb (ff i (Gs i)) (.nx (Gs (i + 1)))) : DS K (tFor wi g tb) G (.nx (Gs n)) := fun D σ B H x en q =>
  hi σ B H x en _ fun J B1 H1 Y g1 W turn => by
    refine for_it W (fun i σ' H' => ∃ B', Go B1 H1 B' H' ∧ En K B' σ' (Gs i)) ⟨B1, .refl g1.sub, by rw [h0]; exact en.ex g1.eb⟩ (fun i σ' H' _ ⟨B', p'⟩ => p'.1.eb.trans p'.1.sub) (fun i y σ2 H2 H3 hil ⟨B2, p2, en2⟩ hy => ?_) (fun σ2 H2 ⟨B2, p2, en2⟩ => ?_)
    · refine turn i hil B2 H2 σ2 (Gs i) y H3 p2.eb p2.sub en2 hy _ fun σ' B3 H4 g3 en3 hw => ?_
      exact hs i hil _ σ' B3 H4 g3.sub en3 fun σ5 B5 H5 g5 en5 => ⟨B5, p2.trans (g3.trans g5), en5⟩
    · exact q σ2 B2 H2 (g1.trans p2) en2
/-- a for that returns at turn m -/
theorem ds_forR {tb : TS} {d : PyData} (m : Nat) (Gs : Nat → List (Option PyData)) (hi : DI K wi g T G n ff) (hm : m < n) (h0 : Gs 0 = G) (hs : ∀ i, i < m → DS K tb (ff i (Gs i)) (.nx (Gs (i + 1)))) (hr : DS K tb (ff m (Gs m)) (.rt d)) : DS K (tFor wi g tb) G (.rt d) := fun D σ B H x en q =>
  hi σ B H x en _ fun J B1 H1 Y g1 W turn => by
    refine for_it W (fun i σ' H' => i ≤ m ∧ ∃ B', Go B1 H1 B' H' ∧ En K B' σ' (Gs i)) ⟨Nat.zero_le _, B1, .refl g1.sub, by rw [h0]; exact en.ex g1.eb⟩ (fun i σ' H' _ ⟨_, B', p'⟩ => p'.1.eb.trans p'.1.sub) (fun i y σ2 H2 H3 hil ⟨him, B2, p2, en2⟩ hy => ?_) (fun σ2 H2 ⟨him, B2, p2, en2⟩ => absurd him (by omega))
    refine turn i hil B2 H2 σ2 (Gs i) y H3 p2.eb p2.sub en2 hy _ fun σ' B3 H4 g3 en3 hw => ?_
    by_cases e : i = m
    · subst e
      exact hr _ σ' B3 H4 g3.sub en3 fun v B5 H5 g5 r5 => q v B5 H5 (g1.trans (p2.trans (g3.trans g5))) r5
    · exact hs i (by omega) _ σ' B3 H4 g3.sub en3 fun σ5 B5 H5 g5 en5 => ⟨by omega, B5, p2.trans (g3.trans g5), en5⟩
end
/-! ### dicts -/
section
variable {K : PySem.W.Frag} {G : List (Option PyData)} {te td : TE} {kvs : List (Str × PyData)}
def look (kvs : List (Str × PyData)) (k : Str) : Option PyData := (kvs.find? fun q => decide (q.1 = k)).map (·.2)
theorem kr_look {B : Hp} {k : Str} : ∀ {ks : List (Key × V)} {kvs : List (Str × PyData)}, KR K B ks kvs → (valV ks (Sum.inr k : Key) = none ∧ look kvs k = none) ∨ ∃ v d, valV ks (Sum.inr k : Key) = some v ∧ look kvs k = some d ∧ Dp K B v d
  | _, _, .nil => .inl ⟨rfl, rfl⟩
  | (a, v) :: ks, (b, d) :: kvs, .cons r t => by
    obtain ⟨r1, r2⟩ := r
    simp only at r1 r2
    subst r1
    unfold valV look
    simp only [List.find?_cons]
    by_cases e : b = k
    · subst e
      refine .inr ⟨v, d, ?_, ?_, r2⟩ <;> simp
    · have e1 : decide ((Sum.inr b : Key) = Sum.inr k) = false := by simp [e]
      have e2 : decide (b = k) = false := by simp [e]
      rw [e1, e2]
      exact kr_look t
theorem de_dget {k : Str} {d : PyData} (h : DE K td G (dictOf kvs)) (hk : DE K te G (.str k)) (hl : look kvs k = some d) : DE K (tDGet td te) G d := fun σ B H x en Q q =>
  h σ B H x en _ fun v B1 H1 g1 r1 => hk σ B1 H1 g1.sub (en.ex g1.eb) _ fun y B2 H2 g2 r2 => by
    obtain ⟨a, ks, rfl, e1, kr, nd⟩ := rt_dict (r1.ex g2.eb)
    have := rt_str r2
    subst this
    rcases kr_look (k := k) kr with ⟨_, e⟩ | ⟨v, d', h1, h2, h3⟩
    · rw [e] at hl; cases hl
    · have : d = d' := Option.some.inj (hl.symm.trans h2)
      subst this
      exact ⟨a, v, rfl, .inl ⟨ks, Sum.inr k, ex_rd g2.sub e1, rfl, h1.symm⟩, q v B2 H2 (g1.trans g2) (.d h3)⟩
theorem de_din {k : Str} (h : DE K td G (dictOf kvs)) (hk : DE K te G (.str k)) : DE K (tDIn te td) G (.bool (look kvs k).isSome) := fun σ B H x en Q q =>
  hk σ B H x en _ fun y B1 H1 g1 r1 => h σ B1 H1 g1.sub (en.ex g1.eb) _ fun v B2 H2 g2 r2 => by
    obtain ⟨a, ks, rfl, e1, kr, nd⟩ := rt_dict r2
    have := rt_str r1
    subst this
    refine ⟨a, valV ks (Sum.inr k : Key), rfl, .inl ⟨ks, Sum.inr k, ex_rd g2.sub e1, rfl, rfl⟩, ?_⟩
    have e : (valV ks (Sum.inr k : Key)).isSome = (look kvs k).isSome := by
      rcases kr_look (k := k) kr with ⟨e1, e2⟩ | ⟨v, d', h1, h2, h3⟩
      · rw [e1, e2]; rfl
      · rw [h1, h2]; rfl
    rw [e]
    exact q _ B2 H2 (g1.trans g2) (.d (.bl _))
end
/-! ### a dict that is locked -/
section
variable {K : PySem.W.Frag} {B H : Hp} {a : Addr} {ks : List (Key × V)} {od : Obj}
theorem rd_lock {b : Addr} {u : HO} (e : B a = some (.dK ks)) (h : Rd B b u) : Rd (upd B a (.frz od (.dK ks))) b u := by
  by_cases hb : b = a
  · subst hb
    rcases h with h | ⟨o, h⟩
    · rw [e] at h
      cases h
      exact .inr ⟨od, upd_same⟩
    · rw [e] at h
      cases h
  · rcases h with h | ⟨o, h⟩
    · exact .inl (by rw [upd_ne hb]; exact h)
    · exact .inr ⟨o, by rw [upd_ne hb]; exact h⟩
theorem rd_unlock {b : Addr} {u : HO} (e : B a = some (.frz od (.dK ks))) (hu : ∀ o w, u ≠ .frz o w) (h : Rd B b u) : Rd (upd B a (.dK ks)) b u := by
  by_cases hb : b = a
  · subst hb
    rcases h with h | ⟨o, h⟩
    · rw [e] at h
      cases h
      exact (hu _ _ rfl).elim
    · rw [e] at h
      cases h
      exact .inl upd_same
  · rcases h with h | ⟨o, h⟩
    · exact .inl (by rw [upd_ne hb]; exact h)
    · exact .inr ⟨o, by rw [upd_ne hb]; exact h⟩
mutual
theorem dp_rd {B B' : Hp} (r : ∀ b u, (∀ o w, u ≠ .frz o w) → Rd B b u → Rd B' b u) : ∀ (d : PyData) (v : V), Dp K B v d → Dp K B' v d
  | .none, _, h => by cases h; exact .non
  | .bool b, _, h => by cases h; exact .bl b
  | .int i, _, h => by cases h; exact .int i
  | .str s, _, h => by cases h; exact .str s
  | .list ds, _, h => by
    cases h with
    | lst hs ha =>
      refine .lst ?_ (dps_rd r ds _ ha)
      rcases hs with hs | hs
      · exact .inl (r _ _ (fun _ _ z => nomatch z) hs)
      · exact .inr hs
  | .tuple ds, _, h => by
    cases h with
    | tup hs ha =>
      refine .tup ?_ (dps_rd r ds _ ha)
      rcases hs with hs | hs
      · exact .inl (r _ _ (fun _ _ z => nomatch z) hs)
      · exact .inr hs
  | .dict _, _, h => by cases h
theorem dps_rd {B B' : Hp} (r : ∀ b u, (∀ o w, u ≠ .frz o w) → Rd B b u → Rd B' b u) : ∀ (ds : List PyData) (vs : List V), DpAll K B vs ds → DpAll K B' vs ds
  | [], _, h => by cases h; exact .nil
  | d :: ds, _, h => by
    cases h with
    | cons h1 h2 => exact .cons (dp_rd r d _ h1) (dps_rd r ds _ h2)
end
theorem kr_rd {B B' : Hp} (r : ∀ b u, (∀ o w, u ≠ .frz o w) → Rd B b u → Rd B' b u) : ∀ {ks : List (Key × V)} {kvs : List (Str × PyData)}, KR K B ks kvs → KR K B' ks kvs
  | _, _, .nil => .nil
  | _, _, .cons q t => .cons ⟨q.1, dp_rd r _ _ q.2⟩ (kr_rd r t)
/-- the slots of which nothing is lost when a dict is locked -/
def keepP : Option PyData → Option PyData
  | some d => if plain d = true then some d else none
  | none => none
theorem en_rd {B B' : Hp} {σ : L2.St} {G : List (Option PyData)} (r : ∀ b u, (∀ o w, u ≠ .frz o w) → Rd B b u → Rd B' b u) (h : En K B σ G) : En K B' σ (G.map keepP) :=
  ⟨by rw [List.length_map, h.len], fun i d q => by
    rw [List.getElem?_map] at q
    cases e : G[i]? with
    | none => rw [e] at q; cases q
    | some od =>
      rw [e] at q
      cases od with
      | none => simp [keepP] at q
      | some x =>
        simp only [Option.map_some, keepP, Option.some.injEq] at q
        split at q
        · rename_i hp
          cases q
          obtain ⟨v, h1, h2⟩ := h.get i d e
          exact ⟨v, h1, .d (dp_rd r _ _ (h2.dp hp))⟩
        · cases q⟩
theorem ex_lock (x : Ex B H) (e : B a = some (.dK ks)) : Ex (upd B a (.frz od (.dK ks))) (upd H a (.frz od (.dK ks))) := fun b o h => by
  by_cases hb : b = a
  · subst hb
    rw [upd_same] at h ⊢
    exact h
  · rw [upd_ne hb] at h ⊢
    exact x b o h
theorem go_unlock {B' H' : Hp} (x : Ex B H) (e : B a = some (.dK ks)) (g : Go (upd B a (.frz od (.dK ks))) (upd H a (.frz od (.dK ks))) B' H') : Go B H (upd B' a (.dK ks)) (upd H' a (.dK ks)) := by
  refine ⟨fun b o h => ?_, fun b o h => ?_, fun b o h => ?_, fun b o h nb => ?_⟩
  · by_cases hb : b = a
    · subst hb
      rw [e] at h
      rw [upd_same]
      exact h
    · rw [upd_ne hb]
      exact g.eb b o (by rw [upd_ne hb]; exact h)
  · by_cases hb : b = a
    · subst hb
      rw [x _ _ e] at h
      rw [upd_same]
      exact h
    · rw [upd_ne hb]
      exact g.eh b o (by rw [upd_ne hb]; exact h)
  · by_cases hb : b = a
    · subst hb
      rw [upd_same] at h ⊢
      exact h
    · rw [upd_ne hb] at h ⊢
      exact g.sub b o h
  · have hb : b ≠ a := by
      intro z
      subst z
      rw [e] at nb
      cases nb
    rw [upd_ne hb]
    exact g.fr b o (by rw [upd_ne hb]; exact h) (by rw [upd_ne hb]; exact nb)
end
section
variable {K : PySem.W.Frag} {G : List (Option PyData)} {te td : TE} {kvs : List (Str × PyData)}
def keyD (kvs : List (Str × PyData)) (i : Nat) : Option PyData := kvs[i]?.map fun q => .str q.1
def valD (kvs : List (Str × PyData)) (i : Nat) : Option PyData := kvs[i]?.map fun q => q.2
theorem kr_get {B : Hp} {ks : List (Key × V)} {kvs : List (Str × PyData)} (h : KR K B ks kvs) : ∀ {i : Nat} {k : Key} {v : V}, ks[i]? = some (k, v) → ∃ s d, kvs[i]? = some (s, d) ∧ k = Sum.inr s ∧ Dp K B v d := by
  induction h with
  | nil => intro i k v e; simp at e
  | @cons p q l1 l2 r t ih =>
    intro i k v e
    cases i with
    | zero =>
      simp at e
      subst e
      exact ⟨q.1, q.2, rfl, r.1, r.2⟩
    | succ i =>
      obtain ⟨s, d, h1, h2, h3⟩ := ih (i := i) (by simpa using e)
      exact ⟨s, d, by simpa using h1, h2, h3⟩
theorem di_keys {a : Addr} {j : Nat} (h : DE K td G (dictL a kvs)) : DI K (iKeys td) (gName j) [j] G kvs.length (fun i G2 => G2.set j (keyD kvs i)) := fun σ B H x en R q =>
  h σ B H x en _ fun v B1 H1 g1 r1 => by
    obtain ⟨o, ks, rfl, e, kr, nd⟩ := rt_dictL r1
    refine ⟨a, o, rfl, .inl ⟨ks, g1.sub _ _ e, ?_⟩⟩
    have hl : ks.length = kvs.length := Paired.length kr
    refine q _ B1 H1 (fun i H x H' => H' = H ∧ ∃ k v, ks[i]? = some (k, v) ∧ x = kV k) g1 ?_ fun i hi B2 H2 σ2 G2 y H3 e1 e2 en2 hy Q k => ?_
    · rw [← hl]
      exact walk_keys.mono (fun H2 ee => ee _ _ e) fun _ _ _ _ _ _ y => y
    · obtain ⟨rfl, ky, v, hk, rfl⟩ := hy
      obtain ⟨s, d, h1, rfl, h3⟩ := kr_get kr hk
      refine k _ B2 H3 (.refl e2) ?_ fun vs hv => wipe_set (hv j (List.mem_singleton.mpr rfl))
      show En K B2 _ (G2.set j (keyD kvs i))
      unfold keyD
      rw [h1]
      exact en2.set j (.d (.str s))
theorem di_vals {a : Addr} {j : Nat} (h : DE K td G (dictL a kvs)) : DI K (iVals td) (gName j) [j] G kvs.length (fun i G2 => G2.set j (valD kvs i)) := fun σ B H x en R q =>
  h σ B H x en _ fun v B1 H1 g1 r1 => by
    obtain ⟨o, ks, rfl, e, kr, nd⟩ := rt_dictL r1
    refine ⟨a, o, ks, rfl, g1.sub _ _ e, ?_⟩
    have hl : ks.length = kvs.length := Paired.length kr
    refine q _ B1 H1 (fun i H x H' => H' = H ∧ ∃ k, ks[i]? = some (k, x)) g1 ?_ fun i hi B2 H2 σ2 G2 y H3 e1 e2 en2 hy Q k => ?_
    · rw [← hl]
      exact walk_values.mono (fun H2 ee => ee _ _ e) fun _ _ _ _ _ _ y => y
    · obtain ⟨rfl, ky, hk⟩ := hy
      obtain ⟨s, d, h1, rfl, h3⟩ := kr_get kr hk
      refine k _ B2 H3 (.refl e2) ?_ fun vs hv => wipe_set (hv j (List.mem_singleton.mpr rfl))
      show En K B2 _ (G2.set j (valD kvs i))
      unfold valD
      rw [h1]
      exact en2.set j (.d (dp_ex e1 _ _ h3))
def lockG (G : List (Option PyData)) (i : Nat) (a : Addr) (kvs : List (Str × PyData)) : List (Option PyData) := (G.map keepP).set i (some (dictL a kvs))
def unlockG (G : List (Option PyData)) (i : Nat) (kvs : List (Str × PyData)) : List (Option PyData) := (G.map keepP).set i (some (dictU kvs))
theorem en_setV {B : Hp} {σ : L2.St} {G : List (Option PyData)} {v : V} {d : PyData} {i : Nat} (h : En K B σ G) (hv : σ[i]? = some (some v)) (r : Rt K B v d) : En K B σ (G.set i (some d)) := by
  refine ⟨by rw [List.length_set, h.len], fun j e q => ?_⟩
  by_cases hij : i = j
  · subst hij
    have hl : i < G.length := by
      have := (List.getElem?_eq_some_iff.mp q).1
      simpa using this
    rw [List.getElem?_set_self hl] at q
    cases q
    exact ⟨v, hv, r⟩
  · rw [List.getElem?_set_ne hij] at q
    exact h.get j e q
theorem go_lock {B H : Hp} {σ : L2.St} {i : Nat} (x : Ex B H) (en : En K B σ G) (hG : G[i]? = some (some (dictU kvs))) :
    ∃ a ks, σ[i]? = some (some (.ref a)) ∧ B a = some (.dK ks) ∧ KR K B ks kvs ∧ (kvs.map (·.1)).Nodup ∧ ∀ od, Ex (upd B a (.frz od (.dK ks))) (upd H a (.frz od (.dK ks))) ∧ En K (upd B a (.frz od (.dK ks))) σ (lockG G i a kvs) := by
  obtain ⟨v, h1, h2⟩ := en.get i _ hG
  obtain ⟨a, ks, rfl, e, kr, nd⟩ := rt_dictU h2
  refine ⟨a, ks, h1, e, kr, nd, fun od => ⟨ex_lock x e, ?_⟩⟩
  have r : ∀ b u, (∀ o w, u ≠ .frz o w) → Rd B b u → Rd (upd B a (.frz od (.dK ks))) b u := fun b u _ h => rd_lock e h
  exact en_setV (en_rd r en) h1 (.dictL upd_same (kr_rd r kr) nd)
theorem de_lock {i : Nat} {t : TE} {d : PyData} (hG : G[i]? = some (some (dictU kvs))) (hp : plain d = true) (h : ∀ a, DE K t (lockG G i a kvs) d) : DE K (tLockE t) G d := fun σ B H x en Q q => by
  obtain ⟨a, ks, hv, e, kr, nd, lk⟩ := go_lock x en hG
  refine ⟨a, .dK ks, x _ _ e, trivial, fun od => ?_⟩
  obtain ⟨x1, en1⟩ := lk od
  refine h a σ _ _ x1 en1 _ fun v B' H' g r => ⟨g.eh _ _ upd_same, ?_⟩
  refine q v _ _ (go_unlock x e g) (.d (dp_rd (fun b u hu hr => rd_unlock (g.eb _ _ upd_same) hu hr) _ _ (r.dp hp)))
theorem ds_lock {i : Nat} {t : TS} {Gn : Addr → List (Option PyData)} {Go' : List (Option PyData)} (hG : G[i]? = some (some (dictU kvs))) (hn : ∀ a, (Gn a)[i]? = some (some (dictL a kvs))) (hu : ∀ a, unlockG (Gn a) i kvs = Go') (h : ∀ a, DS K t (lockG G i a kvs) (.nx (Gn a))) : DS K (tLock t) G (.nx Go') := fun D σ B H x en q => by
  obtain ⟨a, ks, hv, e, kr, nd, lk⟩ := go_lock x en hG
  refine ⟨a, .dK ks, x _ _ e, trivial, fun od => ?_⟩
  obtain ⟨x1, en1⟩ := lk od
  refine h a _ σ _ _ x1 en1 fun σ' B' H' g en' => ⟨g.eh _ _ upd_same, ?_⟩
  have r : ∀ b u, (∀ o w, u ≠ .frz o w) → Rd B' b u → Rd (upd B' a (.dK ks)) b u := fun b u hu hr => rd_unlock (g.eb _ _ upd_same) hu hr
  obtain ⟨v, h1, h2⟩ := en'.get i _ (hn a)
  obtain ⟨o2, ks2, rfl, e2, kr2, _⟩ := rt_dictL h2
  have e3 : B' a = some (.frz od (.dK ks)) := g.eb _ _ upd_same
  rw [e3] at e2
  cases e2
  refine q σ' _ _ (go_unlock x e g) ?_
  rw [← hu a]
  exact en_setV (en_rd r en') h1 (.dictU upd_same (kr_rd r kr2) nd)
/-- truth of a dict -/
theorem dt_dict {ta : TE} (h : DE K ta G (dictU kvs)) : DT K (fun σ H Q => ta σ H fun x H' => ∃ k, TruV K x H' k ∧ Q k H') G (!kvs.isEmpty) := fun σ B H x en Q q => h σ B H x en _ fun v B' H' g r => by
  obtain ⟨a, ks, rfl, e, kr, nd⟩ := rt_dictU r
  refine ⟨!kvs.isEmpty, .inr (.inr ⟨ks, g.sub _ _ e, ?_⟩), q B' H' g⟩
  have hl : ks.length = kvs.length := Paired.length kr
  cases ks <;> cases kvs <;> simp at hl ⊢
end
end FC
namespace FC
open PySem PySem.Spec PyProof.Rows L2
open Evl (Ex)
/-- the promise of a def: R tells which data it hands back for which arguments; nothing that stood is changed -/
def spR (K : PySem.W.Frag) (R : List PyData → PyData → Prop) : Sp := fun vs H Q _ =>
  ∃ B ds out, Ex B H ∧ RtA K B vs ds ∧ R ds out ∧ ∀ v B' H', Go B H B' H' → Rt K B' v out → Q v H'
section
variable {K : PySem.W.Frag} {G : List (Option PyData)} {R : List PyData → PyData → Prop} {ta : TA} {d : PyData} {ds : List PyData} {E : XK}
theorem spR_len {n : Nat} (hn : ∀ ds d, R ds d → ds.length = n) (vs : List V) (H : Hp) (Q : VK) (E : XK) (h : spR K R vs H Q E) : vs.length = n := by
  obtain ⟨B, ds, d, _, r, hR, _⟩ := h
  rw [Paired.length r, hn ds d hR]
theorem de_call' (h : DA K ta G ds) (hR : R ds d) : DE K (tCall (spR K R) [] E ta) G d := fun σ B H x en Q q =>
  h σ B H x en _ fun vs B1 H1 g1 r1 => by
    rw [List.append_nil]
    exact ⟨B1, ds, d, g1.sub, r1, hR, fun v B' H' g2 r2 => q v B' H' (g1.trans g2) r2⟩
theorem fin_rt {N : List Str} {ts : TS} {vs : List V} {B H : Hp} {Q : VK} (h : DS K ts (startG N ds) (.rt d)) (x : Ex B H) (r : RtA K B vs ds) (q : ∀ v B' H', Go B H B' H' → Rt K B' v d → Q v H') :
    ts { nx := fun _ H' => Q .non H', rt := Q } (start N vs) H := h _ _ B H x (En.start r) q
theorem fin_nx {N : List Str} {G' : List (Option PyData)} {ts : TS} {vs : List V} {B H : Hp} {Q : VK} (h : DS K ts (startG N ds) (.nx G')) (x : Ex B H) (r : RtA K B vs ds) (q : ∀ v B' H', Go B H B' H' → Rt K B' v .none → Q v H') :
    ts { nx := fun _ H' => Q .non H', rt := Q } (start N vs) H := h _ _ B H x (En.start r) fun σ' B' H' g _ => q _ B' H' g (.d .non)
theorem ds_is {t : TS} {r r' : Out} (h : DS K t G r) (e : r = r') : DS K t G r' := e ▸ h
end
end FC
namespace FP
open PySem PySem.Spec PyProof.Rows L2 FC
open Evl (Ex)
def topS (i : Nat) : Stmt := PySem.Challenge.pw_firstclause_k01_errors_made.main.body.getD i (.Pass ⟨0, 0, 0, 0⟩)
/-- the built-ins that the module leaves as they are -/
structure Bl (mg : Str → Option Value) : Prop where
  isi : mg "isinstance" = none
  len : mg "len" = none
  all : mg "all" = none
  int : mg "int" = none
  bool : mg "bool" = none
  str : mg "str" = none
  tuple : mg "tuple" = none
  list : mg "list" = none
  dict : mg "dict" = none
  enum : mg "enumerate" = none
  range : mg "range" = none
  max : mg "max" = none
  sum : mg "sum" = none
section
variable {X : Cx} {a e : Expr} {ta te : TE} {p pos pos2 : Pos}
theorem k_isi {T : Str} {n : String} (h : PE X a ta) (hg : Gl X "isinstance") (hm : X.mg "isinstance" = none) (hgT : Gl X T) (hmT : X.mg T = none) (hv : bootBuiltins T = some (.type n)) (hn : T ≠ "__name__") (hdb : (T == ("__debug__" : Str)) = false)
    (hs : starEach [a, .Name T pos2] X.env = (false, eval a X.env) :: starEach [.Name T pos2] X.env := by rfl) (hs2 : starEach [.Name T pos2] X.env = (false, eval (.Name T pos2) X.env) :: starEach [] X.env := by rfl) :
    PE X (.Call (.Name "isinstance" p) [a, .Name T pos2] [] pos) (tCB (rIsi X.K) (tCons ta (tCons (tC (.ty n)) tNil))) :=
  pe_callB call_isi hg hm PyProof.Rows.boot_isinstance (pa_cons h (pa_cons (pe_bltn hgT hmT hv rfl hn hdb) pa_nil hs2) hs) (he := hs)
end
theorem kii : kitB "int" "int" = some true := by decide +kernel
theorem kib : kitB "int" "bool" = some false := by decide +kernel
theorem kbi : kitB "bool" "int" = some true := by decide +kernel
theorem kbb : kitB "bool" "bool" = some true := by decide +kernel
theorem kni : kitB "NoneType" "int" = some false := by decide +kernel
theorem ksi : kitB "str" "int" = some false := by decide +kernel
theorem kli : kitB "list" "int" = some false := by decide +kernel
theorem kti : kitB "tuple" "int" = some false := by decide +kernel
theorem kdi : kitB "dict" "int" = some false := by decide +kernel
theorem kss : kitB "str" "str" = some true := by decide +kernel
theorem ktt : kitB "tuple" "tuple" = some true := by decide +kernel
theorem kll : kitB "list" "list" = some true := by decide +kernel
theorem kdd : kitB "dict" "dict" = some true := by decide +kernel
/-! ### the mirrors -/
def isWhole : PyData → Bool
  | .int _ => true
  | _ => false
def sgn (s : Str) (i : Nat) : Str := ⟨#[s.cps.getD i 0]⟩
def sgnOk (z : Str) : Bool := (!decide (z.cps.toList < ("a" : Str).cps.toList)) && !decide (("z" : Str).cps.toList < z.cps.toList)
def isNameS (s : Str) : Bool := decide ((1 : Int) ≤ s.length) && decide ((s.length : Int) ≤ 10) && ((List.range s.cps.size).map fun i => sgnOk (sgn s i)).all id
/-! ### which data for which arguments -/
def Rw_is_whole : List PyData → PyData → Prop := fun ds o => ∃ d, ds = [d] ∧ o = .bool (isWhole d)
def Rw_is_name : List PyData → PyData → Prop := fun ds o => ∃ s, ds = [.str s] ∧ isNameS s = true ∧ o = .bool true
def Rw_is_kind : List PyData → PyData → Prop := fun ds o => ∃ kvs s, ds = [dictOf kvs, .str s] ∧ o = .bool (look kvs s).isSome
def Rw_is_bounds : List PyData → PyData → Prop := fun ds o => ∃ i j, ds = [.int i, .int j] ∧ o = .bool (decide (i ≤ j))
inductive OkForm (kvs : List (Str × PyData)) : PyData → Prop where
  | nums {lo hi : Int} (h : lo ≤ hi) : OkForm kvs (.tuple [.str "numbers", .int lo, .int hi])
  | rows {s : Str} (h : (look kvs s).isSome = true) : OkForm kvs (.tuple [.str "rows", .str s])
def Rw_is_form : List PyData → PyData → Prop := fun ds o => ∃ kvs d, ds = [dictOf kvs, d] ∧ OkForm kvs d ∧ o = .bool true
structure KindsOk (kvs : List (Str × PyData)) : Prop where
  ne : kvs ≠ []
  few : kvs.length ≤ 100
  nm : ∀ q ∈ kvs, isNameS q.1 = true
  fm : ∀ q ∈ kvs, OkForm kvs q.2
  nd : (kvs.map (·.1)).Nodup
def Rw_is_kinds : List PyData → PyData → Prop := fun ds o => ∃ kvs, ds = [dictU kvs] ∧ KindsOk kvs ∧ o = .bool true
def Rw_all_have_values : List PyData → PyData → Prop := Rw_is_kinds
def Rw_can_be_built : List PyData → PyData → Prop := fun ds o => ∃ kvs d e, ds = [d, e] ∧ OkForm kvs d ∧ o = .bool true
section
variable {P : Program} {w : World} {K : PySem.W.Frag} {mg : Str → Option Value} {base : Heap} {f : Addr} {fd : FuncData}
theorem madeG_bools (b : Nat → Bool) (n : Nat) : madeG (fun _ => true) (fun i => .bool (b i)) n = ((List.range n).map b).map PyData.bool := by
  unfold madeG
  rw [List.filter_eq_self.mpr (fun _ _ => rfl), List.map_map]
  rfl
theorem all_true {n : Nat} {b : Nat → Bool} (h : ∀ i, i < n → b i = true) : ((List.range n).map b).all id = true := by
  rw [List.all_eq_true]
  intro x hx
  obtain ⟨i, hi, rfl⟩ := List.mem_map.mp hx
  exact h i (List.mem_range.mp hi)
theorem signs_at {s : Str} {i : Nat} (h : i < s.cps.size) : (sgnsOf s)[i]? = some (PyData.str (sgn s i)) := by
  unfold sgnsOf sgn
  rw [List.getElem?_map, Array.getElem?_toList, Array.getElem?_eq_getElem h]
  simp [Array.getD, h]
end
end FP

/-! Own errors over ValueError whose __init__ says super().__init__("..") and keeps one field: the __init__ as a def's promise. -/
namespace KX
open PySem PySem.Spec PyProof.Rows L2

abbrev bmV : List Value := [.type "ValueError", .type "Exception", .type "BaseException", .type "object"]
/-- super().__init__("..") ; self.value = value -/
abbrev xBody (m : Str) (n : Nat) (p0 p1 p2 p3 p4 p5 q0 q1 q2 q3 : Pos) : List Stmt :=
  [.Expr (.Call (.Attribute (.Call (.Name "super" p0) [] [] p1) "__init__" p2) [.Constant (.str m) n p3] [] p4) p5, .Assign [.Attribute (.Name "self" q0) "value" q1] (.Name "value" q2) q3]
abbrev xScope : Scope := { kind := .function, names := [("self", .local), ("value", .local), ("__class__", .free), ("super", .globalImplicit)], isGenerator := false, isCoroutine := false, more := [] }
/-- what the written part says of such a class -/
structure XCls (K : PySem.W.Frag) (D : Addr) : Prop where
  oc : OexC K D
  ei : PySem.W.excInitIn K D bmV "ValueError.__new__" = true
  sm : PySem.W.ks_superIn K D D "__init__" = some (some (.builtin "ValueError.__init__"))
  sB : PySem.W.subIn K (.ref D) (.type "ValueError") = some true
  sD : PySem.W.mroIn K D (.ref D) = some true
  nv : PySem.W.findIn K (.ref D) "value" = some none
/-- .. of the text around -/
structure XTop (P : Program) (K : PySem.W.Frag) : Prop where
  sup : PySem.W.nsIn K mainGlobals "super" = some none
  tp : PySem.W.nsIn K cStatics "thirdparty.any" = some none
  top : (P.main.scope.names.lookup ("super" : Str)).isSome = false
/-- .. of its __init__, at f -/
structure XFun (P : Program) (K : PySem.W.Frag) (D f : Addr) (fd : FuncData) : Prop where
  ex : ∃ (cc cda : Addr) (qual m : Str) (n : Nat) (p0 p1 p2 p3 p4 p5 q0 q1 q2 q3 : Pos) (params : Arguments) (dV kV doc pm ct oc ccl cl : Value) (an od cdd cld : Option Addr) (osl ccs csl : Array (Option Value)) (vs : Array Value) (file : Str) (tf : Tok) (ar : Arg),
    fd = PySem.W.ksFn "__init__" qual params (xBody m n p0 p1 p2 p3 p4 p5 q0 q1 q2 q3) xScope dV kV doc pm an (.ref cda) ct cc ∧ K.lookup f = some ⟨oc, od, .func fd, osl⟩ ∧ PySem.W.codeIn K (.ref cda) qual = true ∧
    K.lookup cda = some ⟨ccl, cdd, .fields vs, ccs⟩ ∧ vs[2]? = some (.str file tf) ∧ ((P.main.file : Str) == file) = true ∧ K.lookup cc = some ⟨cl, cld, .cell (some (.ref D)), csl⟩ ∧ (params.posonlyargs ++ params.args).head? = some ar ∧ ar.arg = "self" ∧ (p2.endLine == p4.line) = true
/-- the promise of its __init__ -/
def spXI (D : Addr) : Sp := fun vs H Q _ => ∃ (a : Addr) (y : V), vs = [.ref a, y] ∧ H a = some (exo a D none) ∧ ∀ dx, H dx = none → dx ≠ a → Q .non (upd (upd H dx (exd dx [("value", y)])) a (exo a D (some dx)))

theorem super_he {env : Env} {p0 p1 p2 p3 p4 : Pos} {m : Str} {n : Nat} (hpos : (p2.endLine == p4.line) = true) :
    eval (.Call (.Attribute (.Call (.Name "super" p0) [] [] p1) "__init__" p2) [.Constant (.str m) n p3] [] p4) env = (do
      let ov ← attributeBase (.Call (.Name "super" p0) [] [] p1) "__init__" env (eval (.Call (.Name "super" p0) [] [] p1) env)
      standAt p2.atName
      let (f, first) ← holding [ov] (getMethod ov "__init__" (pure false))
      callWith p4 f first (backTo p4 (starEach [.Constant (.str m) n p3] env)) []) := by
  have e : ∀ q : Sem Pos, (if (!true || p2.endLine == p4.line) = true then pure p4 else q) = pure p4 := fun q => by rw [hpos]; rfl
  show (attributeBase (.Call (.Name "super" p0) [] [] p1) "__init__" env (eval (.Call (.Name "super" p0) [] [] p1) env) >>= fun ov => standAt p2.atName >>= fun _ =>
    methodCall (.Call (.Name "super" p0) [] [] p1) "__init__" p2 p4 env ov 1 (backTo p4 (starEach [.Constant (.str m) n p3] env)) []) = _
  unfold methodCall methodCallPos
  rw [show methodCallForm 1 (backTo p4 (starEach [.Constant (.str m) n p3] env)) [] = true from rfl, e]
  rfl

section
variable {P : Program} {w : World} {K : PySem.W.Frag} {mg : Str → Option Value} {base : Heap} {k : Nat} {f D : Addr} {fd : FuncData}
theorem xinit_ok (C : XCls K D) (T : XTop P K) (Fn : XFun P K D f fd) : FnOk P w K mg base CX0 (k + 1) f fd ["self", "value"] (spXI D) := by
  obtain ⟨cc, cda, qual, m, n, p0, p1, p2, p3, p4, p5, q0, q1, q2, q3, params, dV, kV, doc, pm, ct, oc, ccl, cl, an, od, cdd, cld, osl, ccs, csl, vs, file, tf, ar, rfl, lk, hcd, hcode, hvs, hfile, hcell, hp, har, hpos⟩ := Fn.ex
  refine ⟨fun vs H Q E h => by obtain ⟨a, y, rfl, _⟩ := h; rfl, fun A outer s H args us vs Q E hr e0 hb r hsp => ?_⟩
  obtain ⟨a, y, rfl, ha, hq⟩ := hsp
  cases r with
  | @cons _ u0 _ ur ra r2 =>
  cases r2 with
  | @cons _ uy _ ur2 ry r3 =>
  cases r3
  obtain rfl : u0 = Value.ref a := ra
  obtain ⟨t1, ho⟩ := exo_at e0.hok ha
  have kb : ∀ b o, base.get? b = some o → s.heap.get? b = some o := fun b o e => (e0.bs b o e).1
  have KX : K.In s.heap := e0.mod.kin.keeps kb
  have lim : s.heap.NoLimit := e0.mod.nolimit.keeps kb
  have naK : ∀ b o, K.lookup b = some o → b ≠ a := fun b o e z => by
    have q := (e0.bs b o (e0.mod.kin b o e)).2
    rw [z, ha] at q
    cases q
  refine ks_codeAny_call_defAt hr.depth (KX _ _ lk) rfl lim (PySem.W.codeRec_of KX hcd) rfl hb (show ∀ x ∈ xScope.names, x.2 ≠ NameKind.cell by decide) (fun x hx => ?hl) (fun h₁ hns hk => ?_) rfl rfl rfl
  case hl =>
    rcases List.mem_cons.mp hx with e | hx
    · rw [e]; rfl
    rcases List.mem_cons.mp hx with e | hx
    · rw [e]; rfl
    · cases hx
  have K1 : K.In h₁ := KX.keeps hk
  have G1 : h₁.Ns mainGlobals mg := (e0.mod.glob.keeps kb).keeps hk
  obtain ⟨mb, hB, hBb⟩ := e0.mod.blt
  have B1 : h₁.Ns builtinsNs mb := (hB.keeps kb).keeps hk
  have ho1 := hk _ _ ho
  have hne : a ≠ s.heap.objs.size := Nat.ne_of_lt (Heap.lt_size ho)
  have F : Fr (PySem.W.hideAll s.heap [a]) s.heap.objs.size h₁ (fun y => ((["self", "value"] : List Str).zip [Value.ref a, uy]).reverse.lookup y) := ⟨hns, fun b o e => hk b o (PySem.W.of_hideAll _ e), Nat.le_of_eq (PySem.W.hideAll_size _ _)⟩
  have N : News (PySem.W.hideAll s.heap [a]) s.heap.objs.size h₁ [(a, PySem.W.excObj D t1 none .none)] := fun p hp => by
    rw [List.mem_singleton.mp hp]
    exact ⟨ho1, hne, PySem.W.hideAll_none _ (List.mem_singleton_self a)⟩
  have X0 : K.In (PySem.W.hideAll s.heap [a]) := fun b o e => PySem.W.hideAll_get _ (KX b o e) (fun z => naK b o e (List.mem_singleton.mp z))
  obtain ⟨cdD, hcD⟩ : ∃ cd, PySem.W.clsIn K D = some cd := by
    obtain ⟨nm, q, N, bs, bm, sn, sub, ab, col, dd, k0, k1, k2, k3, k5, hC, _⟩ := C.oc.cls
    exact ⟨_, by unfold PySem.W.clsIn; rw [hC] <;> rfl⟩
  obtain ⟨oD, hD1, hD2⟩ : ∃ oD, h₁.get? D = some oD ∧ oD.data = .cls cdD := by
    unfold PySem.W.clsIn at hcD
    split at hcD
    · rename_i c d cd' sl ho
      cases hcD
      exact ⟨_, K1 _ _ ho, rfl⟩
    · cases hcD
  obtain ⟨hp0, g, d, t, os⟩ := s
  refine ks_wpAt_execs_cons (ks_wpAt_Expr_any (ks_wpAt_MethodCall ?_ (super_he hpos)))
  refine ks_wpAt_super_base (f := f) (cc := cda) rfl rfl (by decide) rfl (K1 _ _ lk) rfl hp rfl (K1 _ _ hcode) rfl hvs hfile T.top ?_
  refine PySem.W.ks_loadName_global rfl rfl (Calls.loadGlobal_builtin G1 (PySem.W.mg_none_of K1 G1 T.sup) B1 ((hBb _ (by decide)).trans (by first | rfl | kernel_rfl)) ⟨rfl, ?_⟩)
  refine wpAny_loadName_free rfl rfl rfl ⟨_, K1 _ _ hcell, rfl⟩ ?_
  refine wpAny_loadName_local rfl (by rw [har] <;> rfl) hns (by rw [har] <;> rfl) ?_
  refine ks_wpAny_isType_cls hD1 hD2 ⟨rfl, ?_⟩
  refine ks_wpAny_call_super hD1 hD2 ho1 rfl (fun c z => by cases z) (PySem.W.looks_mroIn K1 C.sD) (fun h2 e2 k2 => ?_)
  obtain ⟨F2, N2, l2⟩ := PySem.W.ks_newsPush (s := ⟨h₁, g, d, t, os⟩) (h' := h2) (o := PySem.W.ks_superObj D a D) F N rfl e2 k2
  have I2 : PySem.W.InstAt h2 a (PySem.W.excObj D t1 none .none) D none := .of_exc0 N2 (.tail _ (.head _))
  refine PySem.W.kxs_method (s := ⟨h2, g, d, _, os⟩) PySem.W.kxs_ValueError F2 X0 N2 (.head _) I2 T.tp C.sm C.sB (by decide) (fun q h3 F3 N3 l3 => ?_)
  refine PySem.W.kxs_callWith1 (i := "ValueError.__init__") (x := a) (s := ⟨h3, g, d, _, os⟩) N3 (.head _) ?_ rfl rfl
  refine Calls.spliced_cons (Calls.Constant_str (k := n) (pos := p3) (Calls.spliced_nil ⟨PySem.W.kxs_at N3 (.head _), ?_⟩))
  have hqa : q ≠ a := Nat.ne_of_gt (l3 _ (.tail _ (.head _)))
  have hsa : h₁.objs.size ≠ a := Nat.ne_of_gt (l2 _ (.head _))
  refine PySem.W.kxs_call (s := ⟨h3, g, d, _, os⟩) F3 X0 N3 PySem.F.excBase_ValueError C.ei (.head _) (.tail hqa (.tail hsa (.head (fun p hp => by cases hp)))) (by show 1 ≤ sizeLine; rw [sizeLine_eq]; omega) (fun t4 h4 F4 N4 l4 => ?_)
  have X4 : K.In h4 := X0.keeps F4.keep
  have hx4 : h4.get? a = some (PySem.W.excObj D t4 none .none) := (N4 _ (.tail _ (.tail _ (.tail _ (.head _))))).1
  obtain ⟨nm, q', Nn, bs, bm, sn, sub, ab, col, dd, k0, k1, k2', k3, k5, hC, hbm⟩ := C.oc.cls
  have hcl : PySem.W.clsIn K D = some { name := nm, bases := bs, mro := .ref D :: bm, ns := Nn, qualname := q', hasDict := true, slotNames := sn, subclasses := sub, abstract := ab, collection := col, hasDel := false } := by unfold PySem.W.clsIn; rw [hC] <;> rfl
  refine ks_wpAt_execs_cons (ks_wpAt_Assign_Attr (wpAt_of_wpAny ?_) rfl)
  refine wpAny_Name (wpAny_loadName_local (v := uy) rfl rfl F4.ns rfl ?_) (by decide)
  refine wpAny_Name (wpAny_loadName_local (v := .ref a) rfl rfl F4.ns rfl ?_) (by decide)
  refine PySem.W.set_plain (s := ⟨h4, g, d, _, os⟩) X4 (ox := PySem.W.excObj D t4 none .none) (od := none) ⟨hx4, rfl, rfl, trivial⟩ C.oc.sa ?_
  refine PySem.HandSPX.exc_osa X4 hx4 hcl (show PySem.HandSPX.refsVE (.ref D :: bm) = true from hbm) rfl C.nv (fun h5 tk5 dx k5 dn dne hx5 hn5 => ?_)
  have lo : hp0.objs.size ≤ h4.objs.size := by
    obtain ⟨oL, _, _, hL, _⟩ := F4.ns
    exact Nat.le_of_lt (Heap.lt_size hL)
  have hnd : H dx = none := e0.hok.fresh (Nat.le_trans lo dn)
  have nd : ∀ {b : Addr} {o : Obj}, hp0.get? b = some o → b ≠ dx := fun {b o} q => Nat.ne_of_lt (Nat.lt_of_lt_of_le (Heap.lt_size q) (Nat.le_trans lo dn))
  have na : ∀ {b : Addr}, H b = none → b ≠ a := fun {b} n z => by
    rw [z, ha] at n
    cases n
  have kk : ∀ b o, b ≠ a → hp0.get? b = some o → h5.get? b = some o := fun b o hb q => k5 b o hb (F4.keep b o (PySem.W.hideAll_get _ q (fun z => hb (List.mem_singleton.mp z))))
  have Un1 : Un (frs outer) [] H (upd (upd H dx (exd dx [("value", y)])) a (exo a D (some dx))) hp0 h5 := {
    keep := fun b o q n _ _ => kk b o (na n) q
    slot := fun b o q n _ _ => ⟨o.slots, kk b o (na n) q⟩
    free := fun b o q n _ => by rw [upd_ne (na n), upd_ne (nd q)]; exact n
    there := fun b o q _ => by
      by_cases hb : b = a
      · exact ⟨_, by rw [hb]; exact hx5⟩
      · exact ⟨o, kk b o hb q⟩
    tups := fun b xs q => by rw [upd_ne (at_ne ha q exo_tup), upd_ne (ne_of_none q hnd)]; exact q
    frzs := fun b o v q => by rw [upd_ne (at_ne ha q exo_frz), upd_ne (ne_of_none q hnd)]; exact q
    tbls := fun b ps q => ⟨#[], by rw [upd_ne (at_ne ha q exo_tbl), upd_ne (ne_of_none q hnd), q]; simp⟩ }
  have hok5 : HOk P w (upd (upd H dx (exd dx [("value", y)])) a (exo a D (some dx))) h5 := fun b o q => by
    by_cases hb : b = a
    · subst hb
      rw [upd_same] at q
      cases q
      exact exo_ok hx5
    · rw [upd_ne hb] at q
      by_cases hd : b = dx
      · subst hd
        rw [upd_same] at q
        cases q
        exact exd_ok hn5 (relO_put (fs := []) ry fun g => True.intro)
      · rw [upd_ne hd] at q
        exact (e0.hok b o q).stay (fun c v hc z => kk c v (by
            rcases hc with hc | hc
            · rw [hc]
              exact hb
            · exact at_ne ha hc exo_own) z)
          (fun c hc => by rw [upd_ne (at_ne ha hc exo_own), upd_ne (ne_of_none hc hnd)]; exact hc) (fun c xs hc => by rw [upd_ne (at_ne ha hc exo_tup), upd_ne (ne_of_none hc hnd)]; exact hc)
  exact wpAt_of_wpAny (wpAny_pure ⟨.non, _, rfl, e0.bare, Un1, hok5, rfl, hq dx hnd dne⟩)
end
end KX
/-! Such errors made by C(v), C(), C(value=v), told as objects that stay. -/
namespace PySem
namespace KXN
open PySem.W PySem.Calls PyProof.Rows PySem.HandSPX
section
variable {M : Model} {A : Around} {E : Value → Shared → Prop} {h : Heap} {g : Array GenState} {d : Drawn} {t : Nat} {os : OsState}
variable {nm q : Str} {C N : Addr} {bs bm bmB : List Value} {hdct : Bool} {sn : List Str} {sub : List Value} {ab : Bool} {col : Option Bool} {dd : Option Addr} {k0 k1 k2 k3 k5 : Option Value} {B newId initId : String}
theorem check_newK (FB : ExcBaseFacts B newId initId bmB) (qT : ∀ X : String, bm.contains (.type X) = bmB.contains (.type X)) {us : List Value} {kw : List (Str × Value)} {Q : Unit → Shared → Prop}
    (qC : h.get? C = some (excClassObj nm q C N bs bm hdct sn sub ab col dd k0 k1 k2 k3 k5 newId)) (qq : Q () ⟨h, g, d, t, os⟩) : wpAny M A (checkBuiltinCall newId ⟨.ref C :: us, kw⟩) Q E ⟨h, g, d, t, os⟩ := by
  have q1 : (Value.ref C :: bm).contains (.type B) = true := by rw [List.contains_cons, qT, FB.hasB, Bool.or_true]
  have q2 := FB.noStar
  simp only [checkBuiltinCall, FB.newKind, FB.newSplit, FB.newRow]
  repeat (first | refine wpAny_loadPart_at qC ?_ | (refine wpAny_isSubtype_exc qC ?_; rw [q1]) | refine wpAny_staticBase_exc qC ?_ | refine wpAny_madeBy_exc qC ?_ | simp only [bne_self_eq_false, Bool.false_eq_true, if_false] | wp_step)
  exact qq
end
section
variable {prog : Program} {w : World} {A : Around} {E : Value → Shared → Prop} {R : Result → Shared → Prop} {h : Heap} {g : Array GenState} {d : Drawn} {t : Nat} {os : OsState}
variable {nm q : Str} {C N : Addr} {bs bm bmB : List Value} {hdct : Bool} {sn : List Str} {sub : List Value} {ab : Bool} {col : Option Bool} {dd : Option Addr} {k0 k1 k2 k3 k5 : Option Value} {B newId initId : String}
theorem newK (FB : ExcBaseFacts B newId initId bmB) (qT : ∀ X : String, bm.contains (.type X) = bmB.contains (.type X)) {us : List Value} {kw : List (Str × Value)}
    (qC : h.get? C = some (excClassObj nm q C N bs bm hdct sn sub ab col dd k0 k1 k2 k3 k5 newId)) (qz : us.length ≤ sizeLine)
    (qq : R (.ok (.ret (.ref (h.objs.size + 1)))) ⟨(h.push (W.kdv_tup us)).push (excO C h.objs.size), g, d, t, os⟩) :
    codeAny (model prog w) A (.builtin newId ⟨.ref C :: us, kw⟩) R ⟨h, g, d, t, os⟩ := by
  have q0 := FB.ends
  have q1 : (Value.ref C :: bm).contains (.type B) = true := by rw [List.contains_cons, qT, FB.hasB, Bool.or_true]
  have q2 : (Value.ref C :: bm).contains (.type "AttributeError") = false := by rw [List.contains_cons, qT, FB.noAttr]; rfl
  have q3 : (Value.ref C :: bm).contains (.type "NameError") = false := by rw [List.contains_cons, qT, FB.noName]; rfl
  refine codeAny_builtinAt FB.entry ?_
  unfold Builtin.«BaseException.__new__»
  refine wpAt_bind ?_
  show wpAt _ _ _ (stack >>= _) _ _ _
  refine wpAt_bind (wpAt_stack fun p below => wpAt_of_wpAny ?_)
  wp_walk
  refine wpAt_of_wpAny ?_
  rw [FB.owner]
  repeat (first | with_reducible refine wpAny_madeHere_exc FB.canon qC ?_ | with_reducible refine wpAny_loadPart_at qC ?_ | (with_reducible refine wpAny_isSubtype_exc qC ?_; first | rw [q1] | rw [q2] | rw [q3]) | wp_step)
  show R _ _
  rw [Heap.size_push]
  exact qq
theorem type_callK (FB : ExcBaseFacts B newId initId bmB) (qT : ∀ X : String, bm.contains (.type X) = bmB.contains (.type X)) {us : List Value} {kw : List (Str × Value)} {fI : Addr} {Q : Fin → Shared → Prop}
    (qC : h.get? C = some (excClassObj nm q C N bs bm hdct sn sub ab col dd k0 k1 k2 k3 k5 newId)) (qz : us.length ≤ sizeLine)
    (qi : W.Looks (model prog w) h (typeLookup (.ref C) "__init__") (some (.ref fI))) (qb : ∀ self, W.Looks (model prog w) h (bindSpecial (.ref fI) self) (.ref fI, [self]))
    (qq : codeAny (model prog w) A (.call (.ref fI) ⟨.ref (h.objs.size + 1) :: us, kw⟩)
      (fun r s' => match r with | .ok (.ret v) => v = .none ∧ Q (.done (.ret (.ref (h.objs.size + 1)))) s' | .ok _ => False | .error e => E e s')
      ⟨(h.push (W.kdv_tup us)).push (excO C h.objs.size), g, d, t, os⟩) :
    wpAny (model prog w) A (Builtin.«type.__call__» ⟨.ref C :: us, kw⟩) Q E ⟨h, g, d, t, os⟩ := by
  repeat (first | with_reducible refine wpAny_loadPart_at qC ?_ | with_reducible refine wpAny_madeBy_exc qC ?_ | wp_step)
  refine codeAny_call_builtin_code (Code.quiet_builtin _ FB.quiet) (check_newK FB qT qC ?_)
  refine newK FB qT qC qz ?_
  show wpAny _ _ _ _ _ _
  have kp : ∀ b o, h.get? b = some o → ((h.push (W.kdv_tup us)).push (excO C h.objs.size)).get? b = some o := fun b o e => Heap.get?_push_of_some _ (Heap.get?_push_of_some _ e)
  have qC1 := kp _ _ qC
  have qg : ((h.push (W.kdv_tup us)).push (excO C h.objs.size)).get? (h.objs.size + 1) = some (excO C h.objs.size) := by heap_get
  have qo : (Value.ref C :: bm).contains (.ref C) = true := by simp
  have i1 := qi.keeps kp
  have b1 := (qb (.ref (h.objs.size + 1))).keeps kp
  unfold isInstance
  repeat (first | with_reducible refine wpAny_loadPart_at qg ?_ | (with_reducible refine wpAny_isSubtype_exc qC1 ?_; rw [qo]) | wp_step)
  show wpAny _ _ (typeLookup (.ref C) _) _ _ _
  refine i1.at ?_
  refine wpAny_holding (wpAny_bind (b1.at ?_))
  refine wpAny_bind (wpAny_call (codeAny_mono qq fun r s' z => ?_))
  rcases r with e | (v | _ | _ | _) <;> first | exact z | exact z.elim | skip
  obtain ⟨rfl, z⟩ := z
  first
    | exact wpAny_pure (wpAny_pure z)
    | (wp_walk; exact z)
end
end KXN
end PySem
namespace PySem
namespace KXN
open PySem.W PySem.Calls PyProof.Rows PySem.HandSPX
section
variable {prog : Program} {w : World} {A : Around} {E : Value → Shared → Prop} {R : Result → Shared → Prop} {h : Heap} {g : Array GenState} {d : Drawn} {t : Nat} {os : OsState}
variable {nm q : Str} {C N : Addr} {bs bm bmB : List Value} {hdct : Bool} {sn : List Str} {sub : List Value} {ab : Bool} {col : Option Bool} {dd : Option Addr} {k0 k1 k2 k3 k5 : Option Value} {B newId initId : String}
theorem call_K (FB : ExcBaseFacts B newId initId bmB) (qT : ∀ X : String, bm.contains (.type X) = bmB.contains (.type X)) {us : List Value} {kw : List (Str × Value)} {fI : Addr}
    (qC : h.get? C = some (excClassObj nm q C N bs bm hdct sn sub ab col dd k0 k1 k2 k3 k5 newId)) (qz : us.length ≤ sizeLine)
    (qi : W.Looks (model prog w) h (typeLookup (.ref C) "__init__") (some (.ref fI))) (qb : ∀ self, W.Looks (model prog w) h (bindSpecial (.ref fI) self) (.ref fI, [self]))
    (qq : codeAny (model prog w) (A.under (.builtin "type.__call__" ⟨.ref C :: us, kw⟩)) (.call (.ref fI) ⟨.ref (h.objs.size + 1) :: us, kw⟩) (W.InitBack (h.objs.size + 1) R)
      ⟨(h.push (W.kdv_tup us)).push (excO C h.objs.size), g, d, t, os⟩) :
    codeAny (model prog w) A (.call (.ref C) ⟨us, kw⟩) R ⟨h, g, d, t, os⟩ := by
  have f1 := tc_lookup
  have f2 := tc_bind (.ref C)
  have qy : (⟨h, g, d, t, os⟩ : Shared).TypeIs (.ref C) "type" := ⟨_, qC, rfl⟩
  refine codeAny_of_tree ?_
  show wpAny _ _ (callAny (.ref C) _) _ _ _
  repeat (any_goals (first | assumption | with_reducible refine wpAny_loadPart_at qC ?_ | wp_step))
  refine ⟨rfl, ?_⟩
  refine codeAny_call_builtin_at (Code.quiet_builtin _ (by decide +kernel)) entry_typeCall (wpAny_check_type_call_sub qC (type_callK FB qT qC qz qi qb ?_))
  refine codeAny_mono qq fun r s' z => ?_
  rcases r with e | (v | _ | _ | _) <;> exact z
end
end KXN
end PySem
namespace KX
open PySem PySem.Spec PyProof.Rows L2
theorem upd_swap {H : Hp} {a b : Addr} {o u o' : HO} : upd (upd (upd H a o) b u) a o' = upd (upd H b u) a o' := by
  funext c
  by_cases hc : c = a
  · rw [hc, upd_same, upd_same]
  · rw [upd_ne hc, upd_ne hc]
    by_cases hb : c = b
    · rw [hb, upd_same, upd_same]
    · rw [upd_ne hb, upd_ne hb, upd_ne hc]
/-- C(..): a new error with its field -/
def mkX (D : Addr) (y : V) (H : Hp) (Q : VK) : Prop := ∀ a dx, H a = none → H dx = none → dx ≠ a → Q (.ref a) (upd (upd H dx (exd dx [("value", y)])) a (exo a D (some dx)))
section
variable {X : Cx} {k : Nat} {f D : Addr} {fd : FuncData} {x : Str} {p pos : Pos} {e : Expr} {te : TE}
/-- an own class of such errors: by its name, made by its __init__ -/
structure XMk (P : Program) (w : World) (K : PySem.W.Frag) (mg : Str → Option Value) (base : Heap) (k : Nat) (x : Str) (D : Addr) : Prop where
  cls : XCls K D
  gm : mg x = some (.ref D)
  kp : PySem.W.keepIn K (.ref D) = true
  ini : ∃ (f : Addr) (fd : FuncData), PySem.W.findIn K (.ref D) "__init__" = some (some (.ref f)) ∧ PySem.W.typeIn K (.ref f) = some (.type "function") ∧ FnOk P w K mg base CX0 k f fd ["self", "value"] (spXI D) ∧
    Binds K fd ["self", "value"] [] ∧ Binds K fd ["self", "value"] [.none] ∧ ∀ (s : Shared) (u v : Value), K.In s.heap → BindsTo s fd ⟨[u], [("value", v)]⟩ ((["self", "value"] : List Str).zip [u, v])
theorem run_mkX {pins : List (Addr × Obj)} {σ : L2.St} {H1 : Hp} {s1 : Shared} {y : V} {uy : Value} {Q : VK} {us : List Value} {kw : List (Str × Value)} (M : XMk X.prog X.w X.K X.mg X.base k x D) (hr : Room (k + 1) X.A) (I1 : Inv X pins σ H1 s1) (hz : us.length ≤ 1)
    (hb : ∀ (fd : FuncData), Binds X.K fd ["self", "value"] [] → Binds X.K fd ["self", "value"] [.none] → (∀ (s : Shared) (u v : Value), X.K.In s.heap → BindsTo s fd ⟨[u], [("value", v)]⟩ ((["self", "value"] : List Str).zip [u, v])) → ∀ (s : Shared) (a : Addr), X.K.In s.heap → BindsTo s fd ⟨.ref a :: us, kw⟩ ((["self", "value"] : List Str).zip [.ref a, uy]))
    (ry : RelV y uy) (q1 : mkX D y H1 Q) : wpAny (model X.prog X.w) X.A (call (.ref D) us kw) (EP X pins σ Q) X.xe s1 := by
  obtain ⟨f, fd, iC, tI, F1, b1, b2, b3⟩ := M.ini
  obtain ⟨nm, qn, N, bs, bm, sn, sub, ab, col, dd, k0, k1, k2, k3, k5, hC, hbm⟩ := M.cls.oc.cls
  obtain ⟨hp, g, dr, tk, os⟩ := s1
  have hsz : hp.objs.size ≤ hp.objs.size + 1 := Nat.le_succ _
  have hn : H1 (hp.objs.size + 1) = none := I1.hok.fresh hsz
  have kk : ∀ b o, hp.get? b = some o → ((hp.push (PySem.W.kdv_tup us)).push (PySem.HandSPX.excO D hp.objs.size)).get? b = some o := fun b o e => Heap.get?_push_of_some _ (Heap.get?_push_of_some _ e)
  have hget : ((hp.push (PySem.W.kdv_tup us)).push (PySem.HandSPX.excO D hp.objs.size)).get? (hp.objs.size + 1) = some (PySem.HandSPX.excO D hp.objs.size) := by heap_get
  have I2 : Inv X pins σ (upd H1 (hp.objs.size + 1) (exo (hp.objs.size + 1) D none)) ⟨(hp.push (PySem.W.kdv_tup us)).push (PySem.HandSPX.excO D hp.objs.size), g, dr, tk, os⟩ :=
    I1.laid (t' := tk) (a := hp.objs.size + 1) (o := exo (hp.objs.size + 1) D none) (h' := (hp.push (PySem.W.kdv_tup us)).push (PySem.HandSPX.excO D hp.objs.size)) kk hsz (exo_ok hget)
  have r2 : Vals [V.ref (hp.objs.size + 1), y] [Value.ref (hp.objs.size + 1), uy] := .cons rfl (.cons ry .nil)
  have hus : us.length ≤ sizeLine := by rw [sizeLine_eq]; omega
  have hsp : spXI D [V.ref (hp.objs.size + 1), y] (upd H1 (hp.objs.size + 1) (exo (hp.objs.size + 1) D none)) (fun v H2 => v = .non ∧ Q (.ref (hp.objs.size + 1)) H2) E0 :=
    ⟨_, y, rfl, upd_same, fun dx nd ne => ⟨rfl, by
      rw [upd_swap]
      exact q1 _ dx hn (by rw [upd_ne ne] at nd; exact nd) ne⟩⟩
  refine wpAny_call (PySem.KXN.call_K PySem.F.excBase_ValueError (fun Y => PySem.HandSPX.refsVE_contains Y bm hbm) (I1.kIn _ _ hC) hus (PySem.W.looks_findIn I1.kIn iC) (fun self => PySem.W.bind_fn I1.kIn self tI)
    (codeAny_mono (F1.run _ X.stack _ _ ⟨Value.ref (hp.objs.size + 1) :: us, kw⟩ [Value.ref (hp.objs.size + 1), uy] _ _ E0 (hr.make D us kw) (I2.env0.make D us kw) (hb fd b1 b2 b3 _ _ I2.kIn) r2 hsp) fun r s' hq' => ?_))
  cases r with
  | error er => exact hq'.elim
  | ok fl =>
    cases fl with
    | ret u =>
      obtain ⟨v, H', I3, rv, ev, q3⟩ := I2.after hq'
      subst ev
      exact ⟨rv, ⟨V.ref (hp.objs.size + 1), H', I3, rfl, q3⟩⟩
    | next => exact hq'.elim
    | brk => exact hq'.elim
    | cont => exact hq'.elim
/-- C(e) -/
def tMk1 (D : Addr) (ta : TA) : TE := fun σ H Q => ta σ H fun vs H1 => ∃ y, vs = [y] ∧ mkX D y H1 Q
theorem pe_mk1 {ta : TA} (M : XMk X.prog X.w X.K X.mg X.base k x D) (hr : Room (k + 1) X.A) (hg : Gl X x) (ha : PA X [e] ta) (hdb : (x == ("__debug__" : Str)) = false := by decide)
    (he : starEach [e] X.env = (false, eval e X.env) :: starEach [] X.env := by rfl) (hpl : (backTo pos (starEach [] X.env)).any (·.1) = false := by rfl) : PE X (.Call (.Name x p) [e] [] pos) (tMk1 D ta) := by
  refine ⟨fun pins s σ H Q I h => ?_⟩
  refine wpAny_Call_Name_kw (ld_glob I hg M.gm ?_ hdb)
  refine PySem.W.callWith_K (h₀ := X.base) I.ok.mod.kin M.kp (thn (ha.run pos pins s σ H _ I h) fun us s1 z => ?_) he hpl
  obtain ⟨vs, H1, I1, r, y, ev, q⟩ := z
  subst ev
  cases r with
  | @cons _ u0 _ ur ra r2 =>
  cases r2
  exact ⟨I1.kIn, run_mkX M hr I1 (Nat.le_refl 1) (fun fd b1 _ _ s a K => b1 s [.ref a, u0] K rfl) ra q⟩
/-- C() -/
def tMk0 (D : Addr) : TE := fun _ H Q => mkX D .non H Q
theorem pe_mk0 (M : XMk X.prog X.w X.K X.mg X.base k x D) (hr : Room (k + 1) X.A) (hg : Gl X x) (hdb : (x == ("__debug__" : Str)) = false := by decide) : PE X (.Call (.Name x p) [] [] pos) (tMk0 D) := by
  refine ⟨fun pins s σ H Q I h => ?_⟩
  refine wpAny_Call_Name_kw (ld_glob I hg M.gm ?_ hdb)
  exact PySem.W.callWith_K0 I.kIn M.kp (run_mkX (y := .non) (us := []) (uy := .none) M hr I (Nat.zero_le 1) (fun fd _ b2 _ s a K => b2 s [.ref a] K rfl) rfl h)
/-- C(value=e) -/
theorem pe_mkk {kws : List Keyword} {tk : TA} (M : XMk X.prog X.w X.K X.mg X.base k x D) (hr : Room (k + 1) X.A) (hg : Gl X x) (hkw : PK X kws tk) (hall : (backToKw pos (keywordEach kws X.env)).all (·.1.isSome) = true := by rfl)
    (hks : (backToKw pos (keywordEach kws X.env)).filterMap (·.1) = (["value"] : List Str) := by rfl) (hdb : (x == ("__debug__" : Str)) = false := by decide)
    (hpl : ((backTo pos (starEach [] X.env)).any (·.1) || (backToKw pos (keywordEach kws X.env)).any (·.1.isNone)) = false := by rfl) : PE X (.Call (.Name x p) [] kws pos) (tMk1 D tk) := by
  refine ⟨fun pins s σ H Q I h => ?_⟩
  refine wpAny_Call_Name_kw (ld_glob I hg M.gm ?_ hdb)
  refine PySem.W.callWith_KW0 (h₀ := X.base) I.ok.mod.kin M.kp hall ?_ hpl
  refine thn (hkw.run pos pins s σ H _ I h) fun ws s2 z => ?_
  obtain ⟨vs, H1, I1, r, y, ev, q⟩ := z
  subst ev
  cases r with
  | @cons _ u0 _ ur ra r2 =>
  cases r2
  refine ⟨I1.kIn, ?_⟩
  rw [hks]
  exact run_mkX (us := []) M hr I1 (Nat.zero_le 1) (fun fd _ _ b3 s a K => b3 s (.ref a) u0 K) ra q
end
end KX
/-! Such errors as values: made without an own __init__, asked by isinstance, their field read. -/
namespace KX
open PySem PySem.Spec PyProof.Rows L2
open Evl (Ex)
/-- what the class D must say, so that isinstance and a read of a field ask its instances rightly -/
structure XIs (K : PySem.W.Frag) (D : Addr) : Prop where
  hc : (PySem.W.clsIn K D).isSome = true
  hg : PySem.W.findIn K (.ref D) "__getattribute__" = some (some (.builtin "BaseException.__getattribute__"))
  hk : PySem.W.findIn K (.ref D) "__getattr__" = some none
  hs : PySem.W.subIn K (.ref D) (.type "BaseException") = some true
  hd : PySem.W.hasDictIn K D = true
  ha : PySem.W.findIn K (.ref D) "__class__" = some (some (.builtin "object.__class__"))
  hn : PySem.W.specialIn K (.builtin "object.__class__") "__get__" = some (some (.builtin "getset_descriptor.__get__"))
  ht : PySem.W.takesIn K (.builtin "object.__class__") = some true
  hm : PySem.W.mroIn K D (.type "object") = some true
  hv : PySem.W.findIn K (.ref D) "value" = some none
/-- an error of the class D stands at a -/
def ErrAt (H : Hp) (a D : Addr) : Prop := ∃ d, H a = some (exo a D d) ∧ (d = none ∨ ∃ dx fs, d = some dx ∧ H dx = some (exd dx fs))
/-- .. with the field v -/
def ErrV (H : Hp) (a D : Addr) (v : V) : Prop := ∃ dx, H a = some (exo a D (some dx)) ∧ H dx = some (exd dx [("value", v)])
theorem ErrV.at {H : Hp} {a D : Addr} {v : V} (e : ErrV H a D v) : ErrAt H a D := by
  obtain ⟨dx, h1, h2⟩ := e
  exact ⟨some dx, h1, .inr ⟨dx, _, rfl, h2⟩⟩
theorem ErrAt.ex {H H' : Hp} {a D : Addr} (e : ErrAt H a D) (x : Ex H H') : ErrAt H' a D := by
  obtain ⟨d, h1, h2⟩ := e
  refine ⟨d, x _ _ h1, ?_⟩
  rcases h2 with h2 | ⟨dx, fs, h2, h3⟩
  · exact .inl h2
  · exact .inr ⟨dx, fs, h2, x _ _ h3⟩
theorem ErrV.ex {H H' : Hp} {a D : Addr} {v : V} (e : ErrV H a D v) (x : Ex H H') : ErrV H' a D v := by
  obtain ⟨dx, h1, h2⟩ := e
  exact ⟨dx, x _ _ h1, x _ _ h2⟩
theorem errAt_inst {P : Program} {w : World} {H : Hp} {h : Heap} {a D : Addr} (ok : HOk P w H h) (e : ErrAt H a D) : ∃ ox od, PySem.W.InstAt h a ox D od := by
  obtain ⟨d, ea, hd⟩ := e
  obtain ⟨t1, ho⟩ := exo_at ok ea
  rcases hd with rfl | ⟨dx, fs, rfl, ed⟩
  · exact ⟨_, none, ho, rfl, rfl, trivial⟩
  · obtain ⟨mA, hns, _⟩ := exd_at ok ed
    obtain ⟨o, es, ep, hoD, _⟩ := hns
    exact ⟨_, some o, ho, rfl, rfl, hoD⟩
/-- isinstance(e, c) -/
def rIsX (K : PySem.W.Frag) : List V → Hp → VK → Prop := fun xs H Q => ∃ (a D : Addr) (c : V) (cv : Value) (b : Bool), xs = [.ref a, c] ∧ ErrAt H a D ∧ XIs K D ∧ (∀ u, RelV c u → u = cv) ∧ PySem.W.kitOne K (.ref D) cv = some b ∧ Q (.bl b) H
theorem call_isX {X : Cx} : CallR X (.builtin "isinstance") (rIsX X.K) := by
  intro pins s σ H xs us Q I r h
  obtain ⟨a, D, c, cv, b, rfl, ea, T, hcv, e, q⟩ := h
  cases r with
  | cons rx rr =>
    cases rr with
    | cons rt rr =>
      cases rr
      cases rx
      have ec := hcv _ rt
      subst ec
      obtain ⟨ox, od, J⟩ := errAt_inst I.hok ea
      exact PySem.W.kia_one (PySem.W.kitx_exc T.hc T.hg T.hk T.hs T.ha T.hn T.ht T.hm) I.kIn J e (fun z => nomatch z) fun tk => ⟨.bl b, H, I.kept (t' := tk) fun _ _ z => z, rfl, q⟩
/-- e.value -/
def tXv (K : PySem.W.Frag) (te : TE) : TE := fun σ H Q => te σ H fun x H1 => ∃ (a D : Addr) (v : V), x = .ref a ∧ XIs K D ∧ ErrV H1 a D v ∧ Q v H1
theorem pe_xv {X : Cx} {e : Expr} {te : TE} {pos : Pos} (he : PE X e te) (hb : attributeBase e "value" X.env (eval e X.env) = eval e X.env := by rfl) : PE X (.Attribute e "value" pos) (tXv X.K te) := by
  refine ⟨fun pins s σ H Q I h => ?_⟩
  refine attr_of hb (thn (he.run pins s σ H _ I h) fun u s1 hh => ?_)
  obtain ⟨x, H1, I1, rx, a, D, v, ex, T, ⟨dx, ea, ed⟩, q⟩ := hh
  subst ex
  obtain rfl : u = Value.ref a := rx
  obtain ⟨t1, ho⟩ := exo_at I1.hok ea
  obtain ⟨mA, hns, hr⟩ := exd_at I1.hok ed
  obtain ⟨od, hoD, hl⟩ := lookIn_ns hns
  obtain ⟨u, hu, ru⟩ := RelO.some_of (v := v) (o := mA "value") (by have z := hr "value"; simpa using z)
  have J : PySem.W.InstAt s1.heap a _ D (some od) := ⟨ho, rfl, rfl, hoD⟩
  exact HandSPX.exc_get I1.kIn J T.hg T.hk T.hs (PySem.W.findObj_own T.hd T.hv rfl (by rw [hl, hu])) (handed_of ru) ⟨v, H1, I1.tok _, ru, q⟩
/-- C(), a class without an own __init__ -/
def tEx0 (C : Addr) : TE := fun _ H Q => ∀ a, H a = none → Q (.ref a) (upd H a (exo a C none))
theorem pe_ex0 {X : Cx} {C : Addr} {bmB : List Value} {B newId initId : String} {x : Str} {p pos : Pos} (FB : ExcBaseFacts B newId initId bmB) (q : PySem.W.excIn X.K C bmB newId = true) (gC : X.mg x = some (.ref C)) (kC : PySem.W.keepIn X.K (.ref C) = true) (hg : Gl X x)
    (hdb : (x == ("__debug__" : Str)) = false := by decide) : PE X (.Call (.Name x p) [] [] pos) (tEx0 C) := by
  refine ⟨fun pins s σ H Q I h => ?_⟩
  refine wpAny_Call_Name_kw (ld_glob I hg gC ?_ hdb)
  refine PySem.W.callWith_K0 I.kIn kC ?_
  show wpAny _ _ (call (.ref C) []) _ _ _
  obtain ⟨bm, N, nm, qn, bs, hdct, sn, sub, ab, col, dd, k0, k1, k2, k3, k5, mN, hC, hN, hni, T⟩ := exc_obj I.kIn q
  obtain ⟨hp, g, d, t, os⟩ := s
  refine wpAny_call_exc_subT FB T hC hN hni (fun h' a hm => ?_) (Nat.zero_le _)
  have hn : H a = none := I.hok.gone hm.new
  obtain ⟨t, ht, _, _⟩ := hm.there
  exact ⟨.ref a, upd H a (exo a C none), I.laidN hm.keeps hm.new hn (exo_ok ht), rfl, h a hn⟩
end KX
/-! The law's helpers: which classes an error is of, and errors made. -/
namespace KX
open PySem PySem.Spec PyProof.Rows L2 FC FP
open Evl (Ex)
abbrev s_classes : Stmt := topS 13
abbrev s_placed : Stmt := topS 14
abbrev s_thing : Stmt := topS 15
abbrev s_made : Stmt := topS 16
abbrev s_by_name : Stmt := topS 17
abbrev s_law : Stmt := topS 18
/-- the classes of the text -/
structure CT (P : Program) (w : World) (K : PySem.W.Frag) (mg : Str → Option Value) (base : Heap) (k : Nat) (c0 c1 c2 c3 c4 c5 c6 c7 c8 c9 ce : Addr) : Prop where
  m0 : XMk P w K mg base k "InvalidKinds" c0
  m1 : XMk P w K mg base k "InvalidKind" c1
  m2 : XMk P w K mg base k "InvalidValue" c2
  m3 : XMk P w K mg base k "InvalidSize" c3
  m4 : XMk P w K mg base k "InvalidNumber" c4
  m5 : XMk P w K mg base k "InvalidPattern" c5
  m6 : XMk P w K mg base k "InvalidClause" c6
  m7 : XMk P w K mg base k "InvalidClauses" c7
  m8 : XMk P w K mg base k "InvalidPosition" c8
  g9 : mg "NothingToUndo" = some (.ref c9)
  ge : mg "ClauseError" = some (.ref ce)
  k9 : PySem.W.keepIn K (.ref c9) = true
  ke : PySem.W.keepIn K (.ref ce) = true
  x9 : PySem.W.excIn K c9 bmV "ValueError.__new__" = true
  xe : PySem.W.excIn K ce bmV "ValueError.__new__" = true
  xs : ∀ D ∈ [c0, c1, c2, c3, c4, c5, c6, c7, c8, c9, ce], XIs K D
  kit : ∀ (i j : Nat) (D E : Addr), [c0, c1, c2, c3, c4, c5, c6, c7, c8, c9][i]? = some D → [c0, c1, c2, c3, c4, c5, c6, c7, c8, c9][j]? = some E → PySem.W.kitOne K (.ref D) (.ref E) = some (decide (j = i))
  kie : ∀ D ∈ [c0, c1, c2, c3, c4, c5, c6, c7, c8, c9, ce], PySem.W.kitOne K (.ref D) (.ref ce) = some true
  kiv : ∀ D ∈ [c0, c1, c2, c3, c4, c5, c6, c7, c8, c9, ce], PySem.W.kitOne K (.ref D) (.type "ValueError") = some true
  kic : ∀ (j : Nat) (E : Addr), [c0, c1, c2, c3, c4, c5, c6, c7, c8, c9][j]? = some E → PySem.W.kitOne K (.ref ce) (.ref E) = some false
/-- the promise of _law_classes -/
def spCls (K : PySem.W.Frag) (Cs : List Addr) : Sp := fun vs H Q _ => ∃ (a D : Addr) (b : Nat → Bool), vs = [.ref a] ∧ ErrAt H a D ∧ XIs K D ∧ (∀ j E, Cs[j]? = some E → PySem.W.kitOne K (.ref D) (.ref E) = some (b j)) ∧
  ∀ p H', Ex H H' → H p = none → H' p = some (.lst ((List.range 10).map fun j => V.bl (b j))) → Q (.ref p) H'
/-- .. of _law_made and _law_by_name -/
def spMade (Cs : List Addr) : Sp := fun vs H Q _ => ∃ y, vs = [y] ∧ ∀ p as H', Ex H H' → H p = none → H' p = some (.lst (as.map V.ref)) → Paired (fun a D => ErrV H' a D y) as Cs → Q (.ref p) H'
theorem isI {K : PySem.W.Frag} {σ : L2.St} {H : Hp} {a D E : Addr} {b : Bool} {i : Nat} {Q : VK} (hσ : σ[i]? = some (some (.ref a))) (e : ErrAt H a D) (T : XIs K D) (kk : PySem.W.kitOne K (.ref D) (.ref E) = some b) (q : Q (.bl b) H) :
    tCB (rIsX K) (tCons (tVar i) (tCons (tC (.ref E)) tNil)) σ H Q := ⟨_, hσ, a, D, _, _, b, rfl, e, T, fun u r => r, kk, q⟩
theorem mk_step {D : Addr} {y : V} {H : Hp} {Q : VK} (h : ∀ a H', Ex H H' → ErrV H' a D y → Q (.ref a) H') : mkX D y H Q := fun a dx na nd ne => by
  have n1 : upd H dx (exd dx [("value", y)]) a = none := by rw [upd_ne (Ne.symm ne)]; exact na
  exact h a _ ((Ex.new nd).trans (Ex.new n1)) ⟨dx, upd_same, by rw [upd_ne ne, upd_same]⟩
theorem paired_ex {H H' : Hp} {y : V} (x : Ex H H') : ∀ {as Ds : List Addr}, Paired (fun a D => ErrV H a D y) as Ds → Paired (fun a D => ErrV H' a D y) as Ds
  | _, _, .nil => .nil
  | _, _, .cons r t => .cons (r.ex x) (paired_ex x t)
theorem paired_app {α β : Type} {R : α → β → Prop} : ∀ {as : List α} {bs : List β} {cs : List α} {ds : List β}, Paired R as bs → Paired R cs ds → Paired R (as ++ cs) (bs ++ ds)
  | _, _, _, _, .nil, h => h
  | _, _, _, _, .cons r t, h => .cons r (paired_app t h)
theorem upd_back {H : Hp} {p q : Addr} {o : HO} (h : upd H p o q = none) : H q = none := by
  by_cases e : q = p
  · rw [e, upd_same] at h
    cases h
  · rw [upd_ne e] at h
    exact h
theorem seq_set {te : TE} {i : Nat} {t : TS} {D : Ends} {σ : L2.St} {H : Hp} (h : te σ H fun v H1 => t D (σ.set i (some v)) H1) : tSeq (tAsg te (gName i)) t D σ H := h
theorem ret_of {te : TE} {D : Ends} {σ : L2.St} {H : Hp} (h : te σ H D.rt) : tRet te D σ H := h
/-- found + [..] -/
theorem cat_step {σ : L2.St} {H : Hp} {p : Addr} {i : Nat} {xs ys : List V} {tl : TA} {Q : VK} (h1 : σ[i]? = some (some (.ref p))) (hp : H p = some (.lst xs)) (hl : xs.length + ys.length ≤ 1000) (ht : ∀ R : List V → Hp → Prop, R ys H → tl σ H R)
    (q : ∀ p' H', Ex H H' → H p' = none → H' p' = some (.lst (xs ++ ys)) → Q (.ref p') H') : tOp rCat (tVar i) (tLst tl) σ H Q :=
  ⟨_, h1, ht _ ⟨by rw [sizeLine_eq]; omega, fun p2 n2 => by
    have ne : p ≠ p2 := fun z => by rw [z, n2] at hp; cases hp
    refine ⟨p, p2, xs, ys, rfl, rfl, by rw [upd_ne ne]; exact hp, upd_same, by rw [sizeLine_eq]; omega, fun p3 n3 => ?_⟩
    exact q p3 _ ((Ex.new n2).trans (Ex.new n3)) (upd_back n3) upd_same⟩⟩
section
variable {P : Program} {w : World} {K : PySem.W.Frag} {mg : Str → Option Value} {base : Heap} {f : Addr} {fd : FuncData} {k : Nat} {c0 c1 c2 c3 c4 c5 c6 c7 c8 c9 ce : Addr}
theorem sc_classes : FnScope ["error", "found"] ["error"] (defScope s_classes) := ⟨rfl, rfl, rfl, by decide +kernel, rfl, by decide +kernel, by decide +kernel⟩
theorem pe_isC {X : Cx} {x : Str} {E : Addr} {a : Expr} {ta : TE} {p pos pos2 : Pos} (h : PE X a ta) (hg : Gl X "isinstance") (hm : X.mg "isinstance" = none) (hgT : Gl X x) (hmT : X.mg x = some (.ref E)) (hdb : (x == ("__debug__" : Str)) = false)
    (hs : starEach [a, .Name x pos2] X.env = (false, eval a X.env) :: starEach [.Name x pos2] X.env := by rfl) (hs2 : starEach [.Name x pos2] X.env = (false, eval (.Name x pos2) X.env) :: starEach [] X.env := by rfl) :
    PE X (.Call (.Name "isinstance" p) [a, .Name x pos2] [] pos) (tCB (rIsX X.K) (tCons ta (tCons (tC (.ref E)) tNil))) :=
  pe_callB call_isX hg hm PyProof.Rows.boot_isinstance (pa_cons h (pa_cons (pe_glob hgT hmT rfl hdb) pa_nil hs2) hs) (he := hs)
theorem ok_classes (F : Fun K "_law_classes" "_law_classes" s_classes f fd) (M : Bl mg) (T : CT P w K mg base k c0 c1 c2 c3 c4 c5 c6 c7 c8 c9 ce) : FnOk P w K mg base CX0 1 f fd ["error"] (spCls K [c0, c1, c2, c3, c4, c5, c6, c7, c8, c9]) := by
  refine F.ok sc_classes (by rintro vs H Q E ⟨a, D, b, rfl, _⟩; rfl) (fun cdv A outer s H vs Q E hr h => ?_)
  obtain ⟨a, D, b, rfl, e, X, hb, q⟩ := h
  have nd := sc_classes.nd
  refine ⟨_, pss_cons (ps_set (i := 1) nd rfl (Or.inl rfl) (pe_lst (pa_cons (pe_isC (pv 0) (by rfl) M.isi (by rfl) T.m0.gm (by decide)) (pa_cons (pe_isC (pv 0) (by rfl) M.isi (by rfl) T.m1.gm (by decide)) (pa_cons (pe_isC (pv 0) (by rfl) M.isi (by rfl) T.m2.gm (by decide)) pa_nil)))))
    (pss_cons (ps_set (i := 1) nd rfl (Or.inl rfl) (pe_op op_cat (pv 1) (pe_lst (pa_cons (pe_isC (pv 0) (by rfl) M.isi (by rfl) T.m3.gm (by decide)) (pa_cons (pe_isC (pv 0) (by rfl) M.isi (by rfl) T.m4.gm (by decide)) pa_nil)))))
    (pss_cons (ps_set (i := 1) nd rfl (Or.inl rfl) (pe_op op_cat (pv 1) (pe_lst (pa_cons (pe_isC (pv 0) (by rfl) M.isi (by rfl) T.m5.gm (by decide)) (pa_cons (pe_isC (pv 0) (by rfl) M.isi (by rfl) T.m6.gm (by decide)) pa_nil)))))
    (pss_cons (ps_set (i := 1) nd rfl (Or.inl rfl) (pe_op op_cat (pv 1) (pe_lst (pa_cons (pe_isC (pv 0) (by rfl) M.isi (by rfl) T.m7.gm (by decide)) (pa_cons (pe_isC (pv 0) (by rfl) M.isi (by rfl) T.m8.gm (by decide)) pa_nil)))))
    (pss_one (ps_ret (pe_op op_cat (pv 1) (pe_lst (pa_cons (pe_isC (pv 0) (by rfl) M.isi (by rfl) T.g9 (by decide)) pa_nil)))))))), ?_⟩
  refine seq_set ?_
  refine isI rfl e X (hb 0 c0 rfl) (isI rfl e X (hb 1 c1 rfl) (isI rfl e X (hb 2 c2 rfl) ⟨by rw [sizeLine_eq]; show 3 ≤ 16777216; decide, fun p1 n1 => ?_⟩))
  have x1 : Ex H (upd H p1 (.lst [.bl (b 0), .bl (b 1), .bl (b 2)])) := Ex.new n1
  refine seq_set ?_
  refine cat_step (p := p1) (xs := [.bl (b 0), .bl (b 1), .bl (b 2)]) (ys := [.bl (b 3), .bl (b 4)]) rfl upd_same (by show 5 ≤ 1000; decide) (fun R r => isI rfl (e.ex x1) X (hb 3 c3 rfl) (isI rfl (e.ex x1) X (hb 4 c4 rfl) r)) (fun p2 H2 x2 n2 h2 => ?_)
  have x2 := x1.trans x2
  refine seq_set ?_
  refine cat_step (p := p2) (ys := [.bl (b 5), .bl (b 6)]) rfl h2 (by show 7 ≤ 1000; decide) (fun R r => isI rfl (e.ex x2) X (hb 5 c5 rfl) (isI rfl (e.ex x2) X (hb 6 c6 rfl) r)) (fun p3 H3 x3 n3 h3 => ?_)
  have x3 := x2.trans x3
  refine seq_set ?_
  refine cat_step (p := p3) (ys := [.bl (b 7), .bl (b 8)]) rfl h3 (by show 9 ≤ 1000; decide) (fun R r => isI rfl (e.ex x3) X (hb 7 c7 rfl) (isI rfl (e.ex x3) X (hb 8 c8 rfl) r)) (fun p4 H4 x4 n4 h4 => ?_)
  have x4 := x3.trans x4
  refine ret_of ?_
  refine cat_step (p := p4) (ys := [.bl (b 9)]) rfl h4 (by show 10 ≤ 1000; decide) (fun R r => isI rfl (e.ex x4) X (hb 9 c9 rfl) r) (fun p5 H5 x5 n5 h5 => ?_)
  exact q p5 H5 (x4.trans x5) (Evl.fresh_back x4 n5) h5
/-- errors made, one behind another, from the value in slot 0 -/
def MkA (ta : TA) (σ : L2.St) (Ds : List Addr) (y : V) : Prop := ∀ H (Q : List V → Hp → Prop), (∀ as H', Ex H H' → Paired (fun a D => ErrV H' a D y) as Ds → Q (as.map V.ref) H') → ta σ H Q
theorem mkA_nil {σ : L2.St} {y : V} : MkA tNil σ [] y := fun H Q q => q [] H (Ex.refl H) .nil
theorem mkA_cons {te : TE} {tr : TA} {σ : L2.St} {D : Addr} {Ds : List Addr} {y : V} (h : ∀ H (Q : VK), (∀ a H', Ex H H' → ErrV H' a D y → Q (.ref a) H') → te σ H Q) (hr : MkA tr σ Ds y) : MkA (tCons te tr) σ (D :: Ds) y := fun H Q q =>
  h H _ fun a H1 x1 e1 => hr H1 _ fun as H2 x2 r2 => q (a :: as) H2 (x1.trans x2) (.cons (e1.ex x2) r2)
theorem mk1 {σ : L2.St} {D : Addr} {y : V} {i : Nat} (hσ : σ[i]? = some (some y)) : ∀ H (Q : VK), (∀ a H', Ex H H' → ErrV H' a D y → Q (.ref a) H') → tMk1 D (tCons (tVar i) tNil) σ H Q := fun H Q q => ⟨y, hσ, y, rfl, mk_step q⟩
theorem mk0 {σ : L2.St} {D : Addr} : ∀ H (Q : VK), (∀ a H', Ex H H' → ErrV H' a D .non → Q (.ref a) H') → tMk0 D σ H Q := fun H Q q => mk_step q
theorem mk_lst {ta : TA} {σ : L2.St} {Ds : List Addr} {y : V} {H : Hp} {Q : VK} (h : MkA ta σ Ds y) (hl : Ds.length ≤ 1000) (q : ∀ p as H', Ex H H' → H p = none → H' p = some (.lst (as.map V.ref)) → Paired (fun a D => ErrV H' a D y) as Ds → Q (.ref p) H') : tLst ta σ H Q :=
  h H _ fun as H1 x1 r1 => ⟨by rw [List.length_map, r1.length, sizeLine_eq]; omega, fun p n => q p as _ (x1.trans (Ex.new n)) (Evl.fresh_back x1 n) upd_same (paired_ex (Ex.new n) r1)⟩
/-- found + [..] of errors -/
theorem mk_cat {ta : TA} {σ : L2.St} {Ds Es : List Addr} {as : List Addr} {y : V} {H : Hp} {i : Nat} {p : Addr} {Q : VK} (h1 : σ[i]? = some (some (.ref p))) (hp : H p = some (.lst (as.map V.ref))) (r : Paired (fun a D => ErrV H a D y) as Ds) (h : MkA ta σ Es y) (hl : Ds.length + Es.length ≤ 1000)
    (q : ∀ p' bs H', Ex H H' → H p' = none → H' p' = some (.lst (bs.map V.ref)) → Paired (fun a D => ErrV H' a D y) bs (Ds ++ Es) → Q (.ref p') H') : tOp rCat (tVar i) (tLst ta) σ H Q :=
  ⟨_, h1, mk_lst h (by omega) fun p2 bs H2 x2 n2 h2 r2 => by
    refine ⟨p, p2, _, _, rfl, rfl, x2 _ _ hp, h2, by rw [List.length_map, List.length_map, r.length, r2.length, sizeLine_eq]; omega, fun p3 n3 => ?_⟩
    exact q p3 (as ++ bs) _ (x2.trans (Ex.new n3)) (Evl.fresh_back x2 n3) (by rw [upd_same, List.map_append]) (paired_ex (Ex.new n3) (paired_app (paired_ex x2 r) r2))⟩
theorem sc_made : FnScope ["thing", "found"] ["thing"] (defScope s_made) := ⟨rfl, rfl, rfl, by decide +kernel, rfl, by decide +kernel, by decide +kernel⟩
theorem ok_made (F : Fun K "_law_made" "_law_made" s_made f fd) (T : CT P w K mg base k c0 c1 c2 c3 c4 c5 c6 c7 c8 c9 ce) : FnOk P w K mg base CX0 (k + 2) f fd ["thing"] (spMade [c0, c1, c2, c3, c4, c5, c6, c7, c8]) := by
  refine F.ok sc_made (by rintro vs H Q E ⟨y, rfl, _⟩; rfl) (fun cdv A outer s H vs Q E hr h => ?_)
  obtain ⟨y, rfl, q⟩ := h
  have nd := sc_made.nd
  refine ⟨_, pss_cons (ps_set (i := 1) nd rfl (Or.inl rfl) (pe_lst (pa_cons (pe_mk1 T.m0 hr (by rfl) (pa_cons (pv 0) pa_nil)) (pa_cons (pe_mk1 T.m1 hr (by rfl) (pa_cons (pv 0) pa_nil)) (pa_cons (pe_mk1 T.m2 hr (by rfl) (pa_cons (pv 0) pa_nil)) (pa_cons (pe_mk1 T.m3 hr (by rfl) (pa_cons (pv 0) pa_nil)) (pa_cons (pe_mk1 T.m4 hr (by rfl) (pa_cons (pv 0) pa_nil)) pa_nil)))))))
    (pss_one (ps_ret (pe_op op_cat (pv 1) (pe_lst (pa_cons (pe_mk1 T.m5 hr (by rfl) (pa_cons (pv 0) pa_nil)) (pa_cons (pe_mk1 T.m6 hr (by rfl) (pa_cons (pv 0) pa_nil)) (pa_cons (pe_mk1 T.m7 hr (by rfl) (pa_cons (pv 0) pa_nil)) (pa_cons (pe_mk1 T.m8 hr (by rfl) (pa_cons (pv 0) pa_nil)) pa_nil)))))))), ?_⟩
  refine seq_set ?_
  refine mk_lst (Ds := [c0, c1, c2, c3, c4]) (y := y) (mkA_cons (mk1 (by rfl)) (mkA_cons (mk1 (by rfl)) (mkA_cons (mk1 (by rfl)) (mkA_cons (mk1 (by rfl)) (mkA_cons (mk1 (by rfl)) mkA_nil))))) (by show 5 ≤ 1000; decide) fun p as H1 x1 n1 h1 r1 => ?_
  refine ret_of ?_
  refine mk_cat (p := p) (Es := [c5, c6, c7, c8]) rfl h1 r1 (mkA_cons (mk1 (by rfl)) (mkA_cons (mk1 (by rfl)) (mkA_cons (mk1 (by rfl)) (mkA_cons (mk1 (by rfl)) mkA_nil)))) (by show 9 ≤ 1000; decide) fun p2 bs H2 x2 n2 h2 r2 => ?_
  exact q p2 bs H2 (x1.trans x2) (Evl.fresh_back x1 n2) h2 r2
theorem sc_by_name : FnScope ["thing", "found"] ["thing"] (defScope s_by_name) := ⟨rfl, rfl, rfl, by decide +kernel, rfl, by decide +kernel, by decide +kernel⟩
theorem ok_by_name (F : Fun K "_law_by_name" "_law_by_name" s_by_name f fd) (T : CT P w K mg base k c0 c1 c2 c3 c4 c5 c6 c7 c8 c9 ce) : FnOk P w K mg base CX0 (k + 2) f fd ["thing"] (spMade [c0, c1, c2, c3, c4, c5, c6, c7, c8]) := by
  refine F.ok sc_by_name (by rintro vs H Q E ⟨y, rfl, _⟩; rfl) (fun cdv A outer s H vs Q E hr h => ?_)
  obtain ⟨y, rfl, q⟩ := h
  have nd := sc_by_name.nd
  refine ⟨_, pss_cons (ps_set (i := 1) nd rfl (Or.inl rfl) (pe_lst (pa_cons (pe_mkk T.m0 hr (by rfl) (pk_cons (pv 0) pk_nil)) (pa_cons (pe_mkk T.m1 hr (by rfl) (pk_cons (pv 0) pk_nil)) (pa_cons (pe_mkk T.m2 hr (by rfl) (pk_cons (pv 0) pk_nil)) pa_nil)))))
    (pss_cons (ps_set (i := 1) nd rfl (Or.inl rfl) (pe_op op_cat (pv 1) (pe_lst (pa_cons (pe_mkk T.m3 hr (by rfl) (pk_cons (pv 0) pk_nil)) (pa_cons (pe_mkk T.m4 hr (by rfl) (pk_cons (pv 0) pk_nil)) (pa_cons (pe_mkk T.m5 hr (by rfl) (pk_cons (pv 0) pk_nil)) pa_nil))))))
    (pss_one (ps_ret (pe_op op_cat (pv 1) (pe_lst (pa_cons (pe_mkk T.m6 hr (by rfl) (pk_cons (pv 0) pk_nil)) (pa_cons (pe_mkk T.m7 hr (by rfl) (pk_cons (pv 0) pk_nil)) (pa_cons (pe_mkk T.m8 hr (by rfl) (pk_cons (pv 0) pk_nil)) pa_nil)))))))), ?_⟩
  refine seq_set ?_
  refine mk_lst (Ds := [c0, c1, c2]) (y := y) (mkA_cons (mk1 (by rfl)) (mkA_cons (mk1 (by rfl)) (mkA_cons (mk1 (by rfl)) mkA_nil))) (by show 3 ≤ 1000; decide) fun p as H1 x1 n1 h1 r1 => ?_
  refine seq_set ?_
  refine mk_cat (p := p) (Es := [c3, c4, c5]) rfl h1 r1 (mkA_cons (mk1 (by rfl)) (mkA_cons (mk1 (by rfl)) (mkA_cons (mk1 (by rfl)) mkA_nil))) (by show 6 ≤ 1000; decide) fun p2 bs H2 x2 n2 h2 r2 => ?_
  refine ret_of ?_
  refine mk_cat (p := p2) (Es := [c6, c7, c8]) rfl h2 r2 (mkA_cons (mk1 (by rfl)) (mkA_cons (mk1 (by rfl)) (mkA_cons (mk1 (by rfl)) mkA_nil))) (by show 9 ≤ 1000; decide) fun p3 cs H3 x3 n3 h3 r3 => ?_
  exact q p3 cs H3 (x1.trans (x2.trans x3)) (Evl.fresh_back x1 (Evl.fresh_back x2 n3)) h3 r3
end
end KX
namespace KX
open PySem PySem.Spec PyProof.Rows L2 FC FP
open Evl (Ex)
/-- the promise of _law_placed -/
def spPlaced (Cs : List Addr) : Sp := fun vs H Q _ => ∃ (l : Addr) (as : List Addr), vs = [.ref l] ∧ H l = some (.lst (as.map V.ref)) ∧ Paired (fun a D => ErrAt H a D) as Cs ∧ ∀ H', Ex H H' → Q (.bl true) H'
theorem paired_get {α β : Type} {R : α → β → Prop} : ∀ {as : List α} {bs : List β} {i : Nat} {a : α}, Paired R as bs → as[i]? = some a → ∃ b, bs[i]? = some b ∧ R a b
  | _, _, _, _, .nil, h => by simp at h
  | _, _, 0, _, .cons r _, h => by
    simp at h
    subst h
    exact ⟨_, rfl, r⟩
  | _, _, i + 1, _, .cons _ t, h => by
    obtain ⟨b, h1, h2⟩ := paired_get (i := i) t (by simpa using h)
    exact ⟨b, by simpa using h1, h2⟩
def bitsAt (i : Nat) : List PyData := (List.range 10).map fun j => .bool (decide (j = i))
theorem bits_shaped (i : Nat) : SeqAt.shaped (.list (bitsAt i)) = true := by
  unfold bitsAt
  rw [show List.range 10 = [0, 1, 2, 3, 4, 5, 6, 7, 8, 9] from rfl]
  simp only [List.map_cons, List.map_nil]
  generalize decide (0 = i) = b0
  generalize decide (1 = i) = b1
  generalize decide (2 = i) = b2
  generalize decide (3 = i) = b3
  generalize decide (4 = i) = b4
  generalize decide (5 = i) = b5
  generalize decide (6 = i) = b6
  generalize decide (7 = i) = b7
  generalize decide (8 = i) = b8
  generalize decide (9 = i) = b9
  rfl
theorem dps_bools {K : PySem.W.Frag} {H : Hp} : ∀ (bs : List Bool), DpAll K H (bs.map V.bl) (bs.map PyData.bool)
  | [] => .nil
  | b :: bs => .cons (.bl b) (dps_bools bs)
section
variable {P : Program} {w : World} {K : PySem.W.Frag} {mg : Str → Option Value} {base : Heap} {f : Addr} {fd : FuncData} {k : Nat} {c0 c1 c2 c3 c4 c5 c6 c7 c8 c9 ce : Addr}
theorem sc_placed : FnScope ["errors", "at", "error", "spot"] ["errors"] (defScope s_placed) := ⟨rfl, rfl, rfl, by decide +kernel, rfl, by decide +kernel, by decide +kernel⟩
theorem de_bits {i : Nat} {G : List (Option PyData)} (hG : G = [none, some (.int (i : Nat)), none, none]) :
    DE K (tLc (iRng1 (tCons (tC (.int 10)) tNil)) (gName 3) tYes (tEqI (tVar 3) (tVar 1)) [3]) G (.list (bitsAt i)) := by
  subst hG
  refine de_is (de_lc (fun _ => true) (fun j => .bool (decide (j = i))) (di_range (da_cons de_int da_nil) (by decide) (by decide)) (fun j hj => hj) (fun _ _ => dt_yes) (fun j hj _ => ?_) (fun _ _ _ => rfl) (by decide)) rfl
  show DE K _ [none, some (.int (i : Nat)), none, some (.int (j : Nat))] _
  intro σ B H x en Q q
  obtain ⟨v, h1, r1⟩ := en.get 3 _ rfl
  obtain ⟨u, h2, r2⟩ := en.get 1 _ rfl
  obtain rfl := rt_int r1
  obtain rfl := rt_int r2
  refine ⟨_, h1, _, h2, j, i, rfl, rfl, ?_⟩
  have e : decide (((j : Nat) : Int) = ((i : Nat) : Int)) = decide (j = i) := by
    by_cases hji : j = i
    · simp [hji]
    · rw [decide_eq_false hji, decide_eq_false (fun z => hji (by omega))]
  show Q (.bl (decide (((j : Nat) : Int) = ((i : Nat) : Int)))) H
  rw [e]
  exact q _ B H (.refl x) (.d (.bl _))
theorem ok_placed (F : Fun K "_law_placed" "_law_placed" s_placed f fd) (M : Bl mg) (hve : mg "ValueError" = none) (T : CT P w K mg base k c0 c1 c2 c3 c4 c5 c6 c7 c8 c9 ce) (cc : Cl P w K mg base 1 "_law_classes" (spCls K [c0, c1, c2, c3, c4, c5, c6, c7, c8, c9])) : FnOk P w K mg base CX0 2 f fd ["errors"] (spPlaced [c0, c1, c2, c3, c4, c5, c6, c7, c8, c9]) := by
  refine F.ok sc_placed (by rintro vs H Q E ⟨l, as, rfl, _⟩; rfl) (fun cdv A outer s H vs Q E hr h => ?_)
  obtain ⟨l, as, rfl, hl, rr, q⟩ := h
  have nd := sc_placed.nd
  have hu64 : (A.deeper (envOfC "_law_placed" (defScope s_placed) s.heap.objs.size f cdv)).units + 64 < cLine := by have := hr.un; omega
  refine ⟨_, pss_cons (ps_for PassesOwn.never rfl (pi_enum (by rfl) M.enum (pa_cons (pv 0) pa_nil)) (pg_tup rfl (pgs_cons (pg_name (i := 1) nd rfl (.inr rfl)) (pgs_cons (pg_name (i := 2) nd rfl (.inl rfl)) pgs_nil)))
      (pss_cons (ps_if (pw_or (pt_not (pt_val (pe_isC (pv 2) (by rfl) M.isi (by rfl) T.ge (by decide)))) (pw_or1 (pt_not (pt_val (pe_callB call_isX (by rfl) M.isi PyProof.Rows.boot_isinstance (pa_cons (pv 2) (pa_cons (pe_bltn (v := .ty "ValueError") (by rfl) hve PyProof.Rows.Boot.«ValueError» rfl) pa_nil))))))).pt pss_never pss_nil)
      (pss_one (ps_if (pt_cmpR (op_neD hu64) (pe_cl cc hr (by decide) (by rfl) (pa_cons (pv 2) pa_nil))
        (pe_lc (own := [("spot", 3)]) (g := gName 3) (tt := tYes) rfl nd (pi_range1 (by rfl) M.range (pa_cons pe_int pa_nil)) (blkOk_by (N := ["errors", "at", "error", "spot"]) (sc := defScope s_placed) (by decide +kernel)) (fun _ _ _ _ _ => pg_name (i := 3) nd rfl (Or.inl rfl)) (fun _ _ _ _ _ => pts_nil)
          (fun _ _ _ _ _ => pe_cmp (pc_eqI (pv 3) (pv 1)))) (nomark _)) pss_never pss_nil))))
    (pss_one (ps_ret pe_bl)), ?_⟩
  have hlen : as.length = 10 := rr.length
  refine show tSeq (tFor _ _ _) (tRet (tC (.bl true))) _ _ H from ?_
  refine ⟨_, rfl, l, _, rfl, .inl (.inl hl), ?_⟩
  refine for_it (walk_enum (K := K) (a := l) (xs := as.map V.ref)) (fun i σ H' => ∃ x1 x2 x3, σ = [some (.ref l), x1, x2, x3] ∧ Ex H H') ⟨_, _, _, rfl, Ex.refl H⟩ (fun i σ H' _ ⟨_, _, _, _, x⟩ => .inl (.inl (x _ _ hl))) (fun i y σ H1 H2 hi ⟨x1, x2, x3, hσ, xx⟩ hy => ?_) (fun σ H' ⟨_, _, _, _, x⟩ => q H' x)
  rw [List.length_map, hlen] at hi
  obtain ⟨t, y1, y2, rfl, ht, rfl, e1, e2⟩ := hy
  cases e1
  subst hσ
  have e2 : (as.map V.ref)[i]? = some y2 := e2
  rw [List.getElem?_map] at e2
  obtain ⟨a, ea, rfl⟩ := Option.map_eq_some_iff.mp e2
  obtain ⟨D, hD, eD⟩ : ∃ D, [c0, c1, c2, c3, c4, c5, c6, c7, c8, c9][i]? = some D ∧ ErrAt H a D := paired_get rr ea
  have hm : D ∈ [c0, c1, c2, c3, c4, c5, c6, c7, c8, c9, ce] := List.mem_append_left [ce] (List.mem_of_getElem? hD)
  have X2 : Ex H (upd H1 t (.tup [.int (i : Nat), .ref a])) := xx.trans (Ex.new ht)
  refine ⟨t, _, rfl, .inl (.inl upd_same), rfl, _, _, rfl, _, _, rfl, rfl, ?_⟩
  refine isI rfl (eD.ex X2) (T.xs D hm) (T.kie D hm) ⟨true, rfl, ?_⟩
  show (if (!true) = true then _ else _)
  rw [if_neg (by decide)]
  refine ⟨_, rfl, a, D, _, .type "ValueError", true, rfl, eD.ex X2, T.xs D hm, fun u r => r, T.kiv D hm, true, rfl, ?_⟩
  show (if (!true) = true then _ else _)
  rw [if_neg (by decide)]
  refine ⟨_, rfl, a, D, fun j => decide (j = i), rfl, eD.ex X2, T.xs D hm, fun j E hE => T.kit i j D E hD hE, fun p H3 xe3 n3 h3 => ?_⟩
  have hG : En K H3 [some (.ref l), some (.int (i : Nat)), some (.ref a), x3] [none, some (.int (i : Nat)), none, none] := by
    refine ⟨rfl, fun j d hj => ?_⟩
    match j, hj with
    | 1, hj =>
      cases hj
      exact ⟨_, rfl, .d (.int _)⟩
    | 0, hj => cases hj
    | 2, hj => cases hj
    | 3, hj => cases hj
    | j + 4, hj => simp at hj
  refine de_bits rfl _ H3 H3 (Ex.refl H3) hG _ fun v B' H' g r => ?_
  have hb1 : (List.range 10).map (fun j => V.bl (decide (j = i))) = ((List.range 10).map fun j => decide (j = i)).map V.bl := by rw [List.map_map]; rfl
  have hb2 : bitsAt i = ((List.range 10).map fun j => decide (j = i)).map PyData.bool := by unfold bitsAt; rw [List.map_map]; rfl
  have dp : Dp K H' (.ref p) (.list (bitsAt i)) := by
    rw [hb2]
    exact .lst (.inl (.inl (g.eh _ _ (by rw [h3, hb1])))) (dps_bools _)
  refine ⟨_, _, dp, dp_ex g.sub _ _ (r.dp rfl), bits_shaped i, bits_shaped i, false, ?_, ?_⟩
  · rw [SeqAt.eqv_refl _ (SeqAt.canLay_of_shaped (bits_shaped i))]
    rfl
  · exact ⟨_, _, _, rfl, X2.trans (xe3.trans g.eh)⟩
end
end KX
/-! repr of a list of one thing many times, where nothing is guarded around. -/
namespace KX
open PySem PySem.Spec PyProof.Rows L2 FC FP
open Evl (Ex)
/-- the thing v stands for d: data, or a dict of at most one pair -/
inductive Tv (K : PySem.W.Frag) (H : Hp) (v : V) : PyData → Prop where
  | d {d : PyData} (h : Dp K H v d) (n : d.hasDict = false) : Tv K H v d
  | e {a : Addr} (e : v = .ref a) (h : H a = some (.dK [])) : Tv K H v (.dict [])
  | p {a : Addr} {x : Str} {m : Int} (e : v = .ref a) (h : H a = some (.dK [(.inr x, .int m)])) : Tv K H v (.dict [(.str x, .int m)])
theorem Tv.ex {K : PySem.W.Frag} {H H' : Hp} {v : V} {d : PyData} (t : Tv K H v d) (x : Ex H H') : Tv K H' v d := by
  cases t with
  | d h n => exact .d (dp_ex x _ _ h) n
  | e e h => exact .e e (x _ _ h)
  | p e h => exact .p e (x _ _ h)
structure Small (d : PyData) : Prop where
  sh : d.showable = true
  dp : d.depth ≤ 20
  ln : d.shown.length ≤ 20000
section
variable {X : Cx} {pins : List (Addr × Obj)} {σ : L2.St} {H : Hp} {s : Shared}
theorem tv_reads (I : Inv X pins σ H s) {v : V} {u : Value} {d : PyData} (h : Tv X.K H v d) (r : RelV v u) : ∃ as, Reads s.heap u d as ∧ (d.hasDict = true → sysModules ∉ as) := by
  cases h with
  | d h n =>
    obtain ⟨as, q⟩ := Dp.reads I d v u h r
    exact ⟨as, q, fun z => by rw [n] at z; cases z⟩
  | @e a e h =>
    subst e
    obtain rfl : u = Value.ref a := r
    obtain ⟨_, hsm, vs, kv, o, es, ep, h1, h2, h3, h4, h5, h6⟩ := (show ObjOk X.prog X.w H s.heap a (.dK []) from I.hok a _ h)
    cases kv
    have he : es.toList = [] := by
      cases hes : es.toList with
      | nil => rfl
      | cons x l => rw [hes] at h5; cases h5
    refine ⟨_, .dict (as := []) (bs := []) h1 h2.1 h3 ?_ ?_, fun _ z => ?_⟩
    · rw [he]; exact .nil
    · rw [he]; exact .nil
    · rw [List.append_nil, List.mem_singleton] at z
      rw [z] at hsm
      simp at hsm
  | @p a x m e h =>
    subst e
    obtain rfl : u = Value.ref a := r
    obtain ⟨_, hsm, vs, kv, o, es, ep, h1, h2, h3, h4, h5, h6⟩ := (show ObjOk X.prog X.w H s.heap a (.dK [(.inr x, .int m)]) from I.hok a _ h)
    cases kv with
    | @cons _ kv0 _ kvr r0 rr =>
    cases rr
    obtain ⟨k0, v0⟩ := kv0
    obtain ⟨rfl, rv⟩ := r0
    obtain ⟨t, rfl⟩ := (show ∃ t, v0 = Value.int m t from rv)
    obtain ⟨en, he, hk, hv⟩ : ∃ en, es.toList = [en] ∧ (∃ t, en.key = Value.str x t) ∧ en.val = .int m t := by
      cases hes : es.toList with
      | nil => rw [hes] at h5; cases h5
      | cons en l =>
        rw [hes] at h5
        cases h5 with
        | cons a1 a2 a3 =>
          cases a3
          refine ⟨en, rfl, ?_, a2⟩
          rcases keyIs_shape (show keyIs (.inr x) en.key = true from a1) with ⟨i, t, z, _⟩ | ⟨y, t, z, e2⟩
          · cases z
          · cases z
            exact ⟨t, e2⟩
    obtain ⟨t', hk⟩ := hk
    refine ⟨_, .dict (as := []) (bs := []) h1 h2.1 h3 ?_ ?_, fun _ z => ?_⟩
    · rw [he]
      show ReadsAll _ [en.key] [.str x] _
      rw [hk]
      exact .cons (.str _ _) .nil
    · rw [he]
      show ReadsAll _ [en.val] [.int m] _
      rw [hv]
      exact .cons (.int _ _) .nil
    · rw [List.append_nil, List.mem_singleton] at z
      rw [z] at hsm
      simp at hsm
theorem tv_readsAll (I : Inv X pins σ H s) {d : PyData} : ∀ {vs : List V} {us : List Value}, (∀ v ∈ vs, Tv X.K H v d) → Vals vs us → ∃ as, ReadsAll s.heap us (vs.map fun _ => d) as ∧ (d.hasDict = true → sysModules ∉ as)
  | _, _, _, .nil => ⟨[], .nil, fun _ z => nomatch z⟩
  | _, _, h, .cons r t => by
    obtain ⟨as, q1, n1⟩ := tv_reads I (h _ (List.mem_cons_self ..)) r
    obtain ⟨bs, q2, n2⟩ := tv_readsAll I (fun v hv => h v (List.mem_cons_of_mem _ hv)) t
    exact ⟨as ++ bs, .cons q1 q2, fun hd z => (List.mem_append.mp z).elim (n1 hd) (n2 hd)⟩
theorem showableAll_map {d : PyData} (h : d.showable = true) : ∀ vs : List V, PyData.showableAll (vs.map fun _ => d) = true
  | [] => rfl
  | _ :: vs => by simp [PyData.showableAll, h, showableAll_map h vs]
theorem hasDictAll_map {d : PyData} : ∀ vs : List V, PyData.hasDictAll (vs.map fun _ => d) = true → d.hasDict = true
  | [], h => by cases h
  | _ :: vs, h => by
    simp only [List.map_cons, PyData.hasDictAll, Bool.or_eq_true] at h
    exact h.elim id (hasDictAll_map vs)
theorem depthAll_map {d : PyData} : ∀ vs : List V, PyData.depthAll (vs.map fun _ => d) ≤ d.depth
  | [] => Nat.zero_le _
  | _ :: vs => by
    simp only [List.map_cons, PyData.depthAll]
    exact Nat.max_le.mpr ⟨Nat.le_refl _, depthAll_map vs⟩
theorem shownAll_sum {d : PyData} (h : d.shown.length ≤ 20000) : ∀ vs : List V, (((PyData.shownAll (vs.map fun _ => d)).map (·.length)).sum ≤ 20000 * vs.length) ∧ (PyData.shownAll (vs.map fun _ => d)).length = vs.length
  | [] => ⟨Nat.le_refl _, rfl⟩
  | _ :: vs => by
    obtain ⟨h1, h2⟩ := shownAll_sum h vs
    simp only [List.map_cons, PyData.shownAll, List.sum_cons, List.length_cons]
    omega
/-- what repr gives of a list of n things d -/
def repOf (d : PyData) (vs : List V) : Str := (PyData.list (vs.map fun _ => d)).shown
def rReprX (K : PySem.W.Frag) : List V → Hp → VK → Prop := fun xs H Q => ∃ (p : Addr) (vs : List V) (d : PyData), xs = [.ref p] ∧ H p = some (.lst vs) ∧ 0 < vs.length ∧ vs.length ≤ 100 ∧ (∀ v ∈ vs, Tv K H v d) ∧ Small d ∧ Q (.str (repOf d vs)) H
theorem call_reprX (hg : X.A.guards = some []) (hu : X.A.units + 64 < cLine) : CallR X (.builtin "repr") (rReprX X.K) := by
  intro pins s σ H xs us Q I r h
  obtain ⟨p, vs, d, rfl, hp, hl0, hl, ht, sm, q⟩ := h
  cases r with
  | cons rx rr =>
    cases rr
    cases rx
    obtain ⟨_, its, n, rv, ho⟩ := (show ObjOk X.prog X.w H s.heap p (.lst vs) from I.hok p _ hp)
    obtain ⟨as, ra, na⟩ := tv_readsAll I ht rv
    have rd : Reads s.heap (.ref p) (.list (vs.map fun _ => d)) (p :: as) := .list ho rfl rfl (by simpa using ra)
    obtain ⟨hs1, hs2⟩ := shownAll_sum sm.ln vs
    have hz : (listText (PyData.shownAll (vs.map fun _ => d))).length ≤ sizeLine := by
      have h3 := listText_len_le (PyData.shownAll (vs.map fun _ => d))
      rw [hs2] at h3
      rw [sizeLine_eq]
      omega
    have hdp : PyData.depthAll (vs.map fun _ => d) ≤ d.depth := depthAll_map vs
    have hd := sm.dp
    obtain ⟨bs, hb, hk⟩ := ReprAllK.of_readsAll (prog := X.prog) (w := X.w) ra (showableAll_map sm.sh vs) (fun hx hm => na (hasDictAll_map vs hx) hm) (fun t ht => Nat.le_trans (listText_mem_le ht) hz)
    have hna : p ∉ bs := not_mem_of_deeper rd (by simp only [PyData.depth]; omega) hb
    cases its with
    | nil =>
      have z := rv.length
      rw [List.length_nil] at z
      omega
    | cons x l =>
      refine call_repr_slot (idr := "list.__repr__") (T := "list") (by omega) ⟨_, ho, rfl⟩ F.slot_list_repr.toG (call_list_reprK (x := x) (l := l) ho rfl rfl hna (by simpa using hk.length_eq) (fun i y e => hk.item i y (by simpa using e)) hg (fun b _ => Clear.nil b) ?_ (fun b o e => e) (fun h' u tk k => ⟨_, _, rfl, ?_⟩) hz)
      · show X.A.units + 1 + (_ + 1) < cLine
        omega
      · exact ⟨.str _, H, I.kept (t' := tk) k, ⟨u, rfl⟩, q⟩
end
end KX
/-! The law's things. -/
namespace KX
open PySem PySem.Spec PyProof.Rows L2 FC FP
open Evl (Ex)
def hid (H : Hp) (a : Addr) : Hp := fun b => if b = a then none else H b
theorem hid_ex {H : Hp} {a : Addr} : Ex (hid H a) H := fun b o h => by
  unfold hid at h
  by_cases e : b = a
  · rw [if_pos e] at h; cases h
  · rw [if_neg e] at h; exact h
theorem hid_mono {H H' : Hp} {a : Addr} (x : Ex H H') : Ex (hid H a) (hid H' a) := fun b o h => by
  unfold hid at h ⊢
  by_cases e : b = a
  · rw [if_pos e] at h; cases h
  · rw [if_neg e] at h ⊢; exact x _ _ h
theorem hid_upd {H : Hp} {a : Addr} {o : HO} : hid (upd H a o) a = hid H a := by
  funext b
  unfold hid
  by_cases e : b = a
  · rw [if_pos e, if_pos e]
  · rw [if_neg e, if_neg e, upd_ne e]
/-- a list of ours, its items told without itself -/
def TL (K : PySem.W.Frag) (H : Hp) (a : Addr) (ds : List PyData) : Prop := ∃ xs, H a = some (.lst xs) ∧ DpAll K (hid H a) xs ds ∧ xs.length ≤ 10
theorem TL.ex {K : PySem.W.Frag} {H H' : Hp} {a : Addr} {ds : List PyData} (t : TL K H a ds) (x : Ex H H') : TL K H' a ds := by
  obtain ⟨xs, h1, h2, h3⟩ := t
  exact ⟨xs, x _ _ h1, dps_ex (hid_mono x) _ _ h2, h3⟩
theorem TL.dp {K : PySem.W.Frag} {H : Hp} {a : Addr} {ds : List PyData} (t : TL K H a ds) : Dp K H (.ref a) (.list ds) := by
  obtain ⟨xs, h1, h2, h3⟩ := t
  exact .lst (.inl (.inl h1)) (dps_ex hid_ex _ _ h2)
/-- what _law_thing gives -/
inductive Th (K : PySem.W.Frag) (H : Hp) (v : V) : PyData → Prop where
  | l {a : Addr} {ds : List PyData} (e : v = .ref a) (t : TL K H a ds) (n : PyData.hasDictAll ds = false) (s1 : Small (.list ds)) (s2 : Small (.list (ds ++ [.str "later"]))) : Th K H v (.list ds)
  | n {d : PyData} {T : String} (t : Tv K H v d) (s : Small d) (ty : ∀ H', Ex H H' → TyX K H' v (.type T)) (k : kitB T "list" = some false) : Th K H v d
def spThing (K : PySem.W.Frag) : Sp := fun vs H Q _ => ∃ d t : Int, vs = [.int d, .int t] ∧ 0 ≤ t ∧ t ≤ 1000 ∧ ∀ v dd H', Ex H H' → (∀ a, v = .ref a → H a = none) → Th K H' v dd → Q v H'
/-- z * n -/
def rMulS : R2 := fun x y H Q => ∃ (z : Str) (n : Int), x = .str z ∧ y = .int n ∧ MulOk z n ∧ Q (.str (Txt.mul z n)) H
theorem op_mulS {X : Cx} : OpR X (binaryOp .Mult) rMulS := by
  intro pins s σ H x y v u Q I rx ry h
  obtain ⟨z, n, rfl, rfl, hc, q⟩ := h
  obtain ⟨t, rfl⟩ := rx
  obtain ⟨t2, rfl⟩ := ry
  exact SB.mul hc fun t' k => ⟨.str _, H, I.tok _, ⟨_, rfl⟩, q⟩
def CBig (i j : Int) : Prop := 0 ≤ j ∧ (Builtin.Int.intBits i : Int) * j ≤ 2 ^ 27
theorem big30 : CBig 10 30 := by unfold CBig; decide +kernel
theorem op_powW {X : Cx} : OpR X (binaryOp .Pow) (rI CBig fun i j => .int (i ^ j.toNat)) := opI fun _ _ _ _ _ _ _ hc q => PyProof.Rows.pow_int hc.1 hc.2 q
/-! ### each of the things -/
section
variable {K : PySem.W.Frag} {H : Hp} {m : Int}
theorem int_short (h0 : 0 ≤ m) (h1 : m < 10 ^ 30) (n : Int) (hn : n = m ∨ n = 0 - m) : (PyData.int n).shown.length ≤ 40 ∧ (PyData.int n).showable = true ∧ (PyData.int n).weight ≤ 101 := by
  have e : n.natAbs < 10 ^ 30 := by
    rcases hn with rfl | rfl <;> omega
  have e2 : n.natAbs.log2 < 100 := by
    rcases Nat.eq_zero_or_pos n.natAbs with z | z
    · rw [z]; decide
    · exact (Nat.log2_lt (by omega)).mpr (Nat.lt_of_lt_of_le e (by decide +kernel))
  refine ⟨?_, ?_, ?_⟩
  · have z := int_text_length_le10 (k := 30) (by decide) e
    show (Str.ofString (toString n)).length ≤ 40
    rw [PySem.ofString_length]
    omega
  · show decide (n.natAbs.log2 < 1920) = true
    exact decide_eq_true (by omega)
  · show (if (n == 0) = true then 0 else n.natAbs.log2 + 1) ≤ 101
    split <;> omega
theorem small_of {d : PyData} (h1 : d.showable = true) (h2 : d.leavesShort 40 = true) (h3 : d.depth ≤ 20) (h4 : d.weight ≤ 450) : Small d := ⟨h1, h3, by
  have z := PyData.shown_le 40 (by decide) d h2
  omega⟩
theorem th_non : Th K H .non .none := .n (T := "NoneType") (.d .non rfl) (small_of rfl rfl (by decide) (by decide)) (fun H' x => .base .non) (by decide +kernel)
theorem th_bl (b : Bool) : Th K H (.bl b) (.bool b) := .n (T := "bool") (.d (.bl b) rfl) (small_of rfl rfl (by show 0 ≤ 20; decide) (by show 0 ≤ 450; decide)) (fun H' x => .base (.bl b)) (by decide +kernel)
theorem th_str {z : Str} (h : (PyData.str z).leavesShort 40 = true) (hw : z.cps.size ≤ 450) : Th K H (.str z) (.str z) := .n (T := "str") (.d (.str z) rfl) (small_of rfl h (by show 0 ≤ 20; decide) hw) (fun H' x => .base (.str z)) (by decide +kernel)
theorem th_z {n : Int} (h0 : 0 ≤ n) (h1 : n < 5) : Th K H (.str (Txt.mul "z" n)) (.str (Txt.mul "z" n)) := by
  have e : n = 0 ∨ n = 1 ∨ n = 2 ∨ n = 3 ∨ n = 4 := by omega
  rcases e with e | e | e | e | e <;> subst e <;> exact th_str (by decide +kernel) (by decide +kernel)
theorem th_int (h0 : 0 ≤ m) (h1 : m < 10 ^ 30) (n : Int) (hn : n = m ∨ n = 0 - m) : Th K H (.int n) (.int n) := by
  obtain ⟨a, b, c⟩ := int_short h0 h1 n hn
  exact .n (T := "int") (.d (.int n) rfl) (small_of b (decide_eq_true a) (by show 0 ≤ 20; decide) (by omega)) (fun H' x => .base (.int n)) (by decide +kernel)
theorem th_l0 {a : Addr} (h : H a = some (.lst [])) : Th K H (.ref a) (.list []) := .l rfl ⟨[], h, .nil, by decide⟩ rfl (small_of rfl rfl (by decide) (by decide)) (small_of rfl (by decide +kernel) (by decide) (by decide))
theorem th_t0 {a : Addr} (h : H a = some (.tup [])) : Th K H (.ref a) (.tuple []) := .n (T := "tuple") (.d (.tup (.inl (.inl h)) .nil) rfl) (small_of rfl rfl (by decide) (by decide)) (fun H' x => .base (.tup (x _ _ h))) (by decide +kernel)
theorem th_d0 {a : Addr} (h : H a = some (.dK [])) : Th K H (.ref a) (.dict []) := .n (T := "dict") (.e rfl h) (small_of rfl rfl (by decide) (by decide)) (fun H' x => .base (.dK (x _ _ h))) (by decide +kernel)
theorem th_l1 {a : Addr} (h0 : 0 ≤ m) (h1 : m < 10 ^ 30) (h : H a = some (.lst [.int m])) : Th K H (.ref a) (.list [.int m]) := by
  obtain ⟨x, y, z⟩ := int_short h0 h1 m (.inl rfl)
  have e : decide ((PyData.int m).shown.length ≤ 40) = true := decide_eq_true x
  refine .l rfl ⟨[.int m], h, .cons (.int m) .nil, by show 1 ≤ 10; decide⟩ rfl (small_of ?_ ?_ ?_ ?_) (small_of ?_ ?_ ?_ ?_)
  · show ((PyData.int m).showable && true) = true
    rw [y]; rfl
  · show (decide ((PyData.int m).shown.length ≤ 40) && true) = true
    rw [e]; rfl
  · show 1 ≤ 20
    decide
  · show (PyData.int m).weight + 1 + 0 ≤ 450
    omega
  · show ((PyData.int m).showable && (true && true)) = true
    rw [y]; rfl
  · show (decide ((PyData.int m).shown.length ≤ 40) && ((PyData.str "later").leavesShort 40 && true)) = true
    rw [e]; decide +kernel
  · show 1 ≤ 20
    decide
  · show (PyData.int m).weight + 1 + ((PyData.str "later").weight + 1 + 0) ≤ 450
    have z2 : (PyData.str "later").weight ≤ 10 := by decide +kernel
    omega
theorem th_t2 {a : Addr} (h0 : 0 ≤ m) (h1 : m < 10 ^ 30) (h : H a = some (.tup [.int m, .str "a"])) : Th K H (.ref a) (.tuple [.int m, .str "a"]) := by
  obtain ⟨x, y, z⟩ := int_short h0 h1 m (.inl rfl)
  have e : decide ((PyData.int m).shown.length ≤ 40) = true := decide_eq_true x
  refine .n (T := "tuple") (.d (.tup (.inl (.inl h)) (.cons (.int m) (.cons (.str _) .nil))) rfl) (small_of ?_ ?_ ?_ ?_) (fun H' x => .base (.tup (x _ _ h))) (by decide +kernel)
  · show ((PyData.int m).showable && (true && true)) = true
    rw [y]; rfl
  · show (decide ((PyData.int m).shown.length ≤ 40) && ((PyData.str "a").leavesShort 40 && true)) = true
    rw [e]; decide +kernel
  · show 1 ≤ 20
    decide
  · show (PyData.int m).weight + 1 + ((PyData.str "a").weight + 1 + 0) ≤ 450
    have z2 : (PyData.str "a").weight ≤ 10 := by decide +kernel
    omega
theorem th_d1 {a : Addr} (h0 : 0 ≤ m) (h1 : m < 10 ^ 30) (h : H a = some (.dK [(.inr "a", .int m)])) : Th K H (.ref a) (.dict [(.str "a", .int m)]) := by
  obtain ⟨x, y, z⟩ := int_short h0 h1 m (.inl rfl)
  have e : decide ((PyData.int m).shown.length ≤ 40) = true := decide_eq_true x
  refine .n (T := "dict") (.p rfl h) (small_of ?_ ?_ ?_ ?_) (fun H' x => .base (.dK (x _ _ h))) (by decide +kernel)
  · show ((PyData.str "a").showable && (PyData.int m).showable && true) = true
    rw [y]; rfl
  · show ((PyData.str "a").leavesShort 40 && decide ((PyData.int m).shown.length ≤ 40) && true) = true
    rw [e]; decide +kernel
  · show 1 ≤ 20
    decide
  · show (PyData.str "a").weight + (PyData.int m).weight + 2 + 0 ≤ 450
    have z2 : (PyData.str "a").weight ≤ 10 := by decide +kernel
    omega
theorem th_l2 {a b : Addr} (h0 : 0 ≤ m) (h1 : m < 10 ^ 30) (h7 : H b = some (.lst [.int m])) (h8 : H a = some (.lst [.ref b, .non])) : Th K H (.ref a) (.list [.list [.int m], .none]) := by
  obtain ⟨x, y, z⟩ := int_short h0 h1 m (.inl rfl)
  have e : decide ((PyData.int m).shown.length ≤ 40) = true := decide_eq_true x
  have ne : b ≠ a := fun q => by
    rw [q, h8] at h7
    cases h7
  have hb : hid H a b = some (.lst [.int m]) := by
    unfold hid
    rw [if_neg ne]
    exact h7
  refine .l rfl ⟨[.ref b, .non], h8, .cons (.lst (.inl (.inl hb)) (.cons (.int m) .nil)) (.cons .non .nil), by show 2 ≤ 10; decide⟩ rfl (small_of ?_ ?_ ?_ ?_) (small_of ?_ ?_ ?_ ?_)
  · show (((PyData.int m).showable && true) && (true && true)) = true
    rw [y]; rfl
  · show ((decide ((PyData.int m).shown.length ≤ 40) && true) && (true && true)) = true
    rw [e]; rfl
  · show 2 ≤ 20
    decide
  · show ((PyData.int m).weight + 1 + 0) + 1 + (0 + 1 + 0) ≤ 450
    omega
  · show (((PyData.int m).showable && true) && (true && (true && true))) = true
    rw [y]; rfl
  · show ((decide ((PyData.int m).shown.length ≤ 40) && true) && (true && ((PyData.str "later").leavesShort 40 && true))) = true
    rw [e]; decide +kernel
  · show 2 ≤ 20
    decide
  · show ((PyData.int m).weight + 1 + 0) + 1 + (0 + 1 + ((PyData.str "later").weight + 1 + 0)) ≤ 450
    have z2 : (PyData.str "later").weight ≤ 10 := by decide +kernel
    omega
end
theorem zok {n : Int} (h0 : 0 ≤ n) (h1 : n < 5) : MulOk "z" n := by
  have e : n = 0 ∨ n = 1 ∨ n = 2 ∨ n = 3 ∨ n = 4 := by omega
  rcases e with e | e | e | e | e <;> subst e <;> (unfold MulOk; decide +kernel)
theorem sc_thing : FnScope ["drawn", "at", "many", "values"] ["drawn", "at"] (defScope s_thing) := ⟨rfl, rfl, rfl, by decide +kernel, rfl, by decide +kernel, by decide +kernel⟩
section
variable {P : Program} {w : World} {K : PySem.W.Frag} {mg : Str → Option Value} {base : Heap} {f : Addr} {fd : FuncData}
theorem ok_thing (F : Fun K "_law_thing" "_law_thing" s_thing f fd) (M : Bl mg) : FnOk P w K mg base CX0 1 f fd ["drawn", "at"] (spThing K) := by
  refine F.ok sc_thing (by rintro vs H Q E ⟨d, t, rfl, _⟩; rfl) (fun cdv A outer s H vs Q E hr h => ?_)
  obtain ⟨d, t, rfl, h0, h1, q⟩ := h
  have nd := sc_thing.nd
  refine ⟨_, pss_cons (ps_set (i := 2) nd rfl (Or.inl rfl) (pe_op op_mod (pe_callTy call_int1 (by rfl) M.int PyProof.Rows.boot_int (pa_cons (pv 0) pa_nil)) (pe_op op_powW pe_int pe_int)))
    (pss_cons (ps_set (i := 3) nd rfl (Or.inl rfl) (pe_lst (pa_cons (pv 2) (pa_cons (pe_op op_sub pe_int (pv 2)) (pa_cons pe_non (pa_cons pe_bl (pa_cons pe_bl (pa_cons pe_str (pa_cons (pe_op op_mulS pe_str (pe_op op_mod (pv 2) pe_int))
      (pa_cons (pe_lst pa_nil) (pa_cons (pe_lst (pa_cons (pv 2) pa_nil)) (pa_cons (pe_tup pa_nil) (pa_cons (pe_tup (pa_cons (pv 2) (pa_cons pe_str pa_nil))) pa_nil)))))))))))))
    (pss_cons (ps_set (i := 3) nd rfl (Or.inl rfl) (pe_op op_cat (pv 3) (pe_lst (pa_cons pe_dnewK (pa_cons (pe_disp (pps_cons pe_str (pv 2) pps_nil) (by rfl) (by rfl) (by decide) (by decide)) (pa_cons (pe_lst (pa_cons (pe_lst (pa_cons (pv 2) pa_nil)) (pa_cons pe_non pa_nil))) (pa_cons pe_str pa_nil)))))))
    (pss_one (ps_ret (pe_ix ix_list (pv 3) (pe_op op_mod (pe_op op_add (pv 2) (pv 1)) (pe_callB call_lenR (by rfl) M.len PySem.boot_len (pa_cons (pv 3) pa_nil))) (fun _ _ => rfl)))))), ?_⟩
  refine seq_set ?_
  refine ⟨_, rfl, .inl ⟨d, rfl, 10, 30, rfl, rfl, big30, d, _, rfl, rfl, (show (0 : Int) < 10 ^ Int.toNat 30 by decide +kernel), ?_⟩⟩
  have hm0 : 0 ≤ d % 10 ^ Int.toNat 30 := Int.emod_nonneg _ (by decide +kernel)
  have hm1 : d % 10 ^ Int.toNat 30 < 10 ^ 30 := Int.emod_lt_of_pos _ (by decide +kernel)
  dsimp only
  generalize d % 10 ^ Int.toNat 30 = m at hm0 hm1 ⊢
  refine seq_set ?_
  refine ⟨_, rfl, _, rfl, 0, m, rfl, rfl, _, rfl, m, 5, rfl, rfl, (show (0 : Int) < 5 by decide), "z", m % 5, rfl, rfl, zok (Int.emod_nonneg _ (by decide)) (Int.emod_lt_of_pos _ (by decide)), by rw [sizeLine_eq]; show 0 ≤ 16777216; decide, fun p0 n0 => ?_⟩
  refine ⟨_, rfl, by rw [sizeLine_eq]; show 1 ≤ 16777216; decide, fun p1 n1 => ?_⟩
  refine ⟨by rw [sizeLine_eq]; show 0 ≤ 16777216; decide, fun p2 n2 => ?_⟩
  refine ⟨_, rfl, by rw [sizeLine_eq]; show 2 ≤ 16777216; decide, fun p3 n3 => ?_⟩
  refine ⟨by rw [sizeLine_eq]; show 11 ≤ 16777216; decide, fun p4 n4 => ?_⟩
  dsimp only
  refine seq_set ?_
  refine ⟨_, rfl, fun p5 n5 p6 n6 => ?_⟩
  refine ⟨_, rfl, upd_same, [(.inr "a", .int m)], rfl, by show 1 ≤ 15; decide, ?_⟩
  rw [upd_upd, show mergeK [] [((Sum.inr "a" : L2.Key), V.int m)] = [(.inr "a", .int m)] from rfl]
  refine ⟨_, rfl, by rw [sizeLine_eq]; show 1 ≤ 16777216; decide, fun p7 n7 => ?_⟩
  refine ⟨by rw [sizeLine_eq]; show 2 ≤ 16777216; decide, fun p8 n8 => ?_⟩
  refine ⟨by rw [sizeLine_eq]; show 4 ≤ 16777216; decide, fun p9 n9 => ?_⟩
  have X9 := Ex.new (o := HO.lst [V.ref p5, V.ref p6, V.ref p8, V.str "value"]) n9
  have X8 := (Ex.new (o := HO.lst [V.ref p7, V.non]) n8).trans X9
  have X7 := (Ex.new (o := HO.lst [V.int m]) n7).trans X8
  have X6 := (Ex.new (o := HO.dK [(.inr "a", .int m)]) n6).trans X7
  have X5 := (Ex.new (o := HO.dK []) n5).trans X6
  refine ⟨p4, p9, [.int m, .int (0 - m), .non, .bl true, .bl false, .str "", .str (Txt.mul "z" (m % 5)), .ref p0, .ref p1, .ref p2, .ref p3], _, rfl, rfl, X5 _ _ upd_same, upd_same, by rw [sizeLine_eq]; show 15 ≤ 16777216; decide, fun p10 n10 => ?_⟩
  have X10 := Ex.new (o := HO.lst ([.int m, .int (0 - m), .non, .bl true, .bl false, .str "", .str (Txt.mul "z" (m % 5)), .ref p0, .ref p1, .ref p2, .ref p3] ++ [V.ref p5, V.ref p6, V.ref p8, V.str "value"])) n10
  have Y9 := X9.trans X10
  have Y8 := X8.trans X10
  have Y7 := X7.trans X10
  have Y6 := X6.trans X10
  have Y5 := X5.trans X10
  have Y4 := (Ex.new (o := HO.lst [.int m, .int (0 - m), .non, .bl true, .bl false, .str "", .str (Txt.mul "z" (m % 5)), .ref p0, .ref p1, .ref p2, .ref p3]) n4).trans Y5
  have Y3 := (Ex.new (o := HO.tup [V.int m, V.str "a"]) n3).trans Y4
  have Y2 := (Ex.new (o := HO.tup []) n2).trans Y3
  have Y1 := (Ex.new (o := HO.lst [V.int m]) n1).trans Y2
  have Y0 := (Ex.new (o := HO.lst []) n0).trans Y1
  have f0 := Y1 _ _ (upd_same (a := p0))
  have f1 := Y2 _ _ (upd_same (a := p1))
  have f2 := Y3 _ _ (upd_same (a := p2))
  have f3 := Y4 _ _ (upd_same (a := p3))
  have f5 := Y6 _ _ (upd_same (a := p5))
  have f6 := Y7 _ _ (upd_same (a := p6))
  have f7 := Y8 _ _ (upd_same (a := p7))
  have f8 := Y9 _ _ (upd_same (a := p8))
  have Z1 := Ex.new (o := HO.lst []) n0
  have Z2 := Z1.trans (Ex.new (o := HO.lst [V.int m]) n1)
  have Z3 := Z2.trans (Ex.new (o := HO.tup []) n2)
  have Z4 := Z3.trans (Ex.new (o := HO.tup [V.int m, V.str "a"]) n3)
  have Z5 := Z4.trans (Ex.new (o := HO.lst [V.int m, .int (0 - m), .non, .bl true, .bl false, .str "", .str (Txt.mul "z" (m % 5)), .ref p0, .ref p1, .ref p2, .ref p3]) n4)
  have Z6 := Z5.trans (Ex.new (o := HO.dK []) n5)
  have Z7 := Z6.trans (Ex.new (o := HO.dK [(.inr "a", .int m)]) n6)
  have Z8 := Z7.trans (Ex.new (o := HO.lst [V.int m]) n7)
  refine ret_of ?_
  generalize hHf : upd _ p10 _ = Hf at Y0 f0 f1 f2 f3 f5 f6 f7 f8 ⊢
  have f10 : Hf p10 = some (HO.lst ([.int m, .int (0 - m), .non, .bl true, .bl false, .str "", .str (Txt.mul "z" (m % 5)), .ref p0, .ref p1, .ref p2, .ref p3] ++ [V.ref p5, V.ref p6, V.ref p8, V.str "value"])) := by
    rw [← hHf]
    exact upd_same
  refine ⟨_, rfl, _, rfl, _, rfl, m, t, rfl, rfl, _, rfl, V.ref p10, 15, rfl, .inl ⟨_, .inl (.inl f10), rfl⟩, m + t, 15, rfl, rfl, (show (0 : Int) < 15 by decide), p10, [.int m, .int (0 - m), .non, .bl true, .bl false, .str "", .str (Txt.mul "z" (m % 5)), .ref p0, .ref p1, .ref p2, .ref p3] ++ [V.ref p5, V.ref p6, V.ref p8, V.str "value"], (m + t) % 15, ?_⟩
  have hr0 : 0 ≤ (m + t) % 15 := Int.emod_nonneg _ (by decide)
  have hr1 : (m + t) % 15 < 15 := Int.emod_lt_of_pos _ (by decide)
  dsimp only
  generalize (m + t) % 15 = r at hr0 hr1 ⊢
  have hc : r = 0 ∨ r = 1 ∨ r = 2 ∨ r = 3 ∨ r = 4 ∨ r = 5 ∨ r = 6 ∨ r = 7 ∨ r = 8 ∨ r = 9 ∨ r = 10 ∨ r = 11 ∨ r = 12 ∨ r = 13 ∨ r = 14 := by omega
  have fin : ∀ {v : V} {dd : PyData}, atI ([.int m, .int (0 - m), .non, .bl true, .bl false, .str "", .str (Txt.mul "z" (m % 5)), .ref p0, .ref p1, .ref p2, .ref p3] ++ [V.ref p5, V.ref p6, V.ref p8, V.str "value"]) r = some v → (∀ a, v = .ref a → H a = none) → Th K Hf v dd → ∃ v', V.ref p10 = V.ref p10 ∧ V.int r = V.int r ∧ SqL K Hf p10 ([.int m, .int (0 - m), .non, .bl true, .bl false, .str "", .str (Txt.mul "z" (m % 5)), .ref p0, .ref p1, .ref p2, .ref p3] ++ [V.ref p5, V.ref p6, V.ref p8, V.str "value"]) ∧ atI ([.int m, .int (0 - m), .non, .bl true, .bl false, .str "", .str (Txt.mul "z" (m % 5)), .ref p0, .ref p1, .ref p2, .ref p3] ++ [V.ref p5, V.ref p6, V.ref p8, V.str "value"]) r = some v' ∧ Q v' Hf := fun {v dd} h1 hf h2 => ⟨v, rfl, rfl, .inl (.inl f10), h1, q v dd Hf Y0 hf h2⟩
  rcases hc with hc | hc | hc | hc | hc | hc | hc | hc | hc | hc | hc | hc | hc | hc | hc <;> subst hc
  · exact fin rfl (fun a z => nomatch z) (th_int hm0 hm1 _ (.inl rfl))
  · exact fin rfl (fun a z => nomatch z) (th_int hm0 hm1 _ (.inr rfl))
  · exact fin rfl (fun a z => nomatch z) th_non
  · exact fin rfl (fun a z => nomatch z) (th_bl true)
  · exact fin rfl (fun a z => nomatch z) (th_bl false)
  · exact fin rfl (fun a z => nomatch z) (th_str rfl (by decide +kernel))
  · exact fin rfl (fun a z => nomatch z) (th_z (Int.emod_nonneg _ (by decide)) (Int.emod_lt_of_pos _ (by decide)))
  · exact fin rfl (fun a z => by cases z; exact n0) (th_l0 f0)
  · exact fin rfl (fun a z => by cases z; exact Evl.fresh_back Z1 n1) (th_l1 hm0 hm1 f1)
  · exact fin rfl (fun a z => by cases z; exact Evl.fresh_back Z2 n2) (th_t0 f2)
  · exact fin rfl (fun a z => by cases z; exact Evl.fresh_back Z3 n3) (th_t2 hm0 hm1 f3)
  · exact fin rfl (fun a z => by cases z; exact Evl.fresh_back Z5 n5) (th_d0 f5)
  · exact fin rfl (fun a z => by cases z; exact Evl.fresh_back Z6 n6) (th_d1 hm0 hm1 f6)
  · exact fin rfl (fun a z => by cases z; exact Evl.fresh_back Z8 n8) (th_l2 hm0 hm1 f7 f8)
  · exact fin rfl (fun a z => nomatch z) (th_str rfl (by decide +kernel))
end
end KX
/-! The law's expressions, read. -/
namespace KX
open PySem PySem.Spec PyProof.Rows L2 FC FP
open Evl (Ex)
theorem test_cb {r : R2} {r1 r2 : List V → Hp → VK → Prop} {ta tb : TE} {σ : L2.St} {H : Hp} {Q : Bool → Hp → Prop} (h : ta σ H fun x H1 => r1 [x] H1 fun y H2 => tb σ H2 fun z H3 => r2 [z] H3 fun u H4 => r y u H4 fun k H5 => ∃ b, k = .bl b ∧ Q b H5) :
    tTest (tOp r (tCB r1 (tCons ta tNil)) (tCB r2 (tCons tb tNil))) σ H Q := h
theorem ex_upd {H H' : Hp} {D : Addr} {o : HO} (n : H D = none) (x : Ex H H') : Ex H (upd H' D o) := fun b u h => by
  rw [upd_ne (fun z => by rw [z, n] at h; cases h)]
  exact x b u h
/-- all of as are errors with the field v -/
def AllV (K : PySem.W.Frag) (H : Hp) (as : List Addr) (v : V) : Prop := ∀ a ∈ as, ∃ D, XIs K D ∧ ErrV H a D v
theorem AllV.ex {K : PySem.W.Frag} {H H' : Hp} {as : List Addr} {v : V} (h : AllV K H as v) (x : Ex H H') : AllV K H' as v := fun a ha => by
  obtain ⟨D, h1, h2⟩ := h a ha
  exact ⟨D, h1, h2.ex x⟩
section
variable {K : PySem.W.Frag}
/-- [error.value for error in errors + by_name] -/
theorem vals_run {s0 s1 s2 s5 s6 s7 : Option V} {H : Hp} {e1 e2 : Addr} {as bs : List Addr} {v : V} {Q : VK} (h1 : H e1 = some (.lst (as.map V.ref))) (h2 : H e2 = some (.lst (bs.map V.ref))) (la : as.length = 9) (lb : bs.length = 9) (ha : AllV K H as v) (hb : AllV K H bs v)
    (q : ∀ p H', Ex H H' → H' p = some (.lst (List.replicate 18 v)) → Q (.ref p) H') :
    tLc (iList K (tOp rCat (tVar 3) (tVar 4))) (gName 7) tYes (tXv K (tVar 7)) [7] [s0, s1, s2, some (.ref e1), some (.ref e2), s5, s6, s7] H Q := by
  refine ⟨_, rfl, _, rfl, e1, e2, _, _, rfl, rfl, h1, h2, by rw [List.length_map, List.length_map, la, lb, sizeLine_eq]; decide, fun pc nc => ?_⟩
  refine ⟨pc, rfl, ⟨_, .inl (.inl upd_same)⟩, fun D hD => ?_⟩
  have x0 : Ex H (upd H pc (.lst (as.map V.ref ++ bs.map V.ref))) := Ex.new nc
  have hl : (as.map V.ref ++ bs.map V.ref).length = 18 := by rw [List.length_append, List.length_map, List.length_map, la, lb]
  have all : ∀ (i : Nat) (y : V), (as.map V.ref ++ bs.map V.ref)[i]? = some y → ∃ a D, y = .ref a ∧ XIs K D ∧ ErrV H a D v := by
    intro i y hy
    rw [← List.map_append, List.getElem?_map] at hy
    obtain ⟨a, hea, rfl⟩ := Option.map_eq_some_iff.mp hy
    rcases List.mem_append.mp (List.mem_of_getElem? hea) with hm | hm
    · obtain ⟨D, t1, t2⟩ := ha a hm
      exact ⟨a, D, rfl, t1, t2⟩
    · obtain ⟨D, t1, t2⟩ := hb a hm
      exact ⟨a, D, rfl, t1, t2⟩
  refine lc_it (walk_list (K := K) (a := pc) (xs := as.map V.ref ++ bs.map V.ref)) (fun i H' => Ex (upd H pc (.lst (as.map V.ref ++ bs.map V.ref))) H' ∧ H' D = some (.lst (List.replicate i v))) ⟨Ex.new hD, upd_same⟩ (fun i H' _ h => .inl (.inl (h.1 _ _ upd_same))) (fun i y Ha Hb hi h hy => ?_) (fun H' h => ?_)
  · obtain ⟨rfl, hy⟩ := hy
    obtain ⟨a, C, rfl, t1, t2⟩ := all i y hy
    refine ⟨rfl, ?_⟩
    dsimp only [tYes]
    rw [if_pos rfl]
    refine ⟨_, rfl, a, C, v, rfl, t1, t2.ex (x0.trans h.1), List.replicate i v, h.2, ?_, ex_upd hD h.1, ?_⟩
    · rw [List.length_replicate, sizeLine_eq]
      omega
    · rw [upd_same, List.replicate_succ']
  · rw [hl] at h
    exact q D H' (x0.trans h.1) h.2
/-- [thing] * 18 -/
theorem rep_run {s0 s1 s3 s4 s5 s6 s7 : Option V} {H : Hp} {v : V} {Q : VK} (q : ∀ p H', Ex H H' → H' p = some (.lst (List.replicate 18 v)) → Q (.ref p) H') :
    tOp rRep (tLst (tCons (tVar 2) tNil)) (tC (.int 18)) [s0, s1, some v, s3, s4, s5, s6, s7] H Q := by
  refine ⟨_, rfl, by rw [sizeLine_eq]; show 1 ≤ 16777216; decide, fun p np => ?_⟩
  refine ⟨p, 18, [v], rfl, rfl, upd_same, by decide, by decide, by rw [sizeLine_eq]; show 18 ≤ 16777216; decide, fun p2 n2 => ?_⟩
  exact q p2 _ ((Ex.new np).trans (Ex.new n2)) (by rw [upd_same]; rfl)
/-- repr([error.value ..]) != repr([thing] * 18) -/
theorem cmp_run {s0 s1 s5 s6 s7 : Option V} {H : Hp} {e1 e2 : Addr} {as bs : List Addr} {v : V} {d : PyData} {Q : Bool → Hp → Prop} (h1 : H e1 = some (.lst (as.map V.ref))) (h2 : H e2 = some (.lst (bs.map V.ref))) (la : as.length = 9) (lb : bs.length = 9) (ha : AllV K H as v) (hb : AllV K H bs v)
    (tv : Tv K H v d) (sm : Small d) (q : ∀ H', Ex H H' → Q false H') :
    tTest (tOp rNe (tCB (rReprX K) (tCons (tLc (iList K (tOp rCat (tVar 3) (tVar 4))) (gName 7) tYes (tXv K (tVar 7)) [7]) tNil)) (tCB (rReprX K) (tCons (tOp rRep (tLst (tCons (tVar 2) tNil)) (tC (.int 18))) tNil))) [s0, s1, some v, some (.ref e1), some (.ref e2), s5, s6, s7] H Q := by
  have hv : ∀ x ∈ List.replicate 18 v, x = v := fun x hx => List.eq_of_mem_replicate hx
  refine test_cb ?_
  refine vals_run h1 h2 la lb ha hb fun p H1 x1 hp => ?_
  refine ⟨p, _, d, rfl, hp, by rw [List.length_replicate]; decide, by rw [List.length_replicate]; decide, fun x hx => by rw [hv x hx]; exact tv.ex x1, sm, ?_⟩
  refine rep_run fun p2 H2 x2 hp2 => ?_
  refine ⟨p2, _, d, rfl, hp2, by rw [List.length_replicate]; decide, by rw [List.length_replicate]; decide, fun x hx => by rw [hv x hx]; exact tv.ex (x1.trans x2), sm, ?_⟩
  exact ⟨rfl, false, by simp, q H2 (x1.trans x2)⟩
/-- [error for error in bare if error.value is not None] != [] -/
theorem bare_run {s0 s1 s2 s3 s4 s6 s7 : Option V} {H : Hp} {e : Addr} {as : List Addr} {Q : Bool → Hp → Prop} (h1 : H e = some (.lst (as.map V.ref))) (la : as.length = 9) (ha : AllV K H as .non) (q : ∀ H', Ex H H' → Q false H') :
    tTest (tOp (rNeD K) (tLc (iList K (tVar 5)) (gName 7) (tB (tNotN (tXv K (tVar 7)))) (tVar 7) [7]) (tLst tNil)) [s0, s1, s2, s3, s4, some (.ref e), s6, s7] H Q := by
  refine ⟨_, rfl, e, rfl, ⟨_, .inl (.inl h1)⟩, fun D hD => ?_⟩
  refine lc_it (walk_list (K := K) (a := e) (xs := as.map V.ref)) (fun i H' => Ex H H' ∧ H' D = some (.lst [])) ⟨Ex.new hD, upd_same⟩ (fun i H' _ h => .inl (.inl (h.1 _ _ h1))) (fun i y Ha Hb hi h hy => ?_) (fun H' h => ?_)
  · obtain ⟨rfl, hy⟩ := hy
    rw [List.getElem?_map] at hy
    obtain ⟨a, hea, rfl⟩ := Option.map_eq_some_iff.mp hy
    obtain ⟨C, t1, t2⟩ := ha a (List.mem_of_getElem? hea)
    refine ⟨rfl, ?_⟩
    refine ⟨_, rfl, a, C, .non, rfl, t1, t2.ex h.1, false, by simp, ?_⟩
    dsimp only
    rw [if_neg Bool.false_ne_true]
    exact h
  · refine ⟨by rw [sizeLine_eq]; show 0 ≤ 16777216; decide, fun p np => ?_⟩
    have ne : D ≠ p := fun z => by
      have z2 := h.2
      rw [z, np] at z2
      cases z2
    refine ⟨.list [], .list [], .lst (.inl (.inl (by rw [upd_ne ne]; exact h.2))) .nil, .lst (.inl (.inl upd_same)) .nil, rfl, rfl, false, rfl, q _ (h.1.trans (Ex.new np))⟩
end
end KX
namespace KX
open PySem PySem.Spec PyProof.Rows L2 FC FP
open Evl (Ex)
theorem paired_at {H : Hp} {y : V} : ∀ {as Ds : List Addr}, Paired (fun a D => ErrV H a D y) as Ds → Paired (fun a D => ErrAt H a D) as Ds
  | _, _, .nil => .nil
  | _, _, .cons r t => .cons r.at (paired_at t)
theorem pairedAt_ex {H H' : Hp} (x : Ex H H') : ∀ {as Ds : List Addr}, Paired (fun a D => ErrAt H a D) as Ds → Paired (fun a D => ErrAt H' a D) as Ds
  | _, _, .nil => .nil
  | _, _, .cons r t => .cons (r.ex x) (pairedAt_ex x t)
theorem paired_all {K : PySem.W.Frag} {H : Hp} {y : V} : ∀ {as Ds : List Addr}, Paired (fun a D => ErrV H a D y) as Ds → (∀ D ∈ Ds, XIs K D) → AllV K H as y
  | _, _, .nil, _ => fun a ha => nomatch ha
  | _, _, .cons r t, h => fun a ha => by
    rcases List.mem_cons.mp ha with rfl | ha
    · exact ⟨_, h _ (List.mem_cons_self ..), r⟩
    · exact paired_all t (fun D hD => h D (List.mem_cons_of_mem _ hD)) a ha
section
variable {K : PySem.W.Frag} {c0 c1 c2 c3 c4 c5 c6 c7 c8 c9 : Addr}
theorem ifn_call {sp : Sp} {ta : TA} {D : Ends} {σ : L2.St} {H : Hp} (h : ta σ H fun vs H1 => sp (vs ++ []) H1 (fun x H2 => ∃ c, x = .bl c ∧ if (!c) = true then False else D.nx σ H2) E0) : tIfS (tNot (tB (tCall sp [] E0 ta))) tNever tNext D σ H := h
theorem placed_run {s0 s1 s2 s3 s4 s5 s7 : Option V} {H : Hp} {e : Addr} {as : List Addr} {D : Ends} (h1 : H e = some (.lst (as.map V.ref))) (rr : Paired (fun a D => ErrAt H a D) as [c0, c1, c2, c3, c4, c5, c6, c7, c8])
    (q : ∀ H', Ex H H' → D.nx [s0, s1, s2, s3, s4, s5, some (.ref e), s7] H') :
    tIfS (tNot (tB (tCall (spPlaced [c0, c1, c2, c3, c4, c5, c6, c7, c8, c9]) [] E0 (tCons (tOp rCat (tVar 6) (tLst (tCons (tEx0 c9) tNil))) tNil)))) tNever tNext D [s0, s1, s2, s3, s4, s5, some (.ref e), s7] H := by
  refine ifn_call ?_
  refine ⟨_, rfl, fun a na => ?_⟩
  refine ⟨by rw [sizeLine_eq]; show 1 ≤ 16777216; decide, fun p np => ?_⟩
  have x1 : Ex H (upd H a (exo a c9 none)) := Ex.new na
  have x2 := x1.trans (Ex.new (o := HO.lst [V.ref a]) np)
  have hl : as.length = 9 := rr.length
  refine ⟨e, p, as.map V.ref, [.ref a], rfl, rfl, x2 _ _ h1, upd_same, by rw [List.length_map, hl, sizeLine_eq]; show 10 ≤ 16777216; decide, fun p2 np2 => ?_⟩
  have x3 := x2.trans (Ex.new (o := HO.lst (as.map V.ref ++ [V.ref a])) np2)
  refine ⟨p2, as ++ [a], rfl, by rw [upd_same, List.map_append]; rfl, ?_, fun H' x4 => ⟨true, rfl, ?_⟩⟩
  · have ea : ErrAt (upd H a (exo a c9 none)) a c9 := ⟨none, upd_same, .inl rfl⟩
    exact paired_app (pairedAt_ex x3 rr) (.cons ((ea.ex (Ex.new np)).ex (Ex.new np2)) .nil)
  · rw [if_neg (by decide)]
    exact q H' (x3.trans x4)
theorem loop_run {s0 s1 s2 s6 s7 : Option V} {H : Hp} {e1 e2 e3 : Addr} {as bs cs : List Addr} {D : Ends} (h1 : H e1 = some (.lst (as.map V.ref))) (h2 : H e2 = some (.lst (bs.map V.ref))) (h3 : H e3 = some (.lst (cs.map V.ref)))
    (r1 : Paired (fun a D => ErrAt H a D) as [c0, c1, c2, c3, c4, c5, c6, c7, c8]) (r2 : Paired (fun a D => ErrAt H a D) bs [c0, c1, c2, c3, c4, c5, c6, c7, c8]) (r3 : Paired (fun a D => ErrAt H a D) cs [c0, c1, c2, c3, c4, c5, c6, c7, c8])
    (q : ∀ s6' H', Ex H H' → D.nx [s0, s1, s2, some (.ref e1), some (.ref e2), some (.ref e3), s6', s7] H') :
    tFor (iTup K (tTup (tCons (tVar 3) (tCons (tVar 4) (tCons (tVar 5) tNil))))) (gName 6) (tIfS (tNot (tB (tCall (spPlaced [c0, c1, c2, c3, c4, c5, c6, c7, c8, c9]) [] E0 (tCons (tOp rCat (tVar 6) (tLst (tCons (tEx0 c9) tNil))) tNil)))) tNever tNext) D
      [s0, s1, s2, some (.ref e1), some (.ref e2), some (.ref e3), s6, s7] H := by
  refine ⟨_, rfl, _, rfl, _, rfl, by rw [sizeLine_eq]; show 3 ≤ 16777216; decide, fun t nt => ?_⟩
  refine ⟨t, rfl, ⟨_, .inl (.inl upd_same)⟩, ?_⟩
  have x0 : Ex H (upd H t (.tup [.ref e1, .ref e2, .ref e3])) := Ex.new nt
  refine for_it (walk_tup (K := K) (a := t) (xs := [.ref e1, .ref e2, .ref e3])) (fun i σ H' => ∃ s6', σ = [s0, s1, s2, some (.ref e1), some (.ref e2), some (.ref e3), s6', s7] ∧ Ex (upd H t (.tup [.ref e1, .ref e2, .ref e3])) H') ⟨_, rfl, Ex.refl _⟩ (fun i σ H' _ ⟨_, _, x⟩ => .inl (.inl (x _ _ upd_same))) (fun i y σ Ha Hb hi ⟨x6, hσ, xx⟩ hy => ?_) (fun σ H' ⟨x6, hσ, xx⟩ => ?_)
  · obtain ⟨rfl, hy⟩ := hy
    subst hσ
    have X := x0.trans xx
    have go : ∀ (e : Addr) (as : List Addr), H e = some (.lst (as.map V.ref)) → Paired (fun a D => ErrAt H a D) as [c0, c1, c2, c3, c4, c5, c6, c7, c8] → y = .ref e →
        gName 6 y [s0, s1, s2, some (.ref e1), some (.ref e2), some (.ref e3), x6, s7] Hb fun σ2 H2 => tIfS (tNot (tB (tCall (spPlaced [c0, c1, c2, c3, c4, c5, c6, c7, c8, c9]) [] E0 (tCons (tOp rCat (tVar 6) (tLst (tCons (tEx0 c9) tNil))) tNil)))) tNever tNext
          { D with nx := fun σ H' => ∃ s6', σ = [s0, s1, s2, some (.ref e1), some (.ref e2), some (.ref e3), s6', s7] ∧ Ex (upd H t (.tup [.ref e1, .ref e2, .ref e3])) H', ct := fun σ H' => ∃ s6', σ = [s0, s1, s2, some (.ref e1), some (.ref e2), some (.ref e3), s6', s7] ∧ Ex (upd H t (.tup [.ref e1, .ref e2, .ref e3])) H', bk := D.nx } σ2 H2 := by
      intro e as he ra hy
      subst hy
      refine placed_run (X _ _ he) (pairedAt_ex X ra) fun H' x' => ⟨_, rfl, xx.trans x'⟩
    match i, hy with
    | 0, hy => exact go e1 as h1 r1 (Option.some.inj hy).symm
    | 1, hy => exact go e2 bs h2 r2 (Option.some.inj hy).symm
    | 2, hy => exact go e3 cs h3 r3 (Option.some.inj hy).symm
    | i + 3, hy => simp at hy
  · subst hσ
    exact q x6 H' (x0.trans xx)
end
end KX
/-! The law, run where nothing is guarded around. -/
namespace KX
open PySem PySem.Spec PyProof.Rows L2 FC FP
open Evl (Ex)
def spLaw (K : PySem.W.Frag) : Sp := fun vs H Q _ => ∃ (a : Addr) (ns : List Int), vs = [.ref a] ∧ SqL K H a (ns.map V.int) ∧ ns.length ≤ 63 ∧ ∀ H', Q (.bl true) H'
theorem sc_law : FnScope ["script", "at", "thing", "errors", "by_name", "bare", "some", "error"] ["script"] (defScope s_law) := ⟨rfl, rfl, rfl, by decide +kernel, rfl, by decide +kernel, by decide +kernel⟩
theorem par_step {i j : Nat} {t1 t2 : TE} {u : TS} {D : Ends} {σ : L2.St} {H : Hp} (h : t1 σ H fun x H1 => t2 σ H1 fun y H2 => ∃ v w, [x, y] = [v, w] ∧ u D ((σ.set i (some v)).set j (some w)) H2) : tSeq (tPar i j (tCons t1 (tCons t2 tNil))) u D σ H := h
theorem seq_of {t u : TS} {D : Ends} {σ : L2.St} {H : Hp} (h : t { D with nx := u D } σ H) : tSeq t u D σ H := h
theorem ifn_test {t : TT} {u : TS} {D : Ends} {σ : L2.St} {H : Hp} (h : t σ H fun c H1 => if c = true then False else u D σ H1) : tSeq (tIfS t tNever tNext) u D σ H := h
theorem ifn_last {t : TT} {D : Ends} {σ : L2.St} {H : Hp} (h : t σ H fun c H1 => if c = true then False else D.nx σ H1) : tIfS t tNever tNext D σ H := h
theorem if_last {t : TT} {u : TS} {D : Ends} {σ : L2.St} {H : Hp} (h : t σ H fun c H1 => if c = true then u D σ H1 else D.nx σ H1) : tIfS t u tNext D σ H := h
theorem ErrV.upd_lst {H : Hp} {e a D : Addr} {v : V} {xs : List V} {o : HO} (h : ErrV H e D v) (ha : H a = some (.lst xs)) : ErrV (upd H a o) e D v := by
  obtain ⟨dx, h1, h2⟩ := h
  have n1 : e ≠ a := fun z => by
    rw [z, ha] at h1
    have y : HO.lst xs = HO.ext _ := Option.some.inj h1
    cases y
  have n2 : dx ≠ a := fun z => by
    rw [z, ha] at h2
    have y : HO.lst xs = HO.ext _ := Option.some.inj h2
    cases y
  exact ⟨dx, by rw [upd_ne n1]; exact h1, by rw [upd_ne n2]; exact h2⟩
theorem AllV.upd_lst {K : PySem.W.Frag} {H : Hp} {as : List Addr} {a : Addr} {v : V} {xs : List V} {o : HO} (h : AllV K H as v) (ha : H a = some (.lst xs)) : AllV K (upd H a o) as v := fun e he => by
  obtain ⟨D, h1, h2⟩ := h e he
  exact ⟨D, h1, h2.upd_lst ha⟩
theorem noDict_later : ∀ {ds : List PyData}, PyData.hasDictAll ds = false → (PyData.list (ds ++ [.str "later"])).hasDict = false
  | [], _ => rfl
  | d :: ds, h => by
    simp only [PyData.hasDictAll, Bool.or_eq_false_iff] at h
    have z := noDict_later (ds := ds) h.2
    simp only [PyData.hasDict, List.cons_append, PyData.hasDictAll, Bool.or_eq_false_iff] at z ⊢
    exact ⟨h.1, z⟩
theorem first_run {K : PySem.W.Frag} {c0 c1 c2 c3 c4 c5 c6 c7 c8 c9 ce : Addr} {u : TS} {D : Ends} {σ : L2.St} {H : Hp} (X : XIs K ce) (kic : ∀ (j : Nat) (E : Addr), [c0, c1, c2, c3, c4, c5, c6, c7, c8, c9][j]? = some E → PySem.W.kitOne K (.ref ce) (.ref E) = some false) (kiv : PySem.W.kitOne K (.ref ce) (.type "ValueError") = some true)
    (q : ∀ H', Ex H H' → u D σ H') :
    tSeq (tIfS (tOr (tTest (tOp (rIn K false) (tC (.bl true)) (tCall (spCls K [c0, c1, c2, c3, c4, c5, c6, c7, c8, c9]) [] E0 (tCons (tEx0 ce) tNil)))) (tNot (tB (tCB (rIsX K) (tCons (tEx0 ce) (tCons (tC (.ty "ValueError")) tNil)))))) tNever tNext) u D σ H := by
  refine ifn_test ?_
  intro a na
  have ea : ErrAt (upd H a (exo a ce none)) a ce := ⟨none, upd_same, .inl rfl⟩
  refine ⟨a, ce, fun _ => false, rfl, ea, X, fun j E hE => kic j E hE, fun p H1 x1 n1 h1 => ?_⟩
  refine ⟨p, _, rfl, .inl (.inl (.inl h1)), rfl, by decide, false, by decide +kernel, ?_⟩
  dsimp only
  rw [if_neg Bool.false_ne_true]
  intro b nb
  have eb : ErrAt (upd H1 b (exo b ce none)) b ce := ⟨none, upd_same, .inl rfl⟩
  refine ⟨b, ce, .ty "ValueError", .type "ValueError", true, rfl, eb, X, fun u r => r, kiv, true, rfl, ?_⟩
  show (if (!true) = true then _ else _)
  rw [if_neg (by decide)]
  exact q _ (((Ex.new na).trans x1).trans (Ex.new nb))
section
variable {P : Program} {w : World} {K : PySem.W.Frag} {mg : Str → Option Value} {base : Heap} {f : Addr} {c0 c1 c2 c3 c4 c5 c6 c7 c8 c9 ce : Addr}
theorem law_body (M : Bl mg) (hve : mg "ValueError" = none) (hrp : mg "repr" = none) (T : CT P w K mg base 1 c0 c1 c2 c3 c4 c5 c6 c7 c8 c9 ce) (k1 : Cl P w K mg base 1 "_law_classes" (spCls K [c0, c1, c2, c3, c4, c5, c6, c7, c8, c9])) (k2 : Cl P w K mg base 2 "_law_placed" (spPlaced [c0, c1, c2, c3, c4, c5, c6, c7, c8, c9])) (k3 : Cl P w K mg base 1 "_law_thing" (spThing K))
    (k4 : Cl P w K mg base 3 "_law_made" (spMade [c0, c1, c2, c3, c4, c5, c6, c7, c8])) (k5 : Cl P w K mg base 3 "_law_by_name" (spMade [c0, c1, c2, c3, c4, c5, c6, c7, c8])) (cdv : Value) (A : Around) (hg : A.guards = some []) (outer : List Env) (s : Shared) (H : Hp) (vs : List V) (Q : VK) (E : XK)
    (hr : Room 3 (A.deeper (envOfC "law" (defScope s_law) s.heap.objs.size f cdv))) (h : spLaw K vs H Q E) :
    ∃ t, PSs (cxOf CX0 P w K mg base ["script", "at", "thing", "errors", "by_name", "bare", "some", "error"] "law" (defScope s_law) f cdv A outer s H E).nox (defBody s_law) t ∧ t { nx := fun _ H' => Q .non H', rt := Q } (start ["script", "at", "thing", "errors", "by_name", "bare", "some", "error"] vs) H := by
  obtain ⟨a, ns, rfl, hS, hlen, q⟩ := h
  have nd := sc_law.nd
  have hu64 : (A.deeper (envOfC "law" (defScope s_law) s.heap.objs.size f cdv)).units + 64 < cLine := by have := hr.un; omega
  have hr1 : Room 2 (A.deeper (envOfC "law" (defScope s_law) s.heap.objs.size f cdv)) := hr.mono (by decide)
  refine ⟨_, pss_cons (ps_if (pw_or (pt_cmpR op_in_seq pe_bl (pe_cl k1 hr (by decide) (by rfl) (pa_cons (pe_ex0 PySem.F.excBase_ValueError T.xe T.ge T.ke (by rfl)) pa_nil)) (by rfl))
      (pw_or1 (pt_not (pt_val (pe_callB call_isX (by rfl) M.isi PyProof.Rows.boot_isinstance (pa_cons (pe_ex0 PySem.F.excBase_ValueError T.xe T.ge T.ke (by rfl)) (pa_cons (pe_bltn (v := .ty "ValueError") (by rfl) hve PyProof.Rows.Boot.«ValueError» rfl) pa_nil))))))).pt pss_never pss_nil)
    (pss_cons (ps_for PassesOwn.never rfl (pi_range1 (by rfl) M.range (pa_cons (pe_callB (call_max2 rfl) (by rfl) M.max PyProof.Rows.boot_max (pa_cons pe_int (pa_cons (pe_callB call_lenR (by rfl) M.len PySem.boot_len (pa_cons (pe_slice sl_list (pv 0) po_none (po_some pe_int)) pa_nil)) pa_nil))) pa_nil)) (pg_name (i := 1) nd rfl (Or.inl rfl))
      (pss_cons (ps_set (i := 2) nd rfl (Or.inl rfl) (pe_cl k3 hr (by decide) (by rfl) (pa_cons (pe_callB (cr_sum rfl) (by rfl) M.sum PyProof.Rows.boot_sum (pa_cons (pe_slice sl_list (pv 0) (po_some (pv 1)) (po_some (pe_op op_add (pv 1) pe_int))) pa_nil)) (pa_cons (pv 1) pa_nil))))
      (pss_cons (ps_par (i := 3) (j := 4) rfl nd rfl rfl (by decide) rfl rfl (pa_cons (pe_cl k4 hr (by decide) (by rfl) (pa_cons (pv 2) pa_nil)) (pa_cons (pe_cl k5 hr (by decide) (by rfl) (pa_cons (pv 2) pa_nil)) pa_nil)) rfl)
      (pss_cons (ps_set (i := 5) nd rfl (Or.inl rfl) (pe_lst (pa_cons (pe_mk0 T.m0 hr1 (by rfl)) (pa_cons (pe_mk0 T.m1 hr1 (by rfl)) (pa_cons (pe_mk0 T.m2 hr1 (by rfl)) (pa_cons (pe_mk0 T.m3 hr1 (by rfl)) (pa_cons (pe_mk0 T.m4 hr1 (by rfl)) (pa_cons (pe_mk0 T.m5 hr1 (by rfl)) pa_nil))))))))
      (pss_cons (ps_set (i := 5) nd rfl (Or.inl rfl) (pe_op op_cat (pv 5) (pe_lst (pa_cons (pe_mk0 T.m6 hr1 (by rfl)) (pa_cons (pe_mk0 T.m7 hr1 (by rfl)) (pa_cons (pe_mk0 T.m8 hr1 (by rfl)) pa_nil))))))
      (pss_cons (ps_for PassesOwn.never rfl (pi_tup (pe_tup (pa_cons (pv 3) (pa_cons (pv 4) (pa_cons (pv 5) pa_nil))))) (pg_name (i := 6) nd rfl (Or.inl rfl))
        (pss_one (ps_if (pt_not (pt_val (pe_cl k2 hr (by decide) (by rfl) (pa_cons (pe_op op_cat (pv 6) (pe_lst (pa_cons (pe_ex0 PySem.F.excBase_ValueError T.x9 T.g9 T.k9 (by rfl)) pa_nil))) pa_nil)))) pss_never pss_nil)))
      (pss_cons (ps_if (pt_cmpR op_ne (pe_callB (call_reprX hg hu64) (by rfl) hrp PyProof.Rows.boot_repr (pa_cons (pe_lc (own := [("error", 7)]) (g := gName 7) (tt := tYes) (te := tXv K (tVar 7)) rfl nd (pi_list (pe_op op_cat (pv 3) (pv 4))) (blkOk_by (N := ["script", "at", "thing", "errors", "by_name", "bare", "some", "error"]) (sc := defScope s_law) (by decide +kernel)) (fun _ _ _ _ _ => pg_name (i := 7) nd rfl (Or.inl rfl)) (fun _ _ _ _ _ => pts_nil) (fun _ _ _ _ _ => pe_xv (pv 7))) pa_nil))
          (pe_callB (call_reprX hg hu64) (by rfl) hrp PyProof.Rows.boot_repr (pa_cons (pe_op op_rep (pe_lst (pa_cons (pv 2) pa_nil)) pe_int) pa_nil)) (nomark _)) pss_never pss_nil)
      (pss_cons (ps_if (pt_cmpR (op_neD hu64) (pe_lc (own := [("error", 7)]) (g := gName 7) (te := tVar 7) (tt := tB (tNotN (tXv K (tVar 7)))) rfl nd (pi_list (pv 5)) (blkOk_by (N := ["script", "at", "thing", "errors", "by_name", "bare", "some", "error"]) (sc := defScope s_law) (by decide +kernel)) (fun _ _ _ _ _ => pg_name (i := 7) nd rfl (Or.inl rfl)) (fun _ _ _ _ _ => pts_one (pt_cmp (pc_notN (pe_xv (pv 7))))) (fun _ _ _ _ _ => pv 7))
          (pe_lst pa_nil) (nomark _)) pss_never pss_nil)
      (pss_one (ps_if (pt_val (k_isi (pv 2) (by rfl) M.isi (by rfl) M.list PyProof.Rows.boot_list (by decide) (by decide)))
        (pss_cons (ps_expr (pe_bm PySem.F.plainAttrs_list PySem.F.slot_list_append PySem.F.type_list_append mt_append (pv 2) (pa_cons pe_str pa_nil)))
        (pss_one (ps_if (pt_cmpR op_ne (pe_callB (call_reprX hg hu64) (by rfl) hrp PyProof.Rows.boot_repr (pa_cons (pe_lc (own := [("error", 7)]) (g := gName 7) (tt := tYes) (te := tXv K (tVar 7)) rfl nd (pi_list (pe_op op_cat (pv 3) (pv 4))) (blkOk_by (N := ["script", "at", "thing", "errors", "by_name", "bare", "some", "error"]) (sc := defScope s_law) (by decide +kernel)) (fun _ _ _ _ _ => pg_name (i := 7) nd rfl (Or.inl rfl)) (fun _ _ _ _ _ => pts_nil) (fun _ _ _ _ _ => pe_xv (pv 7))) pa_nil))
          (pe_callB (call_reprX hg hu64) (by rfl) hrp PyProof.Rows.boot_repr (pa_cons (pe_op op_rep (pe_lst (pa_cons (pv 2) pa_nil)) pe_int) pa_nil)) (nomark _)) pss_never pss_nil))) pss_nil))))))))))
    (pss_one (ps_ret pe_bl))), ?_⟩
  refine first_run (T.xs ce (by simp)) T.kic (T.kiv ce (by simp)) fun H0 x0 => ?_
  refine seq_of ?_
  refine ⟨.ref a, rfl, 20, rfl, a, ns.map V.int, rfl, ex_l x0 hS, fun c hc => ?_⟩
  have hcl := cutV_length (ns.map V.int) none (some 20)
  rw [List.length_map] at hcl
  generalize hcv : cutV (ns.map V.int) none (some 20) = cv at hcl
  refine ⟨_, _, rfl, .inl ⟨_, .inl (.inl upd_same), rfl⟩, _, _, rfl, ?_⟩
  generalize hmx : (if ((cv.length : Nat) : Int) > 1 then ((cv.length : Nat) : Int) else 1) = mx
  have hm1 : 1 ≤ mx := by rw [← hmx]; split <;> omega
  have hm2 : mx ≤ 63 := by rw [← hmx]; split <;> omega
  refine ⟨mx, rfl, by omega, by omega, ?_⟩
  refine for_range (lo := 0) (n := mx.toNat) (fun i σ H' => ∃ y1 y2 y3 y4 y5 y6 y7, σ = [some (.ref a), y1, y2, y3, y4, y5, y6, y7] ∧ Ex H H') ⟨_, _, _, _, _, _, _, rfl, x0.trans (Ex.new hc)⟩ ?_ (fun σ H' _ => q H')
  rintro i σ Hb hi ⟨y1, y2, y3, y4, y5, y6, y7, rfl, xb⟩
  dsimp only [gName]
  -- thing = _law_thing(sum(script[at:at + 1]), at)
  refine seq_set ?_
  refine ⟨.ref a, rfl, _, rfl, _, rfl, _, rfl, 0 + (i : Int), 1, rfl, rfl, _, rfl, a, ns.map V.int, rfl, ex_l xb hS, fun csl hc2 => ?_⟩
  have ec : ∃ ms : List Int, cutV (ns.map V.int) (some (0 + (i : Int))) (some (0 + (i : Int) + 1)) = ms.map V.int := by
    unfold cutV
    rw [← List.map_drop, ← List.map_take]
    exact ⟨_, rfl⟩
  obtain ⟨ms, ec⟩ := ec
  dsimp only
  rw [ec]
  have xc := xb.trans (Ex.new (o := HO.lst (ms.map V.int)) hc2)
  refine ⟨csl, ms, rfl, .inl (.inl upd_same), ?_⟩
  refine ⟨_, rfl, ms.sum, 0 + (i : Int), rfl, by omega, by omega, fun v dd H2 x2 hf th => ?_⟩
  have xH2 := xc.trans x2
  -- errors, by_name = ..
  refine par_step ?_
  refine ⟨_, rfl, v, rfl, fun p as H3 x3 n3 h3 r3 => ?_⟩
  refine ⟨_, rfl, v, rfl, fun p2 bs H4 x4 n4 h4 r4 => ?_⟩
  refine ⟨_, _, rfl, ?_⟩
  -- bare
  refine seq_set ?_
  refine mk_lst (Ds := [c0, c1, c2, c3, c4, c5]) (y := .non) (mkA_cons mk0 (mkA_cons mk0 (mkA_cons mk0 (mkA_cons mk0 (mkA_cons mk0 (mkA_cons mk0 mkA_nil)))))) (by show 6 ≤ 1000; decide) fun p3 cs H5 x5 n5 h5 r5 => ?_
  refine seq_set ?_
  refine mk_cat (p := p3) (Es := [c6, c7, c8]) rfl h5 r5 (mkA_cons mk0 (mkA_cons mk0 (mkA_cons mk0 mkA_nil))) (by show 9 ≤ 1000; decide) fun p4 es H6 x6 n6 h6 r6 => ?_
  have x46 := x5.trans x6
  have x36 := x4.trans x46
  have x26 := x3.trans x36
  have h3' := x36 _ _ h3
  have h4' := x46 _ _ h4
  have r3' := paired_ex x36 r3
  have r4' := paired_ex x46 r4
  -- for some in ..
  refine seq_of ?_
  refine loop_run (as := as) (bs := bs) (cs := es) h3' h4' h6 (paired_at r3') (paired_at r4') (paired_at r6) fun s6' H7 x7 => ?_
  have hX : ∀ D ∈ [c0, c1, c2, c3, c4, c5, c6, c7, c8], XIs K D := fun D hD => T.xs D (List.mem_append_left [c9, ce] hD)
  have l3 : as.length = 9 := r3.length
  have l4 : bs.length = 9 := r4.length
  have l6 : es.length = 9 := r6.length
  have a3 := (paired_all r3' hX).ex x7
  have a4 := (paired_all r4' hX).ex x7
  have a6 := (paired_all r6 hX).ex x7
  have g3 := x7 _ _ h3'
  have g4 := x7 _ _ h4'
  have g6 := x7 _ _ h6
  have x27 := x26.trans x7
  have tvS : ∃ d, Tv K H7 v d ∧ Small d := by
    cases th with
    | l e t n s1 s2 =>
      subst e
      exact ⟨_, .d (t.ex x27).dp n, s1⟩
    | n t s ty k => exact ⟨_, t.ex x27, s⟩
  obtain ⟨dd7, tv7, sm7⟩ := tvS
  dsimp only
  refine ifn_test ?_
  refine cmp_run g3 g4 l3 l4 a3 a4 tv7 sm7 fun H8 x8 => ?_
  rw [if_neg Bool.false_ne_true]
  refine ifn_test ?_
  refine bare_run (x8 _ _ g6) l6 (a6.ex x8) fun H9 x9 => ?_
  rw [if_neg Bool.false_ne_true]
  have x79 := x8.trans x9
  have x29 := x27.trans x79
  refine if_last ?_
  cases th with
  | n tv sm ty kl =>
    refine ⟨_, rfl, v, .ty "list", _, .type "list", false, rfl, .ty "list", ty H9 x29, kit_ty kl, false, rfl, ?_⟩
    dsimp only
    rw [if_neg Bool.false_ne_true]
    exact ⟨_, _, _, _, _, _, _, rfl, xH2.trans x29⟩
  | @l al ds ev tl hnd sm1 sm2 =>
    subst ev
    have hal : H al = none := Evl.fresh_back xc (hf al rfl)
    have tl9 := tl.ex x29
    obtain ⟨xs, e9, dp9, len9⟩ := id tl9
    refine ⟨_, rfl, .ref al, .ty "list", .type "list", .type "list", true, rfl, .ty "list", .base (.lst e9), kit_ty kll, true, rfl, ?_⟩
    dsimp only
    rw [if_pos rfl]
    refine seq_of ?_
    refine ⟨_, rfl, .inl ⟨rfl, _, .inl (.inl e9)⟩, al, xs, .str "later", rfl, rfl, e9, by rw [sizeLine_eq]; omega, ?_⟩
    have x39 := x36.trans (x7.trans x79)
    have x49 := x46.trans (x7.trans x79)
    have np : p ≠ al := fun z => by
      obtain ⟨xs2, e2, _⟩ := tl
      rw [z, e2] at n3
      cases n3
    have np2 : p2 ≠ al := fun z => by
      obtain ⟨xs2, e2, _⟩ := tl
      have e3 := x3 _ _ e2
      rw [z, e3] at n4
      cases n4
    have dpA : Dp K (upd H9 al (.lst (xs ++ [.str "later"]))) (.ref al) (.list (ds ++ [.str "later"])) :=
      .lst (.inl (.inl upd_same)) (dps_append (.cons (.str _) .nil) (dps_ex hid_ex _ _ (by rw [hid_upd]; exact dp9)))
    dsimp only
    refine ifn_last ?_
    refine cmp_run (e1 := p) (e2 := p2) (as := as) (bs := bs) (by rw [upd_ne np]; exact x39 _ _ h3) (by rw [upd_ne np2]; exact x49 _ _ h4) l3 l4 (((paired_all r3' hX).ex (x7.trans x79)).upd_lst e9) (((paired_all r4' hX).ex (x7.trans x79)).upd_lst e9) (.d dpA (noDict_later hnd)) sm2 fun H10 x10 => ?_
    rw [if_neg Bool.false_ne_true]
    exact ⟨_, _, _, _, _, _, _, rfl, (ex_upd hal (xH2.trans x29)).trans x10⟩
end
end KX
/-! The law's call at the caller, where nothing is guarded around: the end of the library told for one place of the stack. -/
namespace KX
open PySem PySem.Spec PyProof.Rows L2 FC FP
open Evl (Ex)
section
variable {P : Program} {w : World} {K : PySem.W.Frag} {mg : Str → Option Value} {base : Heap} {f : Addr} {fd : FuncData}
/-- a def run at one place of the stack -/
theorem run_at {x qual : Str} {st : Stmt} {N ps : List Str} {k : Nat} {A : Around} {outer : List Env} {s : Shared} {H : Hp} {args : Args} {us : List Value} {vs : List V} {Q : VK} {E : XK} (Fn : Fun K x qual st f fd) (S : FnScope N ps (defScope st)) (hl : vs.length = ps.length) (hr : Room (k + 1) A)
    (e0 : Env0 P w K mg base A outer s H) (hb : BindsTo s fd args (ps.zip us)) (r : Vals vs us)
    (body : ∀ cdv : Value, Room k (A.deeper (envOfC qual (defScope st) s.heap.objs.size f cdv)) → ∃ t, PSs (cxOf CX0 P w K mg base N qual (defScope st) f cdv A outer s H E).nox (defBody st) t ∧ t { nx := fun _ H' => Q .non H', rt := Q } (start N vs) H) :
    codeAny (model P w) A (.call (.ref f) args) (CR CX0 outer P w H s Q E) s := by
  obtain ⟨oc, od, kV, doc, pm, an, cdv, ct, osl, rfl, lk, hcd⟩ := Fn.ex
  have up : ∀ b o, base.get? b = some o → s.heap.get? b = some o := fun b o e => (e0.bs b o e).1
  have KX := e0.mod.kin.keeps up
  have lim := e0.mod.nolimit.keeps up
  have kinds : ∀ y ∈ ps.zip us, (defScope st).names.lookup y.1 = some .local ∨ ((defScope st).names.lookup y.1 = some .cell ∧ ((cellsFrom (s.heap.objs.size + 1) (defScope st).names []).lookup y.1).isSome = true) := by
    intro y hy
    have hm : y.1 ∈ ps := (List.of_mem_zip (a := y.1) (b := y.2) hy).1
    rcases S.par y.1 hm with z | z
    · exact Or.inl z
    · exact Or.inr ⟨z, PySem.W.cellsFrom_some _ _ _ (Or.inl z)⟩
  refine codeAny_call_function hr.depth (KX _ _ lk) rfl S.co S.gen rfl (PySem.W.codeRec_of KX hcd) (hb _ _ _ _ ?_)
  refine wpAny_newFunctionEnv_cells S.kind kinds fun en he s1 ic => ?_
  subst he
  refine ⟨lim.keeps ic.toInCall.keep, codeAny_func ?_⟩
  obtain ⟨t, ht, hq⟩ := body cdv (hr.deeper _)
  have I0 : Inv (cxOf CX0 P w K mg base N qual (defScope st) f cdv A outer s H E) [] (start N vs) H s1 := inv_start S hr.hd e0 hl r ic
  refine wpAny_mono (ht.nox.run [] s1 (start N vs) H _ I0 hq) (fun fl s' hs => ?_) fun _ _ z => z
  cases fl with
  | ret u =>
    obtain ⟨v, σ', H', J, rv, z⟩ := hs
    exact ⟨v, H', J.os, J.bare, J.base, J.hok, rv, z⟩
  | next =>
    obtain ⟨σ', H', J, z⟩ := hs
    exact ⟨.non, H', J.os, J.bare, J.base, J.hok, rfl, z⟩
  | brk =>
    obtain ⟨_, _, _, z⟩ := hs
    exact z.elim
  | cont =>
    obtain ⟨_, _, _, z⟩ := hs
    exact z.elim
end
section
variable {P : Program} {w : World} {K : PySem.W.Frag} {mg mb : Str → Option Value} {fa a : Addr} {sp : Sp} {s₁ : Shared} {vs : List Value} {ns : List Int}
/-- the law's call, from its promise at the caller's place alone -/
theorem call_at (KX : K.In s₁.heap) (n1 : s₁.heap.Ns mainGlobals mg) (n2 : s₁.heap.Ns builtinsNs mb) (n3 : ∀ x : Str, x ≠ "__name__" → mb x = bootBuiltins x) (n4 : s₁.heap.NoLimit) (n5 : s₁.gens = #[])
    (la : s₁.heap.get? a = some { cls := .type "list", data := .seq vs.toArray }) (hi : IntsAre vs ns) (hl : ns.length ≤ sizeLine)
    (F : ∀ (base : Heap) (H : Hp), K.In base → base.Ns mainGlobals mg → Env0 P w K mg base callerA [] s₁ H → sp [.ref a] H (fun v _ => v = .bl true) E0 → codeAny (model P w) callerA (.call (.ref fa) ⟨[.ref a], []⟩) (CR CX0 [] P w H s₁ (fun v _ => v = .bl true) E0) s₁)
    (hs : ∀ H : Hp, SqL K H a (ns.map V.int) → sp [.ref a] H (fun v _ => v = .bl true) E0) :
    codeAny (model P w) callerA (.call (.ref fa) ⟨[.ref a], []⟩) (fun r s' => r = .ok (.ret (.bool true)) ∧ OldK s₁.heap s'.heap ∧ s'.os = s₁.os ∧ AllBare s'.gens) s₁ := by
  have rv := vals_ints hi
  have lv := hi.length
  have main : ∀ H : Hp, Only H → SqL K H a (ns.map V.int) → HOk P w H s₁.heap → (∀ b, H b ≠ none → b = a) → (H a ≠ none → K.lookup a = none) →
      codeAny (model P w) callerA (.call (.ref fa) ⟨[.ref a], []⟩) (fun r s' => r = .ok (.ret (.bool true)) ∧ OldK s₁.heap s'.heap ∧ s'.os = s₁.os ∧ AllBare s'.gens) s₁ := by
    intro H q1 q2 q3 q4 q5
    have nd : ∀ {b : Addr} {o : Obj} {es : Array DictEntry} {ep : Nat}, s₁.heap.get? b = some o → o.data = .dict es ep → H b = none := by
      intro b o es ep e1 e2
      cases z : H b with
      | none => rfl
      | some u =>
        exfalso
        have e3 : b = a := q4 b (by rw [z]; intro y; cases y)
        subst e3
        rw [la] at e1
        cases e1
        have e4 : Data.seq vs.toArray _ = Data.dict es ep := e2
        cases e4
    have nk : ∀ {b : Addr} {m : Str → Option Value}, s₁.heap.Ns b m → (hidT s₁.heap H).Ns b m := fun {b m} y => by
      obtain ⟨o, es, ep, e1, e2, e3⟩ := y
      exact ⟨o, es, ep, hidT_get e1 (nd e1 e2), e2, e3⟩
    have kb : K.In (hidT s₁.heap H) := fun b o e => hidT_get (KX b o e) (by
      cases z : H b with
      | none => rfl
      | some u =>
        exfalso
        have e3 : b = a := q4 b (by rw [z]; intro y; cases y)
        subst e3
        rw [q5 (by rw [z]; intro y; cases y)] at e
        cases e)
    obtain ⟨mc, l1, l2⟩ := n4
    have m0 : Mod K mg (hidT s₁.heap H) := ⟨kb, nk n1, ⟨mb, nk n2, n3⟩, ⟨mc, nk l1, l2⟩⟩
    have ev : Env0 P w K mg (hidT s₁.heap H) callerA [] s₁ H := ⟨rfl, m0, fun b o e => of_hidT e, Nat.le_of_eq (hidT_size _ _), trivial, fun b hb => absurd (show b ∈ ([] : List Addr) from hb) (by simp), q3, .of_eq n5⟩
    refine codeAny_mono (F _ H kb (nk n1) ev (hs H q2)) fun r s' h => ?_
    cases r with
    | error e => exact h.elim
    | ok fl =>
      cases fl with
      | next => exact h.elim
      | brk => exact h.elim
      | cont => exact h.elim
      | ret u =>
        obtain ⟨v, H', os, bare, un, ok', rel, qv⟩ := h
        have qv : v = .bl true := qv
        subst qv
        obtain rfl : u = Value.bool true := rel
        refine ⟨rfl, OldK.of_keep fun b o e => ?_, os, bare⟩
        cases z : H b with
        | none => exact un.keep b o e z (by intro y; exact absurd (show b ∈ ([] : List Addr) from y) (by simp)) (by simp)
        | some u =>
          rcases q1 b with y | ⟨ob, xs, y⟩
          · rw [z] at y
            cases y
          · obtain ⟨e1, _⟩ := q3 b _ y
            obtain ⟨e2, _⟩ := ok' b _ (un.frzs b ob _ y)
            rw [e] at e1
            cases e1
            exact e2
  cases hk : K.lookup a with
  | some o =>
    have e := KX a o hk
    rw [la] at e
    cases e
    refine main (fun _ => none) (fun _ => Or.inl rfl) (Or.inr ⟨_, vs.toArray, _, hk, rfl, rfl, rfl, ?_, by simpa using rv⟩) (fun b u z => by cases (show (none : Option HO) = some u from z)) (fun b z => absurd rfl z) (fun z => absurd rfl z)
    rw [List.size_toArray, lv]
    exact hl
  | none =>
    refine main (fun b => if b = a then some (.frz { cls := .type "list", data := .seq vs.toArray } (.lst (ns.map V.int))) else none) (fun b => ?_) (Or.inl (Or.inr ⟨_, if_pos rfl⟩)) (fun b u z => ?_) (fun b z => ?_) fun _ => hk
    · by_cases hb : b = a
      · exact Or.inr ⟨_, _, if_pos hb⟩
      · exact Or.inl (if_neg hb)
    · by_cases hb : b = a
      · have y := (if_pos hb).symm.trans z
        cases y
        subst hb
        refine ⟨la, ?_⟩
        exact ⟨by rw [List.length_map]; exact hl, vs, _, rv, la⟩
      · cases (if_neg hb).symm.trans z
    · by_cases hb : b = a
      · exact hb
      · exact absurd (if_neg hb) z
end
end KX
namespace KX
open PySem PySem.Spec PyProof.Rows L2 FC FP
open Evl (Ex)
abbrev xParams (r0 r1 r2 : Pos) (n1 : Nat) : Arguments := { posonlyargs := [], args := [{ arg := "self", annotation := none, pos := r0 }, { arg := "value", annotation := none, pos := r1 }], vararg := none, kwonlyargs := [], kw_defaults := [], kwarg := none, defaults := [.Constant .none n1 r2] }
/-- the __init__ of the class D as the top has left it -/
structure XIni (P : Program) (K : PySem.W.Frag) (D f : Addr) : Prop where
  ex : ∃ (cc cda T : Addr) (oT : Obj) (nT : Nat) (qual m : Str) (n n1 : Nat) (p0 p1 p2 p3 p4 p5 q0 q1 q2 q3 r0 r1 r2 : Pos) (kV doc pm ct oc ccl cl : Value) (an od cdd cld : Option Addr) (osl ccs csl : Array (Option Value)) (vs : Array Value) (file : Str) (tf : Tok),
    K.lookup f = some ⟨oc, od, .func (PySem.W.ksFn "__init__" qual (xParams r0 r1 r2 n1) (xBody m n p0 p1 p2 p3 p4 p5 q0 q1 q2 q3) xScope (.ref T) kV doc pm an (.ref cda) ct cc), osl⟩ ∧ PySem.W.codeIn K (.ref cda) qual = true ∧
    K.lookup cda = some ⟨ccl, cdd, .fields vs, ccs⟩ ∧ vs[2]? = some (.str file tf) ∧ ((P.main.file : Str) == file) = true ∧ K.lookup cc = some ⟨cl, cld, .cell (some (.ref D)), csl⟩ ∧ (p2.endLine == p4.line) = true ∧ K.lookup T = some oT ∧ oT.data = .seq #[.none] nT
theorem XIni.mk' {P : Program} {K : PySem.W.Frag} {D f : Addr} {cc cda T : Addr} {oT : Obj} {nT : Nat} {qual m : Str} {n n1 : Nat} {p0 p1 p2 p3 p4 p5 q0 q1 q2 q3 r0 r1 r2 : Pos} {kV doc pm ct oc ccl cl : Value} {an od cdd cld : Option Addr} {osl ccs csl : Array (Option Value)} {vs : Array Value} {file : Str} {tf : Tok}
    (a : K.lookup f = some ⟨oc, od, .func (PySem.W.ksFn "__init__" qual (xParams r0 r1 r2 n1) (xBody m n p0 p1 p2 p3 p4 p5 q0 q1 q2 q3) xScope (.ref T) kV doc pm an (.ref cda) ct cc), osl⟩) (b : PySem.W.codeIn K (.ref cda) qual = true)
    (c : K.lookup cda = some ⟨ccl, cdd, .fields vs, ccs⟩) (d : vs[2]? = some (.str file tf)) (e : ((P.main.file : Str) == file) = true) (g : K.lookup cc = some ⟨cl, cld, .cell (some (.ref D)), csl⟩) (h : (p2.endLine == p4.line) = true) (i : K.lookup T = some oT) (j : oT.data = .seq #[.none] nT) : XIni P K D f :=
  ⟨cc, cda, T, oT, nT, qual, m, n, n1, p0, p1, p2, p3, p4, p5, q0, q1, q2, q3, r0, r1, r2, kV, doc, pm, ct, oc, ccl, cl, an, od, cdd, cld, osl, ccs, csl, vs, file, tf, a, b, c, d, e, g, h, i, j⟩
section
variable {P : Program} {w : World} {K : PySem.W.Frag} {mg : Str → Option Value} {base : Heap} {f D : Addr}
/-- what a class wants, but for its __init__ -/
structure XC0 (K : PySem.W.Frag) (x : Str) (D f : Addr) : Prop where
  g : PySem.W.nsIn K mainGlobals x = some (some (.ref D))
  kp : PySem.W.keepIn K (.ref D) = true
  iC : PySem.W.findIn K (.ref D) "__init__" = some (some (.ref f))
  tI : PySem.W.typeIn K (.ref f) = some (.type "function")
  cl : ∃ nm q N bs bm sn sub ab col dd k0 k1 k2 k3 k5, K.lookup D = some (excClassObj nm q D N bs bm true sn sub ab col dd k0 k1 k2 k3 k5 "ValueError.__new__") ∧ PySem.HandSPX.refsVE bm = true
  sa : PySem.W.findIn K (.ref D) "__setattr__" = some (some (.builtin "object.__setattr__"))
  eB : PySem.W.subIn K (.ref D) (.type "BaseException") = some true
  ty : PySem.W.typeIn K (.ref D) = some (.type "type")
  ei : PySem.W.excInitIn K D bmV "ValueError.__new__" = true
  sm : PySem.W.ks_superIn K D D "__init__" = some (some (.builtin "ValueError.__init__"))
  sB : PySem.W.subIn K (.ref D) (.type "ValueError") = some true
  sD : PySem.W.mroIn K D (.ref D) = some true
  nv : PySem.W.findIn K (.ref D) "value" = some none
theorem XC0.cls {x : Str} (c : XC0 K x D f) : XCls K D := ⟨⟨c.cl, c.sa, c.eB, c.ty, c.kp⟩, c.ei, c.sm, c.sB, c.sD, c.nv⟩
theorem xmk {x : Str} (c : XC0 K x D f) (T : XTop P K) (I : XIni P K D f) (hm : mg x = some (.ref D)) : XMk P w K mg base 1 x D := by
  obtain ⟨cc, cda, T0, oT, nT, qual, m, n, n1, p0, p1, p2, p3, p4, p5, q0, q1, q2, q3, r0, r1, r2, kV, doc, pm, ct, oc, ccl, cl, an, od, cdd, cld, osl, ccs, csl, vs, file, tf, a1, a2, a3, a4, a5, a6, a7, a8, a9⟩ := I.ex
  refine ⟨c.cls, hm, c.kp, f, _, c.iC, c.tI, xinit_ok (k := 0) c.cls T ⟨cc, cda, qual, m, n, p0, p1, p2, p3, p4, p5, q0, q1, q2, q3, xParams r0 r1 r2 n1, .ref T0, kV, doc, pm, ct, oc, ccl, cl, an, od, cdd, cld, osl, ccs, csl, vs, file, tf, _, rfl, a1, a2, a3, a4, a5, a6, rfl, rfl, a7⟩, ?_, ?_, ?_⟩
  · intro s us X hl
    refine BindsTo.of_looks fun M => ?_
    rw [List.append_nil] at hl ⊢
    obtain ⟨k, e1, e2⟩ : ∃ k, bindArgs (PySem.W.ksFn "__init__" qual (xParams r0 r1 r2 n1) (xBody m n p0 p1 p2 p3 p4 p5 q0 q1 q2 q3) xScope (.ref T0) kV doc pm an (.ref cda) ct cc) ⟨us, []⟩ = seqItems? (.ref T0) >>= k ∧ k (some #[.none]) = pure ((["self", "value"] : List Str).zip us) :=
      match us, hl with
      | [], h => by exact absurd h (by simp)
      | [_], h => by exact absurd h (by simp)
      | _ :: _ :: [], _ => ⟨_, rfl, rfl⟩
      | _ :: _ :: _ :: _, h => by exact absurd h (by simp)
    rw [e1]
    exact looks_items X a8 a9 (.of_pure e2)
  · intro s us X hl
    refine BindsTo.of_looks fun M => ?_
    obtain ⟨k, e1, e2⟩ : ∃ k, bindArgs (PySem.W.ksFn "__init__" qual (xParams r0 r1 r2 n1) (xBody m n p0 p1 p2 p3 p4 p5 q0 q1 q2 q3) xScope (.ref T0) kV doc pm an (.ref cda) ct cc) ⟨us, []⟩ = seqItems? (.ref T0) >>= k ∧ k (some #[.none]) = pure ((["self", "value"] : List Str).zip (us ++ [.none])) :=
      match us, hl with
      | [], h => by exact absurd h (by simp)
      | _ :: [], _ => ⟨_, rfl, rfl⟩
      | _ :: _ :: _, h => by exact absurd h (by simp)
    rw [e1]
    exact looks_items X a8 a9 (.of_pure e2)
  · intro s u v X
    refine BindsTo.of_looks fun M => ?_
    obtain ⟨k, e1, e2⟩ : ∃ k, bindArgs (PySem.W.ksFn "__init__" qual (xParams r0 r1 r2 n1) (xBody m n p0 p1 p2 p3 p4 p5 q0 q1 q2 q3) xScope (.ref T0) kV doc pm an (.ref cda) ct cc) ⟨[u], [("value", v)]⟩ = seqItems? (.ref T0) >>= k ∧ k (some #[.none]) = pure ((["self", "value"] : List Str).zip [u, v]) := ⟨_, rfl, rfl⟩
    rw [e1]
    exact looks_items X a8 a9 (.of_pure e2)
end
end KX
namespace KX
open PySem PySem.Spec PyProof.Rows L2 FC FP
open Evl (Ex)
/-! ### the end -/
structure At (K : PySem.W.Frag) (x : Str) (st : Stmt) (f : Addr) : Prop where
  ex : ∃ (oc : Value) (od an : Option Addr) (sl : Array (Option Value)) (kV dc pm cd ct : Value), PySem.W.nsIn K mainGlobals x = some (some (.ref f)) ∧ K.lookup f = some ⟨oc, od, .func (PySem.W.fnOf x x (defArgs st) (defBody st) (defScope st) .none kV dc pm an cd ct), sl⟩ ∧ PySem.W.codeIn K cd x = true ∧ PySem.W.keepIn K (.ref f) = true
theorem At.mk' {K : PySem.W.Frag} {x : Str} {st : Stmt} {f : Addr} {oc : Value} {od an : Option Addr} {sl : Array (Option Value)} {kV dc pm cd ct : Value} (a : PySem.W.nsIn K mainGlobals x = some (some (.ref f))) (l : K.lookup f = some ⟨oc, od, .func (PySem.W.fnOf x x (defArgs st) (defBody st) (defScope st) .none kV dc pm an cd ct), sl⟩) (c : PySem.W.codeIn K cd x = true) (k : PySem.W.keepIn K (.ref f) = true) : At K x st f :=
  ⟨oc, od, an, sl, kV, dc, pm, cd, ct, a, l, c, k⟩
theorem At.fun {K : PySem.W.Frag} {x : Str} {st : Stmt} {f : Addr} (a : At K x st f) : ∃ fd, Fun K x x st f fd := by
  obtain ⟨oc, od, an, sl, kV, dc, pm, cd, ct, _, l, c, k⟩ := a.ex
  exact ⟨_, fun_mk l c k⟩
theorem At.mg {K : PySem.W.Frag} {x : Str} {st : Stmt} {f : Addr} (a : At K x st f) {h : Heap} {mg : Str → Option Value} (X : K.In h) (G : h.Ns mainGlobals mg) : mg x = some (.ref f) := by
  obtain ⟨oc, od, an, sl, kV, dc, pm, cd, ct, e, _⟩ := a.ex
  exact PySem.W.mg_of X G e
theorem xc0_mk {K : PySem.W.Frag} {x : Str} {D f : Addr} {nm q : Str} {N : Addr} {bs bm : List Value} {sn : List Str} {sub : List Value} {ab : Bool} {col : Option Bool} {dd : Option Addr} {k0 k1 k2 k3 k5 : Option Value} (g : PySem.W.nsIn K mainGlobals x = some (some (.ref D))) (kp : PySem.W.keepIn K (.ref D) = true)
    (iC : PySem.W.findIn K (.ref D) "__init__" = some (some (.ref f))) (tI : PySem.W.typeIn K (.ref f) = some (.type "function")) (cl : K.lookup D = some (excClassObj nm q D N bs bm true sn sub ab col dd k0 k1 k2 k3 k5 "ValueError.__new__")) (rv : PySem.HandSPX.refsVE bm = true)
    (sa : PySem.W.findIn K (.ref D) "__setattr__" = some (some (.builtin "object.__setattr__"))) (eB : PySem.W.subIn K (.ref D) (.type "BaseException") = some true) (ty : PySem.W.typeIn K (.ref D) = some (.type "type")) (ei : PySem.W.excInitIn K D bmV "ValueError.__new__" = true)
    (sm : PySem.W.ks_superIn K D D "__init__" = some (some (.builtin "ValueError.__init__"))) (sB : PySem.W.subIn K (.ref D) (.type "ValueError") = some true) (sD : PySem.W.mroIn K D (.ref D) = some true) (nv : PySem.W.findIn K (.ref D) "value" = some none) : XC0 K x D f :=
  ⟨g, kp, iC, tI, ⟨_, _, _, _, _, _, _, _, _, _, _, _, _, _, _, cl, rv⟩, sa, eB, ty, ei, sm, sB, sD, nv⟩
/-! tables of answers, counted -/
def tab1 {α : Type} (f : α → Nat → Bool) : Nat → List α → Bool
  | _, [] => true
  | n, a :: r => f a n && tab1 f (n + 1) r
theorem tab1_get {α : Type} {f : α → Nat → Bool} : ∀ {l : List α} {n i : Nat} {a : α}, tab1 f n l = true → l[i]? = some a → f a (n + i) = true
  | [], _, _, _, _, e => by simp at e
  | b :: r, n, 0, a, h, e => by
    simp only [tab1, Bool.and_eq_true] at h
    obtain rfl : b = a := by simpa using e
    exact h.1
  | b :: r, n, i + 1, a, h, e => by
    simp only [tab1, Bool.and_eq_true] at h
    have z := tab1_get (i := i) h.2 (by simpa using e)
    rwa [show n + 1 + i = n + (i + 1) by omega] at z
def kitT (K : PySem.W.Frag) (l : List Addr) : Bool := tab1 (fun D i => tab1 (fun E j => PySem.W.kitOne K (.ref D) (.ref E) == some (decide (j = i))) 0 l) 0 l
def isB (K : PySem.W.Frag) (D : Addr) : Bool :=
  (PySem.W.clsIn K D).isSome && PySem.W.findIn K (.ref D) "__getattribute__" == some (some (.builtin "BaseException.__getattribute__")) && PySem.W.findIn K (.ref D) "__getattr__" == some none && PySem.W.subIn K (.ref D) (.type "BaseException") == some true && PySem.W.hasDictIn K D &&
  PySem.W.findIn K (.ref D) "__class__" == some (some (.builtin "object.__class__")) && PySem.W.specialIn K (.builtin "object.__class__") "__get__" == some (some (.builtin "getset_descriptor.__get__")) && PySem.W.takesIn K (.builtin "object.__class__") == some true && PySem.W.mroIn K D (.type "object") == some true && PySem.W.findIn K (.ref D) "value" == some none
theorem isB_of {K : PySem.W.Frag} {D : Addr} (h : isB K D = true) : XIs K D := by
  simp only [isB, Bool.and_eq_true, beq_iff_eq] at h
  obtain ⟨⟨⟨⟨⟨⟨⟨⟨⟨h1, h2⟩, h3⟩, h4⟩, h5⟩, h6⟩, h7⟩, h8⟩, h9⟩, h10⟩ := h
  exact ⟨h1, h2, h3, h4, h5, h6, h7, h8, h9, h10⟩
def kisT (K : PySem.W.Frag) (l : List Addr) (c : Value) : Bool := l.all fun D => PySem.W.kitOne K (.ref D) c == some true
theorem kisT_of {K : PySem.W.Frag} {l : List Addr} {c : Value} (h : kisT K l c = true) : ∀ D ∈ l, PySem.W.kitOne K (.ref D) c = some true := fun D hD => beq_iff_eq.mp (List.all_eq_true.mp h D hD)
def kicT (K : PySem.W.Frag) (t : Value) (l : List Addr) : Bool := tab1 (fun E _ => PySem.W.kitOne K t (.ref E) == some false) 0 l
structure Top (P : Program) (K : PySem.W.Frag) (c0 c1 c2 c3 c4 c5 c6 c7 c8 c9 ce : Addr) : Prop where
  x0 : ∃ f, XC0 K "InvalidKinds" c0 f ∧ XIni P K c0 f
  x1 : ∃ f, XC0 K "InvalidKind" c1 f ∧ XIni P K c1 f
  x2 : ∃ f, XC0 K "InvalidValue" c2 f ∧ XIni P K c2 f
  x3 : ∃ f, XC0 K "InvalidSize" c3 f ∧ XIni P K c3 f
  x4 : ∃ f, XC0 K "InvalidNumber" c4 f ∧ XIni P K c4 f
  x5 : ∃ f, XC0 K "InvalidPattern" c5 f ∧ XIni P K c5 f
  x6 : ∃ f, XC0 K "InvalidClause" c6 f ∧ XIni P K c6 f
  x7 : ∃ f, XC0 K "InvalidClauses" c7 f ∧ XIni P K c7 f
  x8 : ∃ f, XC0 K "InvalidPosition" c8 f ∧ XIni P K c8 f
  g_c9 : PySem.W.nsIn K mainGlobals "NothingToUndo" = some (some (.ref c9))
  k_c9 : PySem.W.keepIn K (.ref c9) = true
  x_c9 : PySem.W.excIn K c9 bmV "ValueError.__new__" = true
  g_ce : PySem.W.nsIn K mainGlobals "ClauseError" = some (some (.ref ce))
  k_ce : PySem.W.keepIn K (.ref ce) = true
  x_ce : PySem.W.excIn K ce bmV "ValueError.__new__" = true
  t_is : [c0, c1, c2, c3, c4, c5, c6, c7, c8, c9, ce].all (isB K) = true
  t_kit : kitT K [c0, c1, c2, c3, c4, c5, c6, c7, c8, c9] = true
  t_kie : kisT K [c0, c1, c2, c3, c4, c5, c6, c7, c8, c9, ce] (.ref ce) = true
  t_kiv : kisT K [c0, c1, c2, c3, c4, c5, c6, c7, c8, c9, ce] (.type "ValueError") = true
  t_kic : kicT K (.ref ce) [c0, c1, c2, c3, c4, c5, c6, c7, c8, c9] = true
  t_sup : PySem.W.nsIn K mainGlobals "super" = some none
  t_tp : PySem.W.nsIn K cStatics "thirdparty.any" = some none
  t_top : (P.main.scope.names.lookup ("super" : Str)).isSome = false
  a_law_classes : ∃ f, At K "_law_classes" s_classes f
  a_law_placed : ∃ f, At K "_law_placed" s_placed f
  a_law_thing : ∃ f, At K "_law_thing" s_thing f
  a_law_made : ∃ f, At K "_law_made" s_made f
  a_law_by_name : ∃ f, At K "_law_by_name" s_by_name f
  alaw : ∃ f, At K "law" s_law f
  z_isinstance : PySem.W.nsIn K mainGlobals "isinstance" = some none
  z_len : PySem.W.nsIn K mainGlobals "len" = some none
  z_all : PySem.W.nsIn K mainGlobals "all" = some none
  z_int : PySem.W.nsIn K mainGlobals "int" = some none
  z_bool : PySem.W.nsIn K mainGlobals "bool" = some none
  z_str : PySem.W.nsIn K mainGlobals "str" = some none
  z_tuple : PySem.W.nsIn K mainGlobals "tuple" = some none
  z_list : PySem.W.nsIn K mainGlobals "list" = some none
  z_dict : PySem.W.nsIn K mainGlobals "dict" = some none
  z_enumerate : PySem.W.nsIn K mainGlobals "enumerate" = some none
  z_range : PySem.W.nsIn K mainGlobals "range" = some none
  z_max : PySem.W.nsIn K mainGlobals "max" = some none
  z_sum : PySem.W.nsIn K mainGlobals "sum" = some none
  z_ValueError : PySem.W.nsIn K mainGlobals "ValueError" = some none
  z_repr : PySem.W.nsIn K mainGlobals "repr" = some none
section
variable {P : Program} {w : World} {K : PySem.W.Frag} {mg : Str → Option Value} {base : Heap}
theorem cl1 {x : Str} {st : Stmt} {f : Addr} {fd : FuncData} {ps : List Str} {k : Nat} {sp : Sp} (F : Fun K x x st f fd) (G : FnOk P w K mg base CX0 k f fd ps sp) (hm : mg x = some (.ref f)) (hb : ∀ (kV doc pm : Value) (an : Option Addr) (cdv ct : Value) (us : List Value), us.length = ps.length → bindArgs (PySem.W.fnOf x x (defArgs st) (defBody st) (defScope st) .none kV doc pm an cdv ct) ⟨us, []⟩ = pure (ps.zip us)) : Cl P w K mg base k x sp := ⟨f, fd, ps, G, hm, F.kp, F.binds hb⟩
theorem all_ok {c0 c1 c2 c3 c4 c5 c6 c7 c8 c9 ce : Addr} (T : Top P K c0 c1 c2 c3 c4 c5 c6 c7 c8 c9 ce) {h : Heap} (X : K.In h) (G : h.Ns mainGlobals mg) {fa : Addr} (hfa : mg "law" = some (.ref fa)) {s₁ : Shared} {a : Addr} {base : Heap} {H : Hp}
    (e0 : Env0 P w K mg base callerA [] s₁ H) (hs : spLaw K [.ref a] H (fun v _ => v = .bl true) E0) : codeAny (model P w) callerA (.call (.ref fa) ⟨[.ref a], []⟩) (CR CX0 [] P w H s₁ (fun v _ => v = .bl true) E0) s₁ := by
  obtain ⟨f__law_classes, a__law_classes⟩ := T.a_law_classes
  obtain ⟨d__law_classes, F__law_classes⟩ := a__law_classes.fun
  have m__law_classes := a__law_classes.mg X G
  obtain ⟨f__law_placed, a__law_placed⟩ := T.a_law_placed
  obtain ⟨d__law_placed, F__law_placed⟩ := a__law_placed.fun
  have m__law_placed := a__law_placed.mg X G
  obtain ⟨f__law_thing, a__law_thing⟩ := T.a_law_thing
  obtain ⟨d__law_thing, F__law_thing⟩ := a__law_thing.fun
  have m__law_thing := a__law_thing.mg X G
  obtain ⟨f__law_made, a__law_made⟩ := T.a_law_made
  obtain ⟨d__law_made, F__law_made⟩ := a__law_made.fun
  have m__law_made := a__law_made.mg X G
  obtain ⟨f__law_by_name, a__law_by_name⟩ := T.a_law_by_name
  obtain ⟨d__law_by_name, F__law_by_name⟩ := a__law_by_name.fun
  have m__law_by_name := a__law_by_name.mg X G
  obtain ⟨f_law, a_law⟩ := T.alaw
  obtain ⟨d_law, F_law⟩ := a_law.fun
  have m_law := a_law.mg X G
  have e := hfa.symm.trans m_law
  cases e
  have M : Bl mg := ⟨PySem.W.mg_none_of X G T.z_isinstance, PySem.W.mg_none_of X G T.z_len, PySem.W.mg_none_of X G T.z_all, PySem.W.mg_none_of X G T.z_int, PySem.W.mg_none_of X G T.z_bool, PySem.W.mg_none_of X G T.z_str, PySem.W.mg_none_of X G T.z_tuple, PySem.W.mg_none_of X G T.z_list, PySem.W.mg_none_of X G T.z_dict, PySem.W.mg_none_of X G T.z_enumerate, PySem.W.mg_none_of X G T.z_range, PySem.W.mg_none_of X G T.z_max, PySem.W.mg_none_of X G T.z_sum⟩
  have hve := PySem.W.mg_none_of X G T.z_ValueError
  have hrp := PySem.W.mg_none_of X G T.z_repr
  have TT : XTop P K := ⟨T.t_sup, T.t_tp, T.t_top⟩
  obtain ⟨f0, x0, i0⟩ := T.x0
  have y0 := xmk (P := P) (w := w) (mg := mg) (base := base) x0 TT i0 (PySem.W.mg_of X G x0.g)
  obtain ⟨f1, x1, i1⟩ := T.x1
  have y1 := xmk (P := P) (w := w) (mg := mg) (base := base) x1 TT i1 (PySem.W.mg_of X G x1.g)
  obtain ⟨f2, x2, i2⟩ := T.x2
  have y2 := xmk (P := P) (w := w) (mg := mg) (base := base) x2 TT i2 (PySem.W.mg_of X G x2.g)
  obtain ⟨f3, x3, i3⟩ := T.x3
  have y3 := xmk (P := P) (w := w) (mg := mg) (base := base) x3 TT i3 (PySem.W.mg_of X G x3.g)
  obtain ⟨f4, x4, i4⟩ := T.x4
  have y4 := xmk (P := P) (w := w) (mg := mg) (base := base) x4 TT i4 (PySem.W.mg_of X G x4.g)
  obtain ⟨f5, x5, i5⟩ := T.x5
  have y5 := xmk (P := P) (w := w) (mg := mg) (base := base) x5 TT i5 (PySem.W.mg_of X G x5.g)
  obtain ⟨f6, x6, i6⟩ := T.x6
  have y6 := xmk (P := P) (w := w) (mg := mg) (base := base) x6 TT i6 (PySem.W.mg_of X G x6.g)
  obtain ⟨f7, x7, i7⟩ := T.x7
  have y7 := xmk (P := P) (w := w) (mg := mg) (base := base) x7 TT i7 (PySem.W.mg_of X G x7.g)
  obtain ⟨f8, x8, i8⟩ := T.x8
  have y8 := xmk (P := P) (w := w) (mg := mg) (base := base) x8 TT i8 (PySem.W.mg_of X G x8.g)
  have C : CT P w K mg base 1 c0 c1 c2 c3 c4 c5 c6 c7 c8 c9 ce := ⟨y0, y1, y2, y3, y4, y5, y6, y7, y8, PySem.W.mg_of X G T.g_c9, PySem.W.mg_of X G T.g_ce, T.k_c9, T.k_ce, T.x_c9, T.x_ce, fun D hD => isB_of (List.all_eq_true.mp T.t_is D hD), fun i j D E hD hE => ?kit, kisT_of T.t_kie, kisT_of T.t_kiv, fun j E hE => beq_iff_eq.mp (tab1_get T.t_kic hE)⟩
  case kit =>
    have z := tab1_get (tab1_get T.t_kit hD) hE
    rw [beq_iff_eq, Nat.zero_add, Nat.zero_add] at z
    exact z
  have c__law_classes := cl1 (P := P) (w := w) (base := base) F__law_classes (ok_classes F__law_classes M C) m__law_classes (fun _ _ _ _ _ _ us hl => match us, hl with | [_], _ => rfl)
  have c__law_placed := cl1 (P := P) (w := w) (base := base) F__law_placed (ok_placed F__law_placed M hve C c__law_classes) m__law_placed (fun _ _ _ _ _ _ us hl => match us, hl with | [_], _ => rfl)
  have c__law_thing := cl1 (P := P) (w := w) (base := base) F__law_thing (ok_thing F__law_thing M) m__law_thing (fun _ _ _ _ _ _ us hl => match us, hl with | [_, _], _ => rfl)
  have c__law_made := cl1 (P := P) (w := w) (base := base) F__law_made (ok_made F__law_made C) m__law_made (fun _ _ _ _ _ _ us hl => match us, hl with | [_], _ => rfl)
  have c__law_by_name := cl1 (P := P) (w := w) (base := base) F__law_by_name (ok_by_name F__law_by_name C) m__law_by_name (fun _ _ _ _ _ _ us hl => match us, hl with | [_], _ => rfl)
  have hb : BindsTo s₁ d_law ⟨[.ref a], []⟩ ((["script"] : List Str).zip [.ref a]) := by
    obtain ⟨oc, od, kV, doc, pm, an, cdv, ct, osl, rfl, lk, hcd⟩ := F_law.ex
    exact .of_eq rfl
  exact run_at (k := 3) (us := [.ref a]) (vs := [.ref a]) F_law sc_law rfl ⟨rfl, by decide, by decide⟩ e0 hb (.cons rfl .nil) fun cdv hr => law_body M hve hrp C c__law_classes c__law_placed c__law_thing c__law_made c__law_by_name cdv callerA rfl [] s₁ H _ _ _ hr hs
end
end KX
open PySem PySem.W PyProof.Rows
set_option maxRecDepth 100000 in
set_option maxHeartbeats 0 in
theorem PySem.Challenge.cw_firstclause_k01_errors_made_holds : PySem.Challenge.rw_firstclause_k01_errors_made.Holds := by
  w_on; o_law; k_head; (case hw => w_witness2)
  k_fill
  refine Att.attach_call (l := PySem.Challenge.rw_firstclause_k01_errors_made) (n := 63) rfl rfl fun w s₀ s₁ mg mb fa o pm cd doc a vs ns G Y ho hd hcd hmg hobj hints hlen hg => ?_
  have X := PySem.W.kIn_of Y
  refine KX.call_at (sp := KX.spLaw _) X G.T.g G.T.b G.T.builtins G.T.nolimit hg hobj hints (Nat.le_trans hlen (by decide)) (fun base H _ _ e0 hs => ?F) (fun H hS => ⟨a, ns, rfl, hS, hlen, fun _ => rfl⟩)
  case F =>
    refine' KX.all_ok (c0 := _) (c1 := _) (c2 := _) (c3 := _) (c4 := _) (c5 := _) (c6 := _) (c7 := _) (c8 := _) (c9 := _) (ce := _) ?T X G.T.g hmg e0 hs
    case T =>
      refine' ⟨⟨_, KX.xc0_mk ?x0g ?x0kp ?x0iC ?x0tI ?x0cl ?x0rv ?x0sa ?x0eB ?x0ty ?x0ei ?x0sm ?x0sB ?x0sD ?x0nv, KX.XIni.mk' ?i0a ?i0b ?i0c ?i0d ?i0e ?i0g ?i0h ?i0i ?i0j⟩, ⟨_, KX.xc0_mk ?x1g ?x1kp ?x1iC ?x1tI ?x1cl ?x1rv ?x1sa ?x1eB ?x1ty ?x1ei ?x1sm ?x1sB ?x1sD ?x1nv, KX.XIni.mk' ?i1a ?i1b ?i1c ?i1d ?i1e ?i1g ?i1h ?i1i ?i1j⟩, ⟨_, KX.xc0_mk ?x2g ?x2kp ?x2iC ?x2tI ?x2cl ?x2rv ?x2sa ?x2eB ?x2ty ?x2ei ?x2sm ?x2sB ?x2sD ?x2nv, KX.XIni.mk' ?i2a ?i2b ?i2c ?i2d ?i2e ?i2g ?i2h ?i2i ?i2j⟩, ⟨_, KX.xc0_mk ?x3g ?x3kp ?x3iC ?x3tI ?x3cl ?x3rv ?x3sa ?x3eB ?x3ty ?x3ei ?x3sm ?x3sB ?x3sD ?x3nv, KX.XIni.mk' ?i3a ?i3b ?i3c ?i3d ?i3e ?i3g ?i3h ?i3i ?i3j⟩, ⟨_, KX.xc0_mk ?x4g ?x4kp ?x4iC ?x4tI ?x4cl ?x4rv ?x4sa ?x4eB ?x4ty ?x4ei ?x4sm ?x4sB ?x4sD ?x4nv, KX.XIni.mk' ?i4a ?i4b ?i4c ?i4d ?i4e ?i4g ?i4h ?i4i ?i4j⟩, ⟨_, KX.xc0_mk ?x5g ?x5kp ?x5iC ?x5tI ?x5cl ?x5rv ?x5sa ?x5eB ?x5ty ?x5ei ?x5sm ?x5sB ?x5sD ?x5nv, KX.XIni.mk' ?i5a ?i5b ?i5c ?i5d ?i5e ?i5g ?i5h ?i5i ?i5j⟩, ⟨_, KX.xc0_mk ?x6g ?x6kp ?x6iC ?x6tI ?x6cl ?x6rv ?x6sa ?x6eB ?x6ty ?x6ei ?x6sm ?x6sB ?x6sD ?x6nv, KX.XIni.mk' ?i6a ?i6b ?i6c ?i6d ?i6e ?i6g ?i6h ?i6i ?i6j⟩, ⟨_, KX.xc0_mk ?x7g ?x7kp ?x7iC ?x7tI ?x7cl ?x7rv ?x7sa ?x7eB ?x7ty ?x7ei ?x7sm ?x7sB ?x7sD ?x7nv, KX.XIni.mk' ?i7a ?i7b ?i7c ?i7d ?i7e ?i7g ?i7h ?i7i ?i7j⟩, ⟨_, KX.xc0_mk ?x8g ?x8kp ?x8iC ?x8tI ?x8cl ?x8rv ?x8sa ?x8eB ?x8ty ?x8ei ?x8sm ?x8sB ?x8sD ?x8nv, KX.XIni.mk' ?i8a ?i8b ?i8c ?i8d ?i8e ?i8g ?i8h ?i8i ?i8j⟩, ?g_c9, ?k_c9, ?x_c9, ?g_ce, ?k_ce, ?x_ce, ?t_is, ?t_kit, ?t_kie, ?t_kiv, ?t_kic, ?t_sup, ?t_tp, ?t_top, ⟨_, KX.At.mk' ?a0 ?l0 ?c0 ?k0⟩, ⟨_, KX.At.mk' ?a1 ?l1 ?c1 ?k1⟩, ⟨_, KX.At.mk' ?a2 ?l2 ?c2 ?k2⟩, ⟨_, KX.At.mk' ?a3 ?l3 ?c3 ?k3⟩, ⟨_, KX.At.mk' ?a4 ?l4 ?c4 ?k4⟩, ⟨_, KX.At.mk' ?a5 ?l5 ?c5 ?k5⟩, ?z_isinstance, ?z_len, ?z_all, ?z_int, ?z_bool, ?z_str, ?z_tuple, ?z_list, ?z_dict, ?z_enumerate, ?z_range, ?z_max, ?z_sum, ?z_ValueError, ?z_repr⟩
      (case x0g => k_is); (case x0kp => k_is); (case x0iC => k_is); (case x0tI => k_is); (case x0cl => k_is); (case x0rv => kernel_rfl); (case x0sa => k_is); (case x0eB => k_is); (case x0ty => k_is); (case x0ei => kernel_rfl); (case x0sm => kernel_rfl); (case x0sB => k_is); (case x0sD => k_is); (case x0nv => k_is); (case i0a => k_is); (case i0b => k_is); (case i0c => k_is); (case i0d => rfl); (case i0e => kernel_rfl); (case i0g => k_is); (case i0h => rfl); (case i0i => k_is); (case i0j => rfl)
      (case x1g => k_is); (case x1kp => k_is); (case x1iC => k_is); (case x1tI => k_is); (case x1cl => k_is); (case x1rv => kernel_rfl); (case x1sa => k_is); (case x1eB => k_is); (case x1ty => k_is); (case x1ei => kernel_rfl); (case x1sm => kernel_rfl); (case x1sB => k_is); (case x1sD => k_is); (case x1nv => k_is); (case i1a => k_is); (case i1b => k_is); (case i1c => k_is); (case i1d => rfl); (case i1e => kernel_rfl); (case i1g => k_is); (case i1h => rfl); (case i1i => k_is); (case i1j => rfl)
      (case x2g => k_is); (case x2kp => k_is); (case x2iC => k_is); (case x2tI => k_is); (case x2cl => k_is); (case x2rv => kernel_rfl); (case x2sa => k_is); (case x2eB => k_is); (case x2ty => k_is); (case x2ei => kernel_rfl); (case x2sm => kernel_rfl); (case x2sB => k_is); (case x2sD => k_is); (case x2nv => k_is); (case i2a => k_is); (case i2b => k_is); (case i2c => k_is); (case i2d => rfl); (case i2e => kernel_rfl); (case i2g => k_is); (case i2h => rfl); (case i2i => k_is); (case i2j => rfl)
      (case x3g => k_is); (case x3kp => k_is); (case x3iC => k_is); (case x3tI => k_is); (case x3cl => k_is); (case x3rv => kernel_rfl); (case x3sa => k_is); (case x3eB => k_is); (case x3ty => k_is); (case x3ei => kernel_rfl); (case x3sm => kernel_rfl); (case x3sB => k_is); (case x3sD => k_is); (case x3nv => k_is); (case i3a => k_is); (case i3b => k_is); (case i3c => k_is); (case i3d => rfl); (case i3e => kernel_rfl); (case i3g => k_is); (case i3h => rfl); (case i3i => k_is); (case i3j => rfl)
      (case x4g => k_is); (case x4kp => k_is); (case x4iC => k_is); (case x4tI => k_is); (case x4cl => k_is); (case x4rv => kernel_rfl); (case x4sa => k_is); (case x4eB => k_is); (case x4ty => k_is); (case x4ei => kernel_rfl); (case x4sm => kernel_rfl); (case x4sB => k_is); (case x4sD => k_is); (case x4nv => k_is); (case i4a => k_is); (case i4b => k_is); (case i4c => k_is); (case i4d => rfl); (case i4e => kernel_rfl); (case i4g => k_is); (case i4h => rfl); (case i4i => k_is); (case i4j => rfl)
      (case x5g => k_is); (case x5kp => k_is); (case x5iC => k_is); (case x5tI => k_is); (case x5cl => k_is); (case x5rv => kernel_rfl); (case x5sa => k_is); (case x5eB => k_is); (case x5ty => k_is); (case x5ei => kernel_rfl); (case x5sm => kernel_rfl); (case x5sB => k_is); (case x5sD => k_is); (case x5nv => k_is); (case i5a => k_is); (case i5b => k_is); (case i5c => k_is); (case i5d => rfl); (case i5e => kernel_rfl); (case i5g => k_is); (case i5h => rfl); (case i5i => k_is); (case i5j => rfl)
      (case x6g => k_is); (case x6kp => k_is); (case x6iC => k_is); (case x6tI => k_is); (case x6cl => k_is); (case x6rv => kernel_rfl); (case x6sa => k_is); (case x6eB => k_is); (case x6ty => k_is); (case x6ei => kernel_rfl); (case x6sm => kernel_rfl); (case x6sB => k_is); (case x6sD => k_is); (case x6nv => k_is); (case i6a => k_is); (case i6b => k_is); (case i6c => k_is); (case i6d => rfl); (case i6e => kernel_rfl); (case i6g => k_is); (case i6h => rfl); (case i6i => k_is); (case i6j => rfl)
      (case x7g => k_is); (case x7kp => k_is); (case x7iC => k_is); (case x7tI => k_is); (case x7cl => k_is); (case x7rv => kernel_rfl); (case x7sa => k_is); (case x7eB => k_is); (case x7ty => k_is); (case x7ei => kernel_rfl); (case x7sm => kernel_rfl); (case x7sB => k_is); (case x7sD => k_is); (case x7nv => k_is); (case i7a => k_is); (case i7b => k_is); (case i7c => k_is); (case i7d => rfl); (case i7e => kernel_rfl); (case i7g => k_is); (case i7h => rfl); (case i7i => k_is); (case i7j => rfl)
      (case x8g => k_is); (case x8kp => k_is); (case x8iC => k_is); (case x8tI => k_is); (case x8cl => k_is); (case x8rv => kernel_rfl); (case x8sa => k_is); (case x8eB => k_is); (case x8ty => k_is); (case x8ei => kernel_rfl); (case x8sm => kernel_rfl); (case x8sB => k_is); (case x8sD => k_is); (case x8nv => k_is); (case i8a => k_is); (case i8b => k_is); (case i8c => k_is); (case i8d => rfl); (case i8e => kernel_rfl); (case i8g => k_is); (case i8h => rfl); (case i8i => k_is); (case i8j => rfl)
      (case g_c9 => k_is)
      (case k_c9 => k_is)
      (case x_c9 => kernel_rfl)
      (case g_ce => k_is)
      (case k_ce => k_is)
      (case x_ce => kernel_rfl)
      (case t_is => kernel_rfl)
      (case t_kit => kernel_rfl)
      (case t_kie => kernel_rfl)
      (case t_kiv => kernel_rfl)
      (case t_kic => kernel_rfl)
      (case t_sup => k_is)
      (case t_tp => k_is)
      (case t_top => kernel_rfl)
      (case a0 => k_is); (case l0 => k_is); (case c0 => k_is); (case k0 => k_is)
      (case a1 => k_is); (case l1 => k_is); (case c1 => k_is); (case k1 => k_is)
      (case a2 => k_is); (case l2 => k_is); (case c2 => k_is); (case k2 => k_is)
      (case a3 => k_is); (case l3 => k_is); (case c3 => k_is); (case k3 => k_is)
      (case a4 => k_is); (case l4 => k_is); (case c4 => k_is); (case k4 => k_is)
      (case a5 => k_is); (case l5 => k_is); (case c5 => k_is); (case k5 => k_is)
      (case z_isinstance => k_is)
      (case z_len => k_is)
      (case z_all => k_is)
      (case z_int => k_is)
      (case z_bool => k_is)
      (case z_str => k_is)
      (case z_tuple => k_is)
      (case z_list => k_is)
      (case z_dict => k_is)
      (case z_enumerate => k_is)
      (case z_range => k_is)
      (case z_max => k_is)
      (case z_sum => k_is)
      (case z_ValueError => k_is)
      (case z_repr => k_is)
