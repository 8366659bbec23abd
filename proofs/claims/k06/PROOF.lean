import PyProof.Rows.All
import Wide.All
import OpenK.AllK
import Wide.FinOn
import HandS.ForMost
import HandS.IsInst
import HandS.Wide
import HandS.Strs
import HandS.SetTxt0
import HandS.Set
import HandS.SetTxtIn
import HandS.Exc
import HandS.TryOnly
import HandS.ExcOwn
import HandS.WordsExc
import PyProof.ReprReads
import PyProof.Rows.StrCut
import KE.KEqNest
import HandS.StrMore
import HandS.TupAny
import HandS.Conv
import HandS.Iter
import HandS.Defaults
import HandS.DictComp
import HandS.Style
import HandS.Zip
import KE.SortLaws
import HandS.More
import PyProof.ReprLen
import HandS.Walk
import HandS.Property
import HandS.Lambda
import KE.KNest
import HandS.EndTab
import HandS.EndBits
import KE.GoesMore
import PyProof.EnumMake
import PyProof.Draws
import PyProof.Rows.SortShell
import HandS.SortKw
import KE.SortKeyHeap
import HandS.ListItems
import HandS.DeepEq
import PySem.Challenge.RW_whatcounts_k06_whole_weights_of_function
set_option Elab.async false
set_option linter.all false
set_option maxRecDepth 100000
set_option maxHeartbeats 3200000
/-! sets of texts: made of a text, sorted -/
namespace Tx
open PySem PySem.Spec PyProof.Rows L2

/-- the text that an entry holds -/
def tx (e : Int × Value) : Str := match e.2 with
  | .str y _ => y
  | _ => Str.empty
/-- an entry of a set of texts -/
def Ent (w : World) (e : Int × Value) : Prop := ∃ y u, e.2 = Value.str y u ∧ e.1 = hashStr w y

/-- at a stands a set whose members are the texts ys, in some order -/
def At (w : World) (h : Heap) (a : Addr) (ys : List Str) : Prop :=
  ∃ (o : Obj) (es : Array (Int × Value)) (ep : Nat) (t : SetTable), h.get? a = some o ∧ o.ExactSet ∧ o.data = .set es ep t ∧
    (∀ e ∈ es.toList, Ent w e) ∧ (es.toList.map tx).Perm ys ∧ es.size < scanBound ∧ t.fits es.size = true ∧
    Ris t.place.toList ∧ (w.params.followText "set-order" = true ∨ t.led = true)

section
variable {P : Program} {w : World} {h h' : Heap} {a : Addr} {ys : List Str}
theorem At.stays (R : At w h a ys) (k : ∀ o, h.get? a = some o → h'.get? a = some o) : At w h' a ys :=
  let ⟨o, es, ep, t, ho, r⟩ := R
  ⟨o, es, ep, t, k o ho, r⟩
theorem Ent.elems {l : List (Int × Value)} (g : ∀ e ∈ l, Ent w e) : ElemsOf (strKind P w) l := by
  intro e he
  obtain ⟨y, u, q1, q2⟩ := g e he
  refine ⟨⟨y, ?_, q2⟩, ?_⟩
  · rw [q1]
    exact Froz.is_str y u
  · rw [q1]
    rfl
theorem Ent.is {e : Int × Value} (g : Ent w e) (k : Str) : (strKind P w).is k e.2 = true ↔ tx e = k := by
  obtain ⟨y, u, q1, _⟩ := g
  unfold tx
  rw [q1]
  constructor
  · intro q
    exact ((strKind P w).inj (.str y u) k y q (Froz.is_str y u)).symm
  · intro q
    subst q
    exact Froz.is_str _ u
theorem Ent.mem {l : List (Int × Value)} (g : ∀ e ∈ l, Ent w e) (k : Str) : k ∈ l.map tx ↔ ∃ e ∈ l, (strKind P w).is k e.2 = true := by
  rw [List.mem_map]
  exact ⟨fun ⟨e, he, q⟩ => ⟨e, he, ((g e he).is k).mpr q⟩, fun ⟨e, he, q⟩ => ⟨e, he, ((g e he).is k).mp q⟩⟩
end

section
variable {P : Program} {w : World} {A : Around} {E : Value → Shared → Prop} {s : Shared} {a : Addr} {ys : List Str}
theorem add_tail {g : Bool → Sem Unit} (hg : ∀ (b : Bool) (z : Shared) (R : Unit → Shared → Prop), R () z → wpAny (model P w) A (g b) R E z)
    {o : Obj} {es : Array (Int × Value)} {ep : Nat} {t : SetTable} (ho : s.heap.get? a = some o) (hx : o.ExactSet) (hd : o.data = .set es ep t)
    {es1 : Array (Int × Value)} {t2 : SetTable} (g1 : ∀ e ∈ es1.toList, Ent w e) (m1 : (es1.toList.map tx).Perm ys)
    (hb1 : es1.size < scanBound) (hf2 : t2.fits es1.size = true) (hr : Ris t2.place.toList) (hl : w.params.followText "set-order" = true ∨ t2.led = true)
    {was : Bool} {R : Option Bool → Shared → Prop}
    (hR : ∀ h', Heap.SameBut a s.heap h' → At w h' a ys → R (some true) { s with heap := h' }) :
    wpAny (model P w) A (do
        storeSet a es1 t2
        if (!was && t2.tooFull) = true then do
            g (relayAll t2 es1 (SetTable.grown es1.size)).2.2
            storeSet a (relayAll t2 es1 (SetTable.grown es1.size)).1 (relayAll t2 es1 (SetTable.grown es1.size)).2.1
            pure (some true)
          else pure (some true)) R E s := by
  refine wpAny_bind (wpAny_storeSet_of ho hd ?_ (fits_of_scanBound hb1))
  have q1 := store_at (es' := es1) (t' := t2) ho hd
  have sb := Heap.SameBut.update s.heap a (Obj.putSet es1 t2)
  split
  · have p3 := relayAll_perm t2 es1 (SetTable.grown es1.size)
    have f3 := relayAll_fits t2 es1 (SetTable.grown es1.size)
    have r3 := relayAll_ris t2 es1 (SetTable.grown es1.size)
    have l3 := relayAll_led t2 es1 (SetTable.grown es1.size)
    generalize relayAll t2 es1 (SetTable.grown es1.size) = Z at p3 f3 r3 l3 ⊢
    obtain ⟨es2, t3, gave⟩ := Z
    dsimp only at p3 f3 r3 l3 ⊢
    have z2 : es2.size = es1.size := by
      have := p3.length_eq
      rw [Array.length_toList, Array.length_toList] at this
      exact this
    refine wpAny_bind (hg _ _ _ ?_)
    refine wpAny_bind (wpAny_storeSet_of q1 rfl ?_ (fits_of_scanBound (by rw [z2]; exact hb1)))
    have q2 := store_at (es' := es2) (t' := t3) q1 rfl
    refine wpAny_pure (hR _ (sb.trans (Heap.SameBut.update _ a _)) ?_)
    exact ⟨_, es2, _, t3, q2, hx, rfl, fun e he => g1 e (p3.mem_iff.mp he), (p3.map tx).trans m1, by rw [z2]; exact hb1, f3, r3, hl.imp id fun z => l3.trans z⟩
  · exact wpAny_pure (hR _ sb ⟨_, es1, _, t2, q1, hx, rfl, g1, m1, hb1, hf2, hr, hl⟩)

theorem add_hashed {k : Str} {u : Tok} {Q : Bool → Shared → Prop} (R : At w s.heap a ys) (room : ys.length + 1 < scanBound)
    (hQ : ∀ h', Heap.SameBut a s.heap h' → At w h' a (if k ∈ ys then ys else k :: ys) → Q (!decide (k ∈ ys)) { s with heap := h' }) :
    wpAny (model P w) A (setAddHashed a (.str k u) (hashStr w k)) Q E s := by
  obtain ⟨o, es, ep, t, ho, hx, hd, g, pm, hb, hf, hr, hl⟩ := R
  have hkey : (strKind P w).is k (.str k u) = true := Froz.is_str k u
  have hel : ElemsOf (strKind P w) es.toList := Ent.elems g
  have hz : es.size = ys.length := by
    have := pm.length_eq
    rw [List.length_map, Array.length_toList] at this
    exact this
  unfold setAddHashed setAddHashedIn
  refine wpAny_holding (wpAny_bind (wpAny_setState_of ho hd hf ?_))
  dsimp only
  rw [byScan_of (x := Value.str k u) rfl hb hel]
  simp only [↓reduceIte]
  unfold setAddByScan
  refine wpAny_bind ?_
  refine wpAny_bind (wpAny_rule ?_)
  refine wpAny_bind (wpAny_setScan_of (knd := strKind P w) (k := k) hkey ho hd hf hel ?_)
  cases hfi : List.findIdx? (fun e => (strKind P w).is k e.2) es.toList with
  | some j =>
    dsimp only
    obtain ⟨hj, pj, _⟩ := List.findIdx?_eq_some_iff_getElem.mp hfi
    have hk : k ∈ ys := pm.mem_iff.mp ((Ent.mem (P := P) g k).mpr ⟨es.toList[j], List.getElem_mem hj, pj⟩)
    refine wpAny_pure (wpAny_pure ?_)
    have q := hQ s.heap (Heap.SameBut.refl a s.heap) (by rw [if_pos hk]; exact ⟨o, es, ep, t, ho, hx, hd, g, pm, hb, hf, hr, hl⟩)
    rw [decide_eq_true hk] at q
    exact q
  | none =>
    dsimp only
    have hk : k ∉ ys := fun z => by
      obtain ⟨e, he, q⟩ := (Ent.mem (P := P) g k).mp (pm.mem_iff.mpr z)
      have c := List.findIdx?_eq_none_iff.mp hfi e he
      rw [q] at c
      cases c
    have hgw : ∀ (b : Bool) {z : Shared} {R : Unit → Shared → Prop}, R () z → wpAny (model P w) A (match b with | true => rule "set.scan.the-table-gave-way" | false => pure ()) R E z := by
      intro b z R q
      cases b
      · exact wpAny_pure q
      · exact wpAny_rule q
    have p1 := layNew_perm t es (hashStr w k) (.str k u)
    have f1 := layNew_fits t es (hashStr w k) (.str k u)
    have r1 := layNew_ris t es (hashStr w k) (.str k u) hr
    have l1 := layNew_led t es (hashStr w k) (.str k u)
    generalize layNew t es (hashStr w k) (.str k u) = Z at p1 f1 r1 l1 ⊢
    obtain ⟨es1, t1, was, gave⟩ := Z
    dsimp only at p1 f1 r1 l1 ⊢
    rw [Array.toList_push] at p1
    have pc : es1.toList.Perm ((hashStr w k, Value.str k u) :: es.toList) := p1.trans (List.perm_append_singleton _ _)
    have pk : (es1.toList.map tx).Perm (k :: ys) := (pc.map tx).trans (List.Perm.cons k pm)
    have g1 : ∀ e ∈ es1.toList, Ent w e := by
      intro e he
      cases List.mem_cons.mp (pc.mem_iff.mp he) with
      | inl z => exact ⟨k, u, by rw [z], by rw [z]⟩
      | inr z => exact g e z
    have hb1 : es1.size < scanBound := by
      have e1 : es1.size = ys.length + 1 := by
        have := pk.length_eq
        rw [List.length_map, Array.length_toList] at this
        exact this
      rw [e1]
      exact room
    have hld : w.params.followText "set-order" = true ∨ t1.led = true := hl.imp id fun z => l1.trans z
    have fin : ∀ h', Heap.SameBut a s.heap h' → At w h' a (k :: ys) → Q true { s with heap := h' } := by
      intro h' sb r
      have q := hQ h' sb (by rw [if_neg hk]; exact r)
      rw [decide_eq_false hk] at q
      exact q
    refine wpAny_bind (hgw _ ?_)
    split
    · refine wpAny_bind ?_
      rw [hashByValue_scannable 8 (x := Value.str k u) rfl]
      refine wpAny_pure ?_
      refine add_tail (ys := k :: ys) ?_ ho hx hd g1 pk hb1 ?_ ?_ ?_ ?_
      · intro b z R q
        cases b
        · exact wpAny_pure q
        · exact wpAny_rule q
      · first | (split <;> first | exact f1 | exact SetTable.fits_plain_off f1) | exact f1
      · first | (split <;> exact r1) | exact r1
      · first | (split <;> exact hld) | exact hld
      · intro h' sb r
        dsimp only
        exact wpAny_pure (fin h' sb r)
    · refine wpAny_bind (wpAny_pure ?_)
      simp only [↓reduceIte]
      refine add_tail (ys := k :: ys) ?_ ho hx hd g1 pk hb1 f1 r1 hld ?_
      · intro b z R q
        cases b
        · exact wpAny_pure q
        · exact wpAny_rule q
      · intro h' sb r
        dsimp only
        exact wpAny_pure (fin h' sb r)
end

/-! ### the signs of a text, each once -/
abbrev one (c : Nat) : Str := ⟨#[c]⟩
theorem one_inj {c d : Nat} (h : one c = one d) : c = d := by
  have q : [c] = [d] := congrArg (fun y : Str => y.cps.toList) h
  exact (List.cons.inj q).1
/-- the members behind the first signs -/
def met : List Nat → List Nat → List Nat
  | acc, [] => acc
  | acc, c :: r => met (if c ∈ acc then acc else c :: acc) r
theorem met_len (l : List Nat) : ∀ acc : List Nat, (met acc l).length ≤ acc.length + l.length := by
  induction l with
  | nil => intro acc; exact Nat.le_refl _
  | cons c r ih =>
    intro acc
    have h := ih (if c ∈ acc then acc else c :: acc)
    show (met (if c ∈ acc then acc else c :: acc) r).length ≤ acc.length + (r.length + 1)
    split at h <;> rename_i hc
    · rw [if_pos hc]; omega
    · rw [if_neg hc]
      rw [List.length_cons] at h
      omega
theorem met_mem (l : List Nat) : ∀ (acc : List Nat) (c : Nat), c ∈ met acc l ↔ c ∈ acc ∨ c ∈ l := by
  induction l with
  | nil => intro acc c; simp [met]
  | cons d r ih =>
    intro acc c
    show c ∈ met (if d ∈ acc then acc else d :: acc) r ↔ _
    rw [ih]
    by_cases hd : d ∈ acc
    · rw [if_pos hd, List.mem_cons]
      constructor
      · rintro (q | q)
        · exact .inl q
        · exact .inr (.inr q)
      · rintro (q | q | q)
        · exact .inl q
        · exact .inl (q ▸ hd)
        · exact .inr q
    · rw [if_neg hd, List.mem_cons, List.mem_cons]
      constructor
      · rintro ((q | q) | q)
        · exact .inr (.inl q)
        · exact .inl q
        · exact .inr (.inr q)
      · rintro (q | q | q)
        · exact .inl (.inr q)
        · exact .inl (.inl q)
        · exact .inr q
theorem met_nodup (l : List Nat) : ∀ acc : List Nat, acc.Nodup → (met acc l).Nodup := by
  induction l with
  | nil => intro acc h; exact h
  | cons d r ih =>
    intro acc h
    refine ih _ ?_
    by_cases hd : d ∈ acc
    · rw [if_pos hd]; exact h
    · rw [if_neg hd]; exact List.nodup_cons.mpr ⟨hd, h⟩
theorem met_mono (l : List Nat) : ∀ (acc : List Nat), acc.length ≤ (met acc l).length := by
  induction l with
  | nil => intro acc; exact Nat.le_refl _
  | cons d r ih =>
    intro acc
    refine Nat.le_trans ?_ (ih _)
    by_cases hd : d ∈ acc
    · rw [if_pos hd]; exact Nat.le_refl _
    · rw [if_neg hd]; exact Nat.le_succ _
theorem mem_one {c : Nat} {l : List Nat} : one c ∈ l.map one ↔ c ∈ l := by
  rw [List.mem_map]
  exact ⟨fun ⟨d, hd, q⟩ => one_inj q ▸ hd, fun q => ⟨c, q, rfl⟩⟩

section
variable {P : Program} {w : World} {A : Around} {R : Result → Shared → Prop} {I : Addr} {fp wr : List Addr} {St : Nat → Heap → Prop} {x : Str}
/-- the making: sign by sign into the set at S -/
theorem loop (W : Walks P w A.in1 I fp wr x.cps.size (SignAt x) St) (S : Addr) (hS : S ∉ fp) (hfew : (met [] x.cps.toList).length + 1 < scanBound) :
    ∀ (r : List Nat) (i : Nat) (acc : List Nat) (s : Shared), x.cps.toList.drop i = r → i ≤ x.cps.size → met acc r = met [] x.cps.toList → St i s.heap → At w s.heap S (acc.map one) →
      (∀ h' tk, (∀ b o, b ≠ S → b ∉ wr → s.heap.get? b = some o → h'.get? b = some o) → At w h' S ((met [] x.cps.toList).map one) → R (.ok (.ret .none)) { s with heap := h', toks := tk }) →
      codeAny (model P w) A (.builtin "set.update.loop" ⟨[.ref S, .ref I], []⟩) R s := by
  have hSw : S ∉ wr := fun z => hS (W.sub _ z)
  intro r
  induction r with
  | nil =>
    intro i acc s hr hi hm hst hat hR
    have hin : i = x.cps.size := by
      have := List.drop_eq_nil_iff.mp hr
      rw [Array.length_toList] at this
      omega
    subst hin
    refine codeAny_builtin PyProof.Rows.F.entry_set_update_loop ?_
    rw [Around.under_plainId PyProof.Rows.F.plain_set_update_loop _]
    show wpAny _ A.in1 (pyNext (.ref I) >>= _) _ _ s
    refine wpAny_bind (W.done s _ _ hst fun h' tk k => ?_)
    show wpAny _ A.in1 (ret Value.none) _ _ _
    refine wpAny_pure (hR h' tk (fun b o _ hb e => k b o hb e) ?_)
    have e : acc = met [] x.cps.toList := hm
    rw [← e]
    exact hat.stays fun o e => k S o hSw e
  | cons c r ih =>
    intro i acc s hr hi hm hst hat hR
    obtain ⟨hx, hr2⟩ := Froz.at_of hr
    have hlt : i < x.cps.size := by
      rcases Nat.lt_or_ge i x.cps.size with z | z
      · exact z
      · rw [Array.getElem?_eq_none z] at hx
        cases hx
    refine codeAny_builtin PyProof.Rows.F.entry_set_update_loop ?_
    rw [Around.under_plainId PyProof.Rows.F.plain_set_update_loop _]
    show wpAny _ A.in1 (pyNext (.ref I) >>= _) _ _ s
    refine wpAny_bind (W.item i s _ _ hlt hst fun v h1 tk1 hv hst1 k1 => ?_)
    obtain ⟨d, u, hd, rfl⟩ := hv
    have ed : d = c := Option.some.inj (hd.symm.trans hx)
    subst ed
    have hat1 : At w h1 S (acc.map one) := hat.stays fun o e => k1 S o hSw e
    show wpAny _ A.in1 (holding [Value.str (one d) u] (setAdd S (.str (one d) u)) >>= _) _ _ _
    refine wpAny_bind (wpAny_holding ?_)
    unfold setAdd
    refine wpAny_holding ?_
    refine wpAny_bind ((strKind P w).pyHash (k := one d) (Froz.is_str _ _) ?_)
    have hlen : (acc.map one).length + 1 < scanBound := by
      rw [List.length_map]
      have := met_mono (d :: r) acc
      rw [hm] at this
      omega
    refine add_hashed (ys := acc.map one) (s := { s with heap := h1, toks := tk1 + 1 }) hat1 hlen fun h2 sb hat2 => ?_
    have e2 : (if one d ∈ acc.map one then acc.map one else one d :: acc.map one) = (if d ∈ acc then acc else d :: acc).map one := by
      by_cases z : d ∈ acc
      · rw [if_pos z, if_pos (mem_one.mpr z)]
      · rw [if_neg z, if_neg (fun q => z (mem_one.mp q))]
        rfl
    rw [e2] at hat2
    have k2 : ∀ b o, b ≠ S → h1.get? b = some o → h2.get? b = some o := fun b o hb e => (sb.2 b hb).trans e
    refine wpAny_pure ⟨plainId_quiet PyProof.Rows.F.plain_set_update_loop _, ih (i + 1) _ _ hr2 hlt hm (W.frame _ _ _ hst1 fun b hb o e => k2 b o (fun z => hS (z ▸ hb)) e) hat2 fun h3 tk3 k3 hat3 => ?_⟩
    exact hR h3 tk3 (fun b o hb hw e => k3 b o hb hw (k2 b o hb (k1 b o hw e))) hat3
end
end Tx

set_option Elab.async false
set_option linter.all false
set_option maxRecDepth 100000
set_option maxHeartbeats 3200000
/-! sets of texts: set(a text), sorted(it), as calls -/
namespace Tx
open PySem PySem.Spec PyProof.Rows L2

section
variable {P : Program} {w : World} {A : Around} {E : Value → Shared → Prop} {s : Shared}
theorem fresh_at (w : World) (h : Heap) (led : Bool) (hl : w.params.followText "set-order" = true ∨ led = true) :
    At w (h.push { cls := .type "set", dict := none, data := .set #[] 0 (.fresh 0 0 led) }) h.objs.size ([] : List Str) :=
  ⟨_, #[], 0, .fresh 0 0 led, Heap.get?_push_size _ rfl, ⟨rfl, rfl, rfl⟩, rfl, (fun e he => by simp at he), by simp, by decide, by rfl, List.Pairwise.nil, hl⟩

/-- a new set, as set.__new__ lays it -/
theorem new_set (v : Value) {R : Value → Shared → Prop}
    (h : R (.ref s.heap.objs.size) { s with heap := s.heap.push { cls := .type "set", dict := none, data := .set #[] 0 (.fresh 0 0 (!w.params.followText "set-order")) } }) :
    codeAny (model P w) A (.call (.builtin "set.__new__") ⟨[.type "set", v], []⟩) (wants R E) s := by
  refine codeAny_of_tree ?_
  show wpAny _ A.in1 (do
    checkBuiltinCall "set.__new__" ⟨[.type "set", v], []⟩
    again (.builtin "set.__new__" ⟨[.type "set", v], []⟩)) _ _ s
  refine wpAny_bind (wpAny_of_eq (F.newCall_set_1 v) (wpAny_pure ⟨plainId_quiet F.plain_set_new _, codeAny_builtin F.entry_set_new ?_⟩))
  rw [Around.under_plainId F.plain_set_new _]
  unfold Builtin.«set.__new__»
  unfold Builtin.Frozenset.newClass
  have hsub := sub_set_self
  obtain ⟨hp, g, d, tk, os⟩ := s
  dsimp only
  wp_walk
  refine wpAny_askSetting (wpAny_pure ?_)
  dsimp only
  simp only [newObj]
  exact wpAny_bind (wpAny_alloc (wpAny_pure (wpAny_pure h)))

theorem call_set_text {x : Str} {t : Tok} {Q : Value → Shared → Prop} (hh : A.handled = none) (hfew : (met [] x.cps.toList).length + 1 < scanBound)
    (h : ∀ (h' : Heap) (tk : Nat), At w h' s.heap.objs.size ((met [] x.cps.toList).map one) → (∀ b o, s.heap.get? b = some o → h'.get? b = some o) → Q (.ref s.heap.objs.size) { s with heap := h', toks := tk }) :
    wpAny (model P w) A (call (.type "set") [.str x t]) Q E s := by
  obtain ⟨c, tl, hmro⟩ := PySem.F.called_set.mro
  have hmade := PySem.F.called_set.made
  have hsub := PySem.F.called_set.sub
  refine wpAny_call (codeAny_of_tree ?_)
  show wpAny _ _ (callAny (.type "set") _) _ _ _
  refine wpAny_pure ⟨Code.quiet_builtin _ (by decide +kernel), codeAny_builtin PySem.F.entry_type_call ?_⟩
  rw [Around.under_plain (weight_type_call_type "set" [.str x t] []) rfl]
  have h1 := PySem.F.called_set.notType
  have h2 := PySem.F.called_set.canCreate
  have hct := PySem.F.typeCall_set_1 (.str x t)
  repeat (any_goals (first | assumption | wp_step))
  refine codeAny_mono (new_set (P := P) (w := w) (E := E) (.str x t) (R := fun obj z => ∃ led : Bool, (w.params.followText "set-order" = true ∨ led = true) ∧ obj = .ref s.heap.objs.size ∧ z = { s with heap := s.heap.push { cls := .type "set", dict := none, data := .set #[] 0 (.fresh 0 0 led) } }) ⟨_, ?_, rfl, rfl⟩) fun r z hr => ?_
  · cases w.params.followText "set-order"
    · exact .inr rfl
    · exact .inl rfl
  cases r with
  | error e => exact hr
  | ok fl =>
    cases fl with
    | ret obj =>
      obtain ⟨led, hled, rfl, rfl⟩ := hr
      have hS : (s.heap.push { cls := .type "set", dict := none, data := .set #[] 0 (.fresh 0 0 led) }).get? s.heap.objs.size = some { cls := .type "set", dict := none, data := .set #[] 0 (.fresh 0 0 led) } := Heap.get?_push_size _ rfl
      have hT : Shared.TypeIs { s with heap := s.heap.push { cls := .type "set", dict := none, data := .set #[] 0 (.fresh 0 0 led) } } (.ref s.heap.objs.size) "set" := ⟨_, hS, rfl⟩
      have hli := PySem.F.called_set.init.lookup
      have hbi := PySem.F.called_set.init.bind (.ref s.heap.objs.size)
      repeat (any_goals (first | assumption | wp_step))
      refine codeAny_mono (codeAny_call_builtin (R := wants (fun r z => r = .none ∧ ∃ h' tk, z = { s with heap := h', toks := tk } ∧ At w h' s.heap.objs.size ((met [] x.cps.toList).map one) ∧
          (∀ b o, s.heap.get? b = some o → h'.get? b = some o)) E) PySem.F.called_set.init.plain PySem.F.entry_set_init (check_set_init_1 hT ?_)) fun r₂ s₂ hr₂ => ?_
      · unfold Builtin.«set.__init__» noKeywords Builtin.Frozenset.updateFrom
        generalize hPI : pyIter = PI
        generalize hAS : Builtin.Frozenset.isAnySet = AS
        wp_walk
        subst hPI
        subst hAS
        refine L2.Fz.anySet ?_
        simp only [Bool.false_eq_true, ↓reduceIte]
        refine wpAny_bind (wpAny_typeOf (typeIs_str _ _ _) ?_)
        have hsd : (Value.type "str" == Value.type "dict") = false := by decide
        simp only [hsd, Bool.false_eq_true, ↓reduceIte]
        refine wpAny_bind (wpAny_pyIter_str fun o St W hst => ?_)
        refine wpAny_bind (wpAny_runValue ?_)
        have hne : s.heap.objs.size ∉ [(s.heap.push { cls := .type "set", dict := none, data := .set #[] 0 (.fresh 0 0 led) }).objs.size] := by
          rw [Heap.size_push, List.mem_singleton]
          exact Nat.ne_of_lt (Nat.lt_succ_self _)
        refine loop (W _ (by simp [hh])) s.heap.objs.size hne hfew _ 0 [] _ (by rfl) (Nat.zero_le _) rfl hst ?_ ?_
        · exact (fresh_at w s.heap led hled).stays fun o e => Heap.get?_push_of_some _ e
        · intro h' tk k hat
          refine wpAny_pure ?_
          show wpAny _ _ (ret Value.none) _ _ _
          refine wpAny_pure ⟨rfl, h', tk, rfl, hat, fun b o e => ?_⟩
          have hb := Heap.lt_size e
          refine k b o (Nat.ne_of_lt hb) ?_ (Heap.get?_push_of_some _ (Heap.get?_push_of_some _ e))
          rw [Heap.size_push, List.mem_singleton]
          exact Nat.ne_of_lt (Nat.lt_succ_of_lt hb)
      · cases r₂ with
        | error e => exact hr₂
        | ok fl₂ =>
          cases fl₂ with
          | ret r =>
            obtain ⟨rfl, h', tk, rfl, hS', hk'⟩ := hr₂
            repeat (any_goals (first | assumption | wp_step))
            exact h _ _ hS' hk'
          | _ => exact hr₂.elim
    | _ => exact hr.elim

/-! ### sorted(a set of one-sign texts) -/
theorem vals_strs {vs : List Value} : ∀ {es : List (Int × Value)}, (∀ e ∈ es, Ent w e) → vs.Perm (es.map (·.2)) → StrsAre vs (vs.map strOf) ∧ (vs.map strOf).Perm (es.map tx) := by
  intro es g p
  refine ⟨strsAre_map vs fun v hv => ?_, ?_⟩
  · obtain ⟨e, he, q⟩ := List.mem_map.mp (p.mem_iff.mp hv)
    obtain ⟨y, u, q1, _⟩ := g e he
    exact ⟨y, u, by rw [← q]; exact q1⟩
  · have q := p.map strOf
    rw [List.map_map] at q
    have e : es.map (strOf ∘ (·.2)) = es.map tx := List.map_congr_left fun e he => by
      obtain ⟨y, u, q1, _⟩ := g e he
      show strOf e.2 = tx e
      unfold tx
      rw [q1]
      rfl
    rw [e] at q
    exact q
theorem pairwise_of_sortedS : ∀ (l : List Str), sortedS l = true → l.Pairwise (fun a b => ltCps b.cps.toList a.cps.toList = false) := by
  have trans : ∀ a b c : List Nat, ltCps b a = false → ltCps c b = false → ltCps c a = false := by
    intro a b c h1 h2
    rw [ltCps_eq] at h1 h2 ⊢
    have h1' := of_decide_eq_false h1
    have h2' := of_decide_eq_false h2
    refine decide_eq_false fun z => ?_
    have n1 : a ≤ b := List.not_lt.mp h1'
    have n2 : b ≤ c := List.not_lt.mp h2'
    exact absurd z (List.not_lt.mpr (List.le_trans n1 n2))
  have all : ∀ (l : List Str) (p : Str), risingS p l = true → (p :: l).Pairwise (fun a b => ltCps b.cps.toList a.cps.toList = false) := by
    intro l
    induction l with
    | nil => intro p _; exact List.pairwise_singleton _ _
    | cons x r ih =>
      intro p h
      have h' : (!ltCps x.cps.toList p.cps.toList && risingS x r) = true := h
      rw [Bool.and_eq_true, Bool.not_eq_true'] at h'
      have q := ih x h'.2
      refine List.pairwise_cons.mpr ⟨fun y hy => ?_, q⟩
      rcases List.mem_cons.mp hy with z | z
      · rw [z]; exact h'.1
      · exact trans _ _ _ h'.1 ((List.pairwise_cons.mp q).1 y z)
  intro l h
  cases l with
  | nil => exact List.Pairwise.nil
  | cons x r => exact all r x h
theorem lt_one {c d : Nat} (h : ltCps (one d).cps.toList (one c).cps.toList = false) : c ≤ d := by
  rw [ltCps_eq] at h
  have q := of_decide_eq_false h
  rcases Nat.lt_or_ge d c with z | z
  · exact absurd (show [d] < [c] from List.cons_lt_cons_iff.mpr (.inl z)) q
  · exact z
/-- sorted one-sign texts, each once, are a rising row of signs -/
theorem rising {ss : List Str} {acc : List Nat} (p : ss.Perm (acc.map one)) (hs : sortedS ss = true) (hn : acc.Nodup) : ∃ ns : List Nat, ss = ns.map one ∧ ns.Perm acc ∧ ns.Pairwise (· < ·) := by
  have back : ∀ l : List Nat, (l.map one).map (fun y => y.cps.toList.headD 0) = l := by
    intro l
    rw [List.map_map]
    exact (List.map_congr_left fun c _ => rfl).trans (List.map_id l)
  have e : ss = (ss.map (fun y => y.cps.toList.headD 0)).map one := by
    rw [List.map_map]
    refine ((List.map_congr_left fun y hy => ?_).trans (List.map_id ss)).symm
    obtain ⟨c, _, q⟩ := List.mem_map.mp (p.mem_iff.mp hy)
    subst q
    rfl
  have pm : (ss.map (fun y => y.cps.toList.headD 0)).Perm acc := by
    have q := p.map (fun y => y.cps.toList.headD 0)
    rw [back] at q
    exact q
  refine ⟨_, e, pm, ?_⟩
  generalize ss.map (fun y => y.cps.toList.headD 0) = ns at e pm ⊢
  subst e
  have h1 := List.pairwise_map.mp (pairwise_of_sortedS _ hs)
  have h2 : ns.Nodup := pm.nodup_iff.mpr hn
  have h3 : ns.Pairwise (· ≠ ·) := h2
  refine List.Pairwise.imp₂ (fun x y a b => ?_) h1 h3
  have c := lt_one a
  omega

theorem sorted_text {a : Addr} {acc : List Nat} {Q : Value → Shared → Prop} (R : At w s.heap a (acc.map one)) (hn : acc.Nodup) (hh : A.handled = none) (h64 : acc.length < 64)
    (hQ : ∀ z p (out : Array Value) (c : Nat) (ns : List Nat), (∀ b o, s.heap.get? b = some o → z.heap.get? b = some o) → z.gens = s.gens → z.os = s.os → s.heap.objs.size ≤ p →
      z.heap.get? p = some (seqObj "list" out c) → StrsAre out.toList (ns.map one) → ns.Pairwise (· < ·) → ns.Perm acc → Q (.ref p) z) :
    wpAny (model P w) A (call (.builtin "sorted") [.ref a]) Q E s := by
  obtain ⟨o, es, ep, t, ho, hx, hd, g, pm, hb, hf, hr, hl⟩ := R
  refine Calls.call_function_entry kind_sorted plain_sorted entry_sorted (args_sorted1 _) ?_
  unfold Builtin.«sorted»
  refine wpAny_bind (m := checkCount "sorted" 1 1 _) (wpAny_pure ?_)
  refine wpAny_bind (collect_set (A := A.in1) hh ⟨o, ho, hx.1, hd⟩ hf hb hr hl fun s1 vs k1 hz g1 o1 pv => ?_)
  obtain ⟨hS, ps⟩ := vals_strs (w := w) g pv
  have ps2 := ps.trans pm
  have hvl : vs.length < 64 := by
    have q := ps2.length_eq
    rw [List.length_map, List.length_map] at q
    rw [q]; exact h64
  refine wpAny_bind (wpAny_newList ?_ (by rw [sizeLine_eq]; omega))
  have hoL : (s1.heap.push (seqObj "list" vs.toArray 0)).get? s1.heap.objs.size = some (seqObj "list" vs.toArray 0) := Heap.get?_push_size _ rfl
  refine wpAny_bind (wpAny_holding (wpAny_call_entry slot_list_sort ⟨_, hoL, rfl⟩ entry_list_sort
    (list_sort_treeK strKind_oneLt hoL hS.keysOf (fun v₁ v₂ rest e => keyKind_strs (by rw [← e]; exact hS)) hvl fun st' hp hs => ⟨_, rfl, ?_⟩) (args_list_sort _)))
  obtain ⟨ss, b1, b2, b3⟩ := sorted_out_str hS hp hs
  obtain ⟨ns, e, pn, ris⟩ := rising (b2.trans ps2) b3 hn
  subst e
  obtain ⟨c, hc⟩ := sortedHeap_at (vs := vs) (out := (arrOf st').map (·.2)) hoL
  refine wpAny_pure ⟨_, rfl, hQ _ s1.heap.objs.size _ c ns (fun b u e => ?_) g1 o1 hz hc b1 ris pn⟩
  have q := k1 b u e
  have hlt := Heap.lt_size q
  show (sortedHeap (s1.heap.push (seqObj "list" vs.toArray 0)) s1.heap.objs.size vs _).get? b = some u
  rw [sortedHeap_old (Nat.ne_of_lt hlt) (by rw [size_push']; exact Nat.lt_succ_of_lt hlt)]
  exact Heap.get?_push_of_some _ q
end
end Tx

set_option Elab.async false
set_option linter.all false
set_option maxRecDepth 100000
set_option maxHeartbeats 3200000
/-! defs that show data by repr: what is known of a call's guards goes along -/
namespace Tg
open PySem PySem.Spec PyProof.Rows L2

/-- nothing is being shown where the call stands -/
abbrev Still (A : Around) : Prop := A.guards = some []

/-- a def's promise, kept where nothing is being shown -/
structure Kept (P : Program) (w : World) (K : PySem.W.Frag) (mg : Str → Option Value) (base : Heap) (cx : CXT) (k : Nat) (f : Addr) (fd : FuncData) (ps : List Str) (sp : Sp) : Prop where
  long : ∀ xs H Q E, sp xs H Q E → xs.length = ps.length
  goes : ∀ (A : Around) (out : List Env) (s : Shared) (H : Hp) (args : Args) (us : List Value) (xs : List V) (Q : VK) (E : XK), Room k A → Still A → Env0 P w K mg base A out s H →
    BindsTo s fd args (ps.zip us) → Vals xs us → sp xs H Q E → codeAny (model P w) A (.call (.ref f) args) (CR cx out P w H s Q E) s

section
variable {P : Program} {w : World} {K : PySem.W.Frag} {mg : Str → Option Value} {base : Heap}
theorem Kept.ok {cx : CXT} {k : Nat} {f : Addr} {name qual : Str} {params : Arguments} {body : List Stmt} {scope : Scope} {dV kV doc pm cdv ct oc : Value} {an od : Option Addr}
    {osl : Array (Option Value)} {N ps : List Str} {sp : Sp}
    (look : K.lookup f = some ⟨oc, od, .func (PySem.W.fnOf name qual params body scope dV kV doc pm an cdv ct), osl⟩)
    (code : PySem.W.codeIn K cdv qual = true) (S : FnScope N ps scope) (long : ∀ xs H Q E, sp xs H Q E → xs.length = ps.length)
    (inner : ∀ (A : Around) (out : List Env) (s : Shared) (H : Hp) (xs : List V) (Q : VK) (E : XK), Room k (A.deeper (envOfC qual scope s.heap.objs.size f cdv)) →
      Still (A.deeper (envOfC qual scope s.heap.objs.size f cdv)) → sp xs H Q E →
      ∃ t, PSs (cxOf cx P w K mg base N qual scope f cdv A out s H E) body t ∧ t { nx := fun _ H2 => Q .non H2, rt := Q } (start N xs) H) :
    Kept P w K mg base cx (k + 1) f (PySem.W.fnOf name qual params body scope dV kV doc pm an cdv ct) ps sp where
  long := long
  goes := by
    intro A out s H args us xs Q E room still e0 bound rel hsp
    have hl := long _ _ _ _ hsp
    have inK : K.In s.heap := e0.mod.kin.keeps fun b o e => (e0.bs b o e).1
    have limit : s.heap.NoLimit := e0.mod.nolimit.keeps fun b o e => (e0.bs b o e).1
    have kinds : ∀ y ∈ ps.zip us, scope.names.lookup y.1 = some .local ∨
        (scope.names.lookup y.1 = some .cell ∧ ((cellsFrom (s.heap.objs.size + 1) scope.names []).lookup y.1).isSome = true) := by
      rintro ⟨n, v⟩ hy
      cases S.par n (List.of_mem_zip hy).1 with
      | inl q => exact .inl q
      | inr q => exact .inr ⟨q, PySem.W.cellsFrom_some _ _ _ (.inl q)⟩
    refine codeAny_call_function room.depth (inK _ _ look) rfl S.co S.gen rfl (PySem.W.codeRec_of inK code) (bound _ _ _ _ ?_)
    refine wpAny_newFunctionEnv_cells S.kind kinds fun env he z x => ?_
    subst he
    refine ⟨limit.keeps x.toInCall.keep, codeAny_func ?_⟩
    obtain ⟨t, ht, hq⟩ := inner A out s H xs Q E (room.deeper _) still hsp
    have J0 : Inv (cxOf cx P w K mg base N qual scope f cdv A out s H E) [] (start N xs) H z := inv_start S room.hd e0 hl rel x
    refine wpAny_mono (ht.run [] z (start N xs) H _ J0 hq) (fun fl z' hs => ?_) fun e z' hs => hs
    have close : ∀ {σ' : L2.St} {H2 : Hp} {v : V} {u : Value}, Inv (cxOf cx P w K mg base N qual scope f cdv A out s H E) [] σ' H2 z' → RelV v u → Q v H2 → CE out P w H s Q u z' := by
      intro σ' H2 v u J rv q
      exact ⟨v, H2, J.os, J.bare, J.base, J.hok, rv, q⟩
    cases fl with
    | ret u =>
      obtain ⟨v, σ', H2, J, rv, q⟩ := hs
      exact close J rv q
    | next =>
      obtain ⟨σ', H2, J, q⟩ := hs
      exact close (v := V.non) (u := Value.none) J rfl q
    | brk =>
      obtain ⟨_, _, _, q⟩ := hs
      exact q.elim
    | cont =>
      obtain ⟨_, _, _, q⟩ := hs
      exact q.elim

/-- for a def of the text that lets nothing out -/
theorem Kept.fn {x qual : Str} {st : Stmt} {f : Addr} {fd : FuncData} {N ps : List Str} {k : Nat} {sp : Sp} (F : Fun K x qual st f fd) (S : FnScope N ps (defScope st))
    (long : ∀ xs H Q E, sp xs H Q E → xs.length = ps.length)
    (inner : ∀ (cdv : Value) (A : Around) (out : List Env) (s : Shared) (H : Hp) (xs : List V) (Q : VK) (E : XK), Room k (A.deeper (envOfC qual (defScope st) s.heap.objs.size f cdv)) →
      Still (A.deeper (envOfC qual (defScope st) s.heap.objs.size f cdv)) → sp xs H Q E →
      ∃ t, PSs (cxOf CX0 P w K mg base N qual (defScope st) f cdv A out s H E).nox (defBody st) t ∧ t { nx := fun _ H2 => Q .non H2, rt := Q } (start N xs) H) :
    Kept P w K mg base CX0 (k + 1) f fd ps sp := by
  obtain ⟨oc, od, kV, doc, pm, an, cdv, ct, osl, e, look, code⟩ := F.ex
  subst e
  refine Kept.ok look code S long fun A out s H xs Q E room still hsp => ?_
  obtain ⟨t, h, q⟩ := inner cdv A out s H xs Q E room still hsp
  exact ⟨t, h.nox, q⟩
end

section
variable {X : Cx} {cx : CXT} {k : Nat} {f : Addr} {fd : FuncData} {ps : List Str} {sp : Sp} {dvs : List V} {ds : List Value} {E : XK} {x : Str} {p pos : Pos} {e : Expr} {es : List Expr} {t : TA}
theorem Kept.runs {pins : List (Addr × Obj)} {σ : L2.St} {H : Hp} {s : Shared} {Q : VK} {us : List Value} {xs : List V} (F : Kept X.prog X.w X.K X.mg X.base cx k f fd ps sp) (room : Room k X.A) (still : Still X.A)
    (hb : Binds X.K fd ps ds) (hd : Vals dvs ds) (hx : Passes cx X E) (I : Inv X pins σ H s) (r : Vals xs us) (h : sp (xs ++ dvs) H Q E) :
    wpAny (model X.prog X.w) X.A (call (.ref f) us) (EP X pins σ Q) X.xe s := by
  have r2 : Vals (xs ++ dvs) (us ++ ds) := r.append hd
  have hl : (us ++ ds).length = ps.length := r2.length.symm.trans (F.long _ _ _ _ h)
  refine wpAny_call (codeAny_mono (F.goes X.A X.stack s H ⟨us, []⟩ (us ++ ds) (xs ++ dvs) Q E room still I.env0 (hb s us I.kIn hl) r2 h) fun r z hq => ?_)
  match r, hq with
  | .error e, hq => exact hx pins σ H s e z I hq
  | .ok (.ret u), hq => exact I.after hq
  | .ok .next, hq => exact False.elim hq
  | .ok .brk, hq => exact False.elim hq
  | .ok .cont, hq => exact False.elim hq
/-- f(e, ..) of such a def -/
theorem pe_callG (F : Kept X.prog X.w X.K X.mg X.base cx k f fd ps sp) (room : Room k X.A) (still : Still X.A) (hg : Gl X x) (hm : X.mg x = some (.ref f)) (hk : PySem.W.keepIn X.K (.ref f) = true)
    (hb : Binds X.K fd ps ds) (hd : Vals dvs ds) (hx : Passes cx X E) (ha : PA X (e :: es) t) (hdb : (x == ("__debug__" : Str)) = false := by decide)
    (he : starEach (e :: es) X.env = (false, eval e X.env) :: starEach es X.env := by rfl) (hpl : (backTo pos (starEach es X.env)).any (·.1) = false := by rfl) :
    PE X (.Call (.Name x p) (e :: es) [] pos) (tCall sp dvs E t) := by
  constructor
  intro pins s σ H Q I h
  refine wpAny_Call_Name_kw (ld_glob I hg hm ?_ hdb)
  refine PySem.W.callWith_K (h₀ := X.base) I.ok.mod.kin hk ?_ he hpl
  exact thn (ha.run pos pins s σ H _ I h) fun us z ⟨xs, H1, J, r, q⟩ => ⟨J.kIn, F.runs room still hb hd hx J r q⟩

/-- data as it stands in the abstract heap: none, bools, ints, texts, lists, tuples, and dicts of texts and ints -/
inductive Data (K : PySem.W.Frag) (H : Hp) : V → PyData → Prop
  | flat {v : V} {d : PyData} (h : Dp K H v d) (n : d.hasDict = false) : Data K H v d
  | dict {a : Addr} {kvs : List (Str × Int)} (h : H a = some (.dK (kvs.map fun p => (Sum.inr p.1, V.int p.2)))) : Data K H (.ref a) (.dict (kvs.map fun p => (.str p.1, .int p.2)))

theorem keys_flat (h : Heap) : ∀ (kvs : List (Str × Int)) (es : List DictEntry) (vs : List (Key × Value)), Pairs (mixKind X.prog X.w) es vs → KV (kvs.map fun p => (Sum.inr p.1, V.int p.2)) vs →
    ReadsAll h (es.map (·.key)) ((kvs.map fun p => ((PyData.str p.1, PyData.int p.2) : PyData × PyData)).map (·.1)) [] ∧ ReadsAll h (es.map (·.val)) ((kvs.map fun p => ((PyData.str p.1, PyData.int p.2) : PyData × PyData)).map (·.2)) [] := by
  intro kvs
  induction kvs with
  | nil =>
    intro es vs hp rel
    cases rel
    cases hp
    exact ⟨.nil, .nil⟩
  | cons p kvs ih =>
    intro es vs hp rel
    cases rel with
    | @cons _ kv _ vs' r1 r2 =>
      cases hp with
      | @cons e _ es' _ hk hv hp' =>
        obtain ⟨q1, q2⟩ := ih _ _ hp' r2
        obtain ⟨k0, v0⟩ := kv
        obtain ⟨r3, r4⟩ := r1
        dsimp only at r3 r4 hk hv
        subst r3
        obtain ⟨t, r4⟩ := r4
        rcases keyIs_shape (show keyIs (Sum.inr p.1 : Key) e.key = true from hk) with ⟨i, t', z, _⟩ | ⟨x, t', z, e'⟩
        · cases z
        · cases z
          refine ⟨?_, ?_⟩
          · show ReadsAll h (e.key :: _) (PyData.str p.1 :: _) ([] ++ [])
            rw [e']
            exact .cons (.str _ _) q1
          · show ReadsAll h (e.val :: _) (PyData.int p.2 :: _) ([] ++ [])
            rw [hv, r4]
            exact .cons (.int _ _) q2
theorem Data.reads {pins : List (Addr × Obj)} {σ : L2.St} {H : Hp} {s : Shared} (I : Inv X pins σ H s) {v : V} {u : Value} {d : PyData} (h : Data X.K H v d) (r : RelV v u) :
    ∃ as, Reads s.heap u d as ∧ (d.hasDict = true → sysModules ∉ as) := by
  cases h with
  | flat h n =>
    obtain ⟨as, q⟩ := Dp.reads I d v u h r
    exact ⟨as, q, fun z => by rw [n] at z; cases z⟩
  | @dict a kvs h =>
    cases r
    obtain ⟨hz, hs, vs, rel, o, es, ep, ho, hx, hd, _, hp, _⟩ := I.hok a _ h
    obtain ⟨q1, q2⟩ := keys_flat (X := X) s.heap kvs _ _ hp rel
    refine ⟨_, Reads.dict ho hx.1 hd q1 q2, fun _ z => ?_⟩
    simp only [List.append_nil, List.mem_singleton] at z
    rw [z] at hs
    simp at hs

/-- repr(x) -/
def rShow (K : PySem.W.Frag) : List V → Hp → VK → Prop := fun xs H Q => ∃ (x : V) (d : PyData), xs = [x] ∧ Data K H x d ∧ d.showable = true ∧ d.depth < 60 ∧ d.shown.length ≤ sizeLine ∧ Q (.str d.shown) H
theorem call_show (still : Still X.A) (hu : X.A.units + 64 < cLine) : CallR X (.builtin "repr") (rShow X.K) := by
  intro pins s σ H xs us Q I r h
  obtain ⟨x, d, rfl, hd, h1, h3, h4, q⟩ := h
  obtain ⟨u, rfl, r1⟩ : ∃ u, us = [u] ∧ RelV x u := by
    cases r with
    | cons a b => cases b; exact ⟨_, rfl, a⟩
  obtain ⟨as, rd, hsm⟩ := Data.reads I hd r1
  cases rd with
  | none => exact P.repr_of_none ⟨.str (PyData.shown .none), H, I.tok _, ⟨_, rfl⟩, q⟩
  | bool b => exact P.repr_of_bool ⟨.str (PyData.shown (.bool b)), H, I.tok _, ⟨_, rfl⟩, q⟩
  | int i t => exact P.repr_of_int (of_decide_eq_true h1) ⟨.str (PyData.shown (.int i)), H, I.tok _, ⟨_, rfl⟩, q⟩
  | str z t => exact P.repr_of_str ⟨.str (PyData.shown (.str z)), H, I.tok _, ⟨_, rfl⟩, q⟩ h4
  | list a1 a2 a3 a4 => exact repr_of_reads' (Reads.list a1 a2 a3 a4) h1 hsm still (by omega) (fun _ _ e => e) (fun h' u tk hk => ⟨.str (PyData.shown _), H, I.kept (t' := tk) hk, ⟨_, rfl⟩, q⟩) h4
  | tuple a1 a2 a3 a4 => exact repr_of_reads' (Reads.tuple a1 a2 a3 a4) h1 hsm still (by omega) (fun _ _ e => e) (fun h' u tk hk => ⟨.str (PyData.shown _), H, I.kept (t' := tk) hk, ⟨_, rfl⟩, q⟩) h4
  | dict a1 a2 a3 a4 a5 => exact repr_of_reads' (Reads.dict a1 a2 a3 a4 a5) h1 hsm still (by omega) (fun _ _ e => e) (fun h' u tk hk => ⟨.str (PyData.shown _), H, I.kept (t' := tk) hk, ⟨_, rfl⟩, q⟩) h4
end

/-! ### the head: the law's call, nothing being shown -/
section
variable {P : Program} {w : World} {K : PySem.W.Frag} {mg mb : Str → Option Value} {cx : CXT} {k : Nat} {fa a : Addr} {fd : FuncData} {x : Str} {sp : Sp} {s₁ : Shared} {vs : List Value} {ns : List Int}
/-- from one abstract heap in which at most the script stands -/
theorem law_core (KX : K.In s₁.heap) (hns : s₁.heap.Ns mainGlobals mg) (hb : s₁.heap.Ns builtinsNs mb) (hbb : ∀ x : Str, x ≠ "__name__" → mb x = bootBuiltins x) (hlim : s₁.heap.NoLimit) (hg : s₁.gens = #[])
    (ha : s₁.heap.get? a = some { cls := .type "list", data := .seq vs.toArray }) (room : Room k callerA)
    (F : ∀ base : Heap, K.In base → base.Ns mainGlobals mg → Kept P w K mg base cx k fa fd [x] sp) (hbind : ∀ (s : Shared) (u : Value), BindsTo s fd ⟨[u], []⟩ [(x, u)])
    (hcx : ∀ H e z, cx [] H s₁ (fun _ _ _ => False) e z → False)
    (H : Hp) (only : Only H) (want : sp [.ref a] H (fun v _ => v = .bl true) fun _ _ _ => False) (hok : HOk P w H s₁.heap) (at_a : ∀ b, H b ≠ none → b = a) (notK : H a ≠ none → K.lookup a = none) :
    codeAny (model P w) callerA (.call (.ref fa) ⟨[.ref a], []⟩) (fun r z => r = .ok (.ret (.bool true)) ∧ OldK s₁.heap z.heap ∧ z.os = s₁.os ∧ AllBare z.gens) s₁ := by
  have under : ∀ {b : Addr} {o : Obj}, s₁.heap.get? b = some o → H b = none → (hidT s₁.heap H).get? b = some o := fun e n => hidT_get e n
  have away : ∀ {b : Addr}, (b = a → False) → H b = none := by
    intro b n
    cases q : H b with
    | none => rfl
    | some u => exact (n (at_a b (by rw [q]; simp))).elim
  have noDict : ∀ {b : Addr} {o : Obj} {es : Array DictEntry} {ep : Nat}, s₁.heap.get? b = some o → o.data = .dict es ep → H b = none := by
    intro b o es ep e d
    refine away fun z => ?_
    subst z
    rw [ha] at e
    cases e
    cases d
  have names : ∀ {b : Addr} {m : Str → Option Value}, s₁.heap.Ns b m → (hidT s₁.heap H).Ns b m := by
    rintro b m ⟨o, es, ep, e, d, r⟩
    exact ⟨o, es, ep, under e (noDict e d), d, r⟩
  have inB : K.In (hidT s₁.heap H) := by
    intro b o e
    refine under (KX b o e) ?_
    cases q : H b with
    | none => rfl
    | some u =>
      have z := at_a b (by rw [q]; simp)
      subst z
      have n := notK (by rw [q]; simp)
      rw [n] at e
      cases e
  have md : Mod K mg (hidT s₁.heap H) := ⟨inB, names hns, ⟨mb, names hb, hbb⟩, let ⟨mc, h1, h2⟩ := hlim; ⟨mc, names h1, h2⟩⟩
  have e0 : Env0 P w K mg (hidT s₁.heap H) callerA [] s₁ H := by
    refine ⟨rfl, md, fun b o e => of_hidT e, Nat.le_of_eq (hidT_size _ _), trivial, fun b hb => ?_, hok, .of_eq hg⟩
    exact absurd (show b ∈ ([] : List Addr) from hb) (by simp)
  refine codeAny_mono ((F _ inB (names hns)).goes callerA [] s₁ H ⟨[.ref a], []⟩ [.ref a] [.ref a] _ _ room rfl e0 (hbind s₁ (.ref a)) (.cons rfl .nil) want) fun r z h => ?_
  match r, h with
  | .error e, h => exact (hcx H e z h).elim
  | .ok .next, h => exact False.elim h
  | .ok .brk, h => exact False.elim h
  | .ok .cont, h => exact False.elim h
  | .ok (.ret u), h =>
    obtain ⟨v, H2, os, bare, un, hok2, r2, q⟩ := h
    have q' : v = .bl true := q
    subst q'
    obtain rfl : u = Value.bool true := r2
    refine ⟨rfl, OldK.of_keep fun b o e => ?_, os, bare⟩
    cases q : H b with
    | none =>
      refine un.keep b o e q (fun y => ?_) (by simp)
      exact absurd (show b ∈ ([] : List Addr) from y) (by simp)
    | some u =>
      rcases only b with y | ⟨ob, xs, y⟩
      · rw [q] at y
        cases y
      · have y2 := un.frzs b ob _ y
        obtain ⟨e1, _⟩ := hok b _ y
        obtain ⟨e2, _⟩ := hok2 b _ y2
        rw [e] at e1
        cases e1
        exact e2

theorem law_call (KX : K.In s₁.heap) (hns : s₁.heap.Ns mainGlobals mg) (hb : s₁.heap.Ns builtinsNs mb) (hbb : ∀ x : Str, x ≠ "__name__" → mb x = bootBuiltins x) (hlim : s₁.heap.NoLimit) (hg : s₁.gens = #[])
    (ha : s₁.heap.get? a = some { cls := .type "list", data := .seq vs.toArray }) (hi : IntsAre vs ns) (hl : ns.length ≤ sizeLine) (room : Room k callerA)
    (F : ∀ base : Heap, K.In base → base.Ns mainGlobals mg → Kept P w K mg base cx k fa fd [x] sp) (hbind : ∀ (s : Shared) (u : Value), BindsTo s fd ⟨[u], []⟩ [(x, u)])
    (hsp : ∀ H : Hp, Only H → SqL K H a (ns.map V.int) → sp [.ref a] H (fun v _ => v = .bl true) fun _ _ _ => False)
    (hcx : ∀ H e z, cx [] H s₁ (fun _ _ _ => False) e z → False) :
    codeAny (model P w) callerA (.call (.ref fa) ⟨[.ref a], []⟩) (fun r z => r = .ok (.ret (.bool true)) ∧ OldK s₁.heap z.heap ∧ z.os = s₁.os ∧ AllBare z.gens) s₁ := by
  have rel := vals_ints hi
  have len := hi.length
  have core := law_core KX hns hb hbb hlim hg ha room F hbind hcx
  cases hk : K.lookup a with
  | some o =>
    have e := KX a o hk
    rw [ha] at e
    cases e
    have only : Only (fun _ => none) := fun _ => .inl rfl
    refine core (fun _ => none) only (hsp _ only ?_) (fun b u z => nomatch (show (none : Option HO) = some u from z)) (fun b z => absurd rfl z) fun z => absurd rfl z
    exact .inr ⟨_, vs.toArray, _, hk, rfl, rfl, rfl, by rw [List.size_toArray, len]; exact hl, by simpa using rel⟩
  | none =>
    have only : Only (fun b => if b = a then some (.frz { cls := .type "list", data := .seq vs.toArray } (.lst (ns.map V.int))) else none) := by
      intro b
      by_cases z : b = a
      · exact .inr ⟨_, _, if_pos z⟩
      · exact .inl (if_neg z)
    refine core _ only (hsp _ only ?_) (fun b u z => ?_) (fun b z => ?_) fun _ => hk
    · exact .inl (.inr ⟨{ cls := .type "list", data := .seq vs.toArray }, if_pos rfl⟩)
    · by_cases y : b = a
      · have z' := (if_pos y).symm.trans z
        cases z'
        subst y
        exact ⟨ha, by rw [List.length_map]; exact hl, vs, _, rel, ha⟩
      · have z' := (if_neg y).symm.trans z
        cases z'
    · by_cases y : b = a
      · exact y
      · exact absurd (if_neg y) z
end

/-- the goal that the head leaves -/
theorem walk {l : PySem.W.OpenLaw} {n k : Nat} {q : Program} {loose : List Str} {XP : (Str → Option Value) → Heap → Prop} {YP : World → Heap → Prop} {d : DefRec} {K : Params → PySem.W.Frag} {cx : World → CXT} {sp : World → Sp} {x : Str}
    (hn : l.most = some n) (hn2 : n ≤ sizeLine) (hdf : d.params.defaults = []) (room : Room k callerA) (hY : ∀ (w : World) (h : Heap), YP w h → (K w.params).In h)
    (F : ∀ (w : World) (mg : Str → Option Value) (fa : Addr) (h : Heap), (K w.params).In h → h.Ns mainGlobals mg → mg d.name = some (.ref fa) → XP mg h →
      ∃ fd : FuncData, (∀ (s : Shared) (u : Value), BindsTo s fd ⟨[u], []⟩ [(x, u)]) ∧
        ∀ base : Heap, (K w.params).In base → base.Ns mainGlobals mg → Kept l.prog w (K w.params) mg base (cx w) k fa fd [x] (sp w))
    (hsp : ∀ (w : World) (H : Hp) (a : Addr) (ns : List Int), ns.length ≤ n → Only H → SqL (K w.params) H a (ns.map V.int) → sp w [.ref a] H (fun v _ => v = .bl true) fun _ _ _ => False)
    (hcx : ∀ (w : World) (H : Hp) (s : Shared) (e : Value) (z : Shared), cx w [] H s (fun _ _ _ => False) e z → False) :
    PySem.W.WalkO q loose XP YP l.row.toRowW d [] (fun f vs => PySem.call f vs) := by
  refine Att.attach_call hn hdf ?_
  intro w s₀ s₁ mg mb fa o pm cd doc a vs ns G Y ho hd hcd hmg hobj hints hlen hg
  have KX := hY w _ Y
  obtain ⟨fd, hb, hF⟩ := F w mg fa _ KX G.T.g hmg G.X
  exact law_call KX G.T.g G.T.b G.T.builtins G.T.nolimit hg hobj hints (Nat.le_trans hlen hn2) room hF hb (fun H hO hS => hsp w H a ns hlen hO hS) fun H e z => hcx w H s₁ e z
end Tg

set_option Elab.async false
set_option linter.all false
set_option maxRecDepth 100000
set_option maxHeartbeats 3200000
/-! set(a text), sorted(it), list(a text), as rules -/
namespace Tx
open PySem PySem.Spec PyProof.Rows L2

/-- the signs of a text, each once, rising -/
def ups (l : List Nat) : List Nat := (met [] l).mergeSort (fun a b => decide (a ≤ b))
theorem ups_perm (l : List Nat) : (ups l).Perm (met [] l) := List.mergeSort_perm _ _
theorem ups_mem (l : List Nat) (c : Nat) : c ∈ ups l ↔ c ∈ l := by
  rw [(ups_perm l).mem_iff, met_mem]
  simp
theorem ups_nodup (l : List Nat) : (ups l).Nodup := (ups_perm l).nodup_iff.mpr (met_nodup l [] List.nodup_nil)
theorem ups_up (l : List Nat) : (ups l).Pairwise (· < ·) := by
  have h1 : (ups l).Pairwise (fun a b => decide (a ≤ b) = true) :=
    List.pairwise_mergeSort (le := fun a b : Nat => decide (a ≤ b)) (fun a b c h1 h2 => by
      have h1' := of_decide_eq_true h1
      have h2' := of_decide_eq_true h2
      exact decide_eq_true (Nat.le_trans h1' h2')) (fun a b => by
      rcases Nat.le_total a b with z | z
      · simp [z]
      · simp [z]) (met [] l)
  have h2 : (ups l).Pairwise (· ≠ ·) := ups_nodup l
  refine List.Pairwise.imp₂ (fun x y a b => ?_) h1 h2
  have a' := of_decide_eq_true a
  omega
theorem up_eq : ∀ {l m : List Nat}, l.Pairwise (· < ·) → m.Pairwise (· < ·) → (∀ c, c ∈ l ↔ c ∈ m) → l = m
  | [], [], _, _, _ => rfl
  | [], y :: m, _, _, h => by have := (h y).mpr List.mem_cons_self; simp at this
  | x :: l, [], _, _, h => by have := (h x).mp List.mem_cons_self; simp at this
  | x :: l, y :: m, h1, h2, h => by
    obtain ⟨a1, a2⟩ := List.pairwise_cons.mp h1
    obtain ⟨b1, b2⟩ := List.pairwise_cons.mp h2
    have e : x = y := by
      rcases List.mem_cons.mp ((h x).mp List.mem_cons_self) with z | z
      · exact z
      · rcases List.mem_cons.mp ((h y).mpr List.mem_cons_self) with u | u
        · exact u.symm
        · have := a1 y u
          have := b1 x z
          omega
    subst e
    rw [up_eq a2 b2 fun c => ?_]
    constructor
    · intro q
      rcases List.mem_cons.mp ((h c).mp (List.mem_cons_of_mem _ q)) with z | z
      · subst z
        exact absurd (a1 _ q) (Nat.lt_irrefl _)
      · exact z
    · intro q
      rcases List.mem_cons.mp ((h c).mpr (List.mem_cons_of_mem _ q)) with z | z
      · subst z
        exact absurd (b1 _ q) (Nat.lt_irrefl _)
      · exact z
theorem ups_of {l ns : List Nat} (h : ns.Pairwise (· < ·)) (p : ns.Perm (met [] l)) : ns = ups l :=
  up_eq h (ups_up l) fun c => by rw [p.mem_iff, ups_mem, met_mem]; simp

/-- one-sign texts as values -/
abbrev ones (l : List Nat) : List V := l.map fun c => V.str (one c)
theorem ones_map (l : List Nat) : ones l = (l.map one).map V.str := by rw [List.map_map]; rfl

/-- the set of texts at a -/
def TO (w : World) (a : Addr) (acc : List Nat) : HO := .ext fun h => At w h a (acc.map one)
section
variable {X : Cx}
theorem to_new {w : World} {P : Program} {H : Hp} {h : Heap} {a : Addr} {acc : List Nat} (R : At w h a (acc.map one)) : ObjOk P w H h a (TO w a acc) :=
  ⟨R, let ⟨o, _, _, _, ho, _⟩ := R; ⟨o, ho⟩, fun _ _ p k => At.stays p k⟩
/-- set(s), s a text of few different signs -/
def rSetTx (w : World) : List V → Hp → VK → Prop := fun xs H Q => ∃ z : Str, xs = [.str z] ∧ (met [] z.cps.toList).length < 64 ∧ ∀ p, H p = none → Q (.ref p) (upd H p (TO w p (met [] z.cps.toList)))
theorem cr_setTx (hc : X.calm = true) : CallR X (.type "set") (rSetTx X.w) := by
  intro pins s σ H xs us Q I r h
  obtain ⟨z, rfl, hf, q⟩ := h
  obtain ⟨t, rfl⟩ : ∃ t, us = [Value.str z t] := by
    cases r with
    | cons a b =>
      cases b
      obtain ⟨t, rfl⟩ := a
      exact ⟨t, rfl⟩
  have hb : (met [] z.cps.toList).length + 1 < scanBound := by
    have : (64 : Nat) + 1 < scanBound := by decide
    omega
  refine call_set_text (P := X.prog) (w := X.w) (I.ok.hd hc) hb fun h' tk R k => ?_
  exact ⟨.ref _, upd H s.heap.objs.size (TO X.w s.heap.objs.size (met [] z.cps.toList)), I.laid (t' := tk) k (Nat.le_refl _) (to_new R), rfl, q _ (I.hok.fresh (Nat.le_refl _))⟩
/-- sorted(a set of texts) -/
def rSortTx (w : World) : List V → Hp → VK → Prop := fun xs H Q => ∃ (a : Addr) (l : List Nat), xs = [.ref a] ∧ H a = some (TO w a (met [] l)) ∧ (met [] l).length < 64 ∧ ∀ p, H p = none → Q (.ref p) (upd H p (.lst (ones (ups l))))
theorem cr_sortTx (hc : X.calm = true) : CallR X (.builtin "sorted") (rSortTx X.w) := by
  intro pins s σ H vs us Q I r h
  obtain ⟨a, l, rfl, ha, h64, q⟩ := h
  have R : At X.w s.heap a ((met [] l).map one) := (I.hok a _ ha).1
  rw [Vals.ref1 r]
  refine sorted_text (P := X.prog) R (met_nodup l [] List.nodup_nil) (I.ok.hd hc) h64 fun z p out c ns k g o hp hg hS up pm => ?_
  obtain rfl := ups_of up pm
  have hlen : (ones (ups l)).length ≤ sizeLine := by
    rw [List.length_map, pm.length_eq, sizeLine_eq]
    omega
  have hn : H p = none := I.hok.fresh hp
  have hv : Vals (ones (ups l)) out.toList := by rw [ones_map]; exact vals_of_strs hS
  have J : Inv X pins σ (upd H p (.lst (ones (ups l)))) { s with heap := z.heap, gens := z.gens, drawn := z.drawn, toks := z.toks } :=
    I.call (ch := []) (Un.laid k hp hn) (I.hok.laid k hp ⟨hlen, out.toList, c, hv, hg⟩) (by rw [g]; exact I.bare) (fun _ y => nomatch y)
  have e : z = { s with heap := z.heap, gens := z.gens, drawn := z.drawn, toks := z.toks } := by
    cases z
    cases s
    cases o
    rfl
  rw [e]
  exact ⟨.ref p, _, J, rfl, q p hn⟩
/-- list(s), s a text -/
def rListTx : List V → Hp → VK → Prop := fun xs H Q => ∃ z : Str, xs = [.str z] ∧ z.length ≤ sizeLine ∧ ∀ p, H p = none → Q (.ref p) (upd H p (.lst (ones z.cps.toList)))
theorem signs_vals {z : Str} {acc : Array Value} (h : ItemsOf (SignAt z) acc z.cps.size) : Vals (ones z.cps.toList) acc.toList := by
  have all : ∀ (l : List Nat) (us : List Value), us.length = l.length → (∀ (j : Nat) (v : Value), us[j]? = some v → ∃ (c : Nat) (u : Tok), l[j]? = some c ∧ v = Value.str (one c) u) → Vals (ones l) us := by
    intro l
    induction l with
    | nil =>
      intro us hl _
      cases us with
      | nil => exact .nil
      | cons u us => simp at hl
    | cons c l ih =>
      intro us hl hg
      cases us with
      | nil => simp at hl
      | cons u us =>
        obtain ⟨d, t, h1, h2⟩ := hg 0 u rfl
        have e : c = d := Option.some.inj h1
        subst e
        refine .cons ⟨t, h2⟩ (ih us (by simpa using hl) fun j v hv => ?_)
        exact hg (j + 1) v hv
  refine all _ _ (by rw [Array.length_toList, Array.length_toList]; exact h.1) fun j v hv => ?_
  rw [Array.getElem?_toList] at hv
  obtain ⟨c, u, h1, h2⟩ := h.2 j v hv
  exact ⟨c, u, by rw [Array.getElem?_toList]; exact h1, h2⟩
theorem cr_listTx (hc : X.calm = true) : CallR X (.type "list") rListTx := by
  intro pins s σ H xs us Q I r h
  obtain ⟨z, rfl, hl, q⟩ := h
  cases r with
  | cons a b =>
    cases b
    obtain ⟨t, rfl⟩ := a
    refine call_list_str (I.ok.hd hc) z t (hn := hl) fun h' tk acc c k hg hi => ?_
    have hz : (ones z.cps.toList).length ≤ sizeLine := by
      rw [List.length_map, Array.length_toList]
      exact hl
    exact ⟨.ref _, upd H s.heap.objs.size (.lst (ones z.cps.toList)), I.laid (t' := tk) k (Nat.le_refl _) ⟨hz, acc.toList, c, signs_vals hi, by simpa using hg⟩, rfl, q _ (I.hok.fresh (Nat.le_refl _))⟩
/-- a ** b, the result below 2 ^ 27 bits -/
theorem op_powW : OpR X (binaryOp .Pow) (rI (fun i j => 0 ≤ j ∧ (Builtin.Int.intBits i : Int) * j ≤ 2 ^ 27) fun i j => .int (i ^ j.toNat)) := opI fun _ _ _ _ _ _ _ hc q => pow_int hc.1 hc.2 q
end
end Tx

set_option Elab.async false
set_option linter.all false
set_option maxRecDepth 100000
set_option maxHeartbeats 3200000
/-! what the judges are worth, over plain data -/
namespace Tm
open PySem PySem.Spec PySem.Builtin PySem.Builtin.Str PyProof.Rows L2 Tx

abbrev cds (z : Str) : List Nat := z.cps.toList
theorem cds_ext {y z : Str} (h : cds y = cds z) : y = z := by
  cases y with
  | mk a =>
    cases z with
    | mk b =>
      have e : a = b := Array.toList_inj.mp h
      rw [e]
theorem cds_len (z : Str) : (cds z).length = z.length := by
  show z.cps.toList.length = z.cps.size
  rw [Array.length_toList]
/-- every sign of z is one of sg -/
def only (z sg : Str) : Bool := (cds z).all fun c => decide (c ∈ cds sg)
theorem only_iff {z sg : Str} : only z sg = true ↔ ∀ c ∈ cds z, c ∈ cds sg := by
  unfold only
  rw [List.all_eq_true]
  exact ⟨fun h c hc => of_decide_eq_true (h c hc), fun h c hc => decide_eq_true (h c hc)⟩
theorem getD_mem {z : Str} {k : Nat} (h : k < z.length) : z.cps.getD k 0 ∈ cds z := by
  have h' : k < z.cps.size := h
  have e : z.cps.getD k 0 = z.cps[k] := by simp [Array.getD, h']
  rw [e]
  exact Array.getElem_mem_toList h'
theorem mem_getD {z : Str} {c : Nat} (h : c ∈ cds z) : ∃ k, k < z.length ∧ z.cps.getD k 0 = c := by
  obtain ⟨k, hk, e⟩ := List.getElem_of_mem h
  have hk' : k < z.cps.size := by rw [Array.length_toList] at hk; exact hk
  refine ⟨k, hk', ?_⟩
  rw [← e]
  simp [Array.getD, hk']
theorem goes_iff {sg : Str} {c : Nat} : sg.cps.contains c = true ↔ c ∈ cds sg := by
  rw [Array.contains_iff_mem, Array.mem_toList_iff]
/-- strip with all the signs of sg leaves nothing exactly if there is no other sign -/
theorem strip_only (z sg : Str) : decide (Txt.stripChars z sg = Str.empty) = only z sg := by
  unfold Txt.stripChars
  rw [stripBy_eq]
  obtain ⟨a1, a2, a3⟩ := lo_facts sg.cps.contains z
  obtain ⟨b1, b2, b3, b4⟩ := hi_facts sg.cps.contains z _ a1
  generalize stripLo sg.cps.contains true z = lo at a1 a2 a3 b1 b2 b3 b4 ⊢
  generalize stripHi sg.cps.contains true z lo = hi at b1 b2 b3 b4 ⊢
  have key : strSub z lo hi = Str.empty ↔ lo = hi := by
    constructor
    · intro h
      have e : (z.cps.extract lo hi).size = 0 := by
        have := congrArg (fun y : Str => y.cps.size) h
        exact this
      rw [Array.size_extract] at e
      have hb : hi ≤ z.cps.size := b2
      omega
    · intro h
      subst h
      refine cds_ext ?_
      show (z.cps.extract lo lo).toList = (Str.empty).cps.toList
      rw [Array.extract_empty_of_stop_le_start (Nat.le_refl _)]
      rfl
  by_cases h : only z sg = true
  · rw [h]
    refine decide_eq_true (key.mpr ?_)
    have all := only_iff.mp h
    rcases Nat.lt_or_ge lo z.length with hl | hl
    · exfalso
      rcases a3 with e | e
      · omega
      · have := goes_iff.mpr (all _ (getD_mem hl))
        rw [e] at this
        cases this
    · have c2 : hi ≤ z.length := b2
      omega
  · have h' : only z sg = false := by simpa using h
    rw [h']
    refine decide_eq_false fun q => h (only_iff.mpr fun c hc => ?_)
    have e := key.mp q
    obtain ⟨k, hk, rfl⟩ := mem_getD hc
    rcases Nat.lt_or_ge k lo with u | u
    · exact goes_iff.mp (a2 k u)
    · exact goes_iff.mp (b3 k (by omega) hk)

/-! ### the judges -/
def big : Int := 10 ^ 200
def isInt : PyData → Bool
  | .int n => decide (n.natAbs < 10 ^ 200)
  | _ => false
def has (sg : Str) (most : Nat) : PyData → Bool
  | .str z => decide (z.length ≤ most) && only z sg
  | _ => false
def alpha : Str := "abcdefghijklmnopqrstuvwxyz"
def name : PyData → Bool
  | .str z => decide (z.length ≤ 8) && only z alpha && decide (z ≠ Str.empty)
  | _ => false
def rise (z : Str) : Bool := decide (cds z = ups (cds z))
def letters : PyData → Bool
  | .str z => decide (z.length ≤ 3) && only z alpha && decide (z ≠ Str.empty) && rise z
  | _ => false
def prime : PyData → Bool
  | .int n => decide (n = 2 ∨ n = 3 ∨ n = 5 ∨ n = 7)
  | _ => false
def lows (z : Str) : Bool := (cds z).all fun c => decide (97 ≤ c) && decide (c ≤ 122)
def small (most : Nat) : PyData → Bool
  | .str z => decide (1 ≤ z.length) && decide (z.length ≤ most) && lows z
  | _ => false
theorem alpha_iff (c : Nat) : c ∈ cds alpha ↔ 97 ≤ c ∧ c ≤ 122 := by
  have e : cds alpha = (List.range 26).map (· + 97) := by decide +kernel
  rw [e, List.mem_map]
  constructor
  · rintro ⟨k, hk, rfl⟩
    have := List.mem_range.mp hk
    omega
  · rintro ⟨h1, h2⟩
    exact ⟨c - 97, List.mem_range.mpr (by omega), by omega⟩
theorem only_alpha (z : Str) : only z alpha = lows z := by
  unfold only lows
  congr 1
  funext c
  by_cases h : c ∈ cds alpha
  · have := (alpha_iff c).mp h
    simp [h, this.1, this.2]
  · have h2 : ¬ (97 ≤ c ∧ c ≤ 122) := fun q => h ((alpha_iff c).mpr q)
    rw [decide_eq_false h, ← Bool.decide_and, decide_eq_false h2]
theorem nonempty_iff (z : Str) : z ≠ Str.empty ↔ 1 ≤ z.length := by
  constructor
  · intro h
    rcases Nat.eq_zero_or_pos z.length with e | e
    · exfalso
      apply h
      apply cds_ext
      have : (cds z).length = 0 := by rw [cds_len]; exact e
      rw [List.length_eq_zero_iff.mp this]
      rfl
    · exact e
  · intro h e
    subst e
    exact absurd h (by decide)
theorem name_small (d : PyData) : name d = small 8 d := by
  cases d with
  | str z =>
    show (decide (z.length ≤ 8) && only z alpha && decide (z ≠ Str.empty)) = (decide (1 ≤ z.length) && decide (z.length ≤ 8) && lows z)
    rw [only_alpha, decide_eq_decide.mpr (nonempty_iff z)]
    cases decide (z.length ≤ 8) <;> cases lows z <;> cases decide (1 ≤ z.length) <;> rfl
  | _ => rfl
theorem letters_small (d : PyData) : letters d = (small 3 d && (match d with | .str z => rise z | _ => false)) := by
  cases d with
  | str z =>
    show (decide (z.length ≤ 3) && only z alpha && decide (z ≠ Str.empty) && rise z) = (decide (1 ≤ z.length) && decide (z.length ≤ 3) && lows z && rise z)
    rw [only_alpha, decide_eq_decide.mpr (nonempty_iff z)]
    cases decide (z.length ≤ 3) <;> cases lows z <;> cases decide (1 ≤ z.length) <;> cases rise z <;> rfl
  | _ => rfl

/-! ### how numbers and texts are shown -/
theorem shown_int {n k : Int} (h : (toString n : String) = toString k) : n = k := by
  have e := congrArg String.toInt? h
  simpa using e

/-- a text that is judged: short, plain signs, few unlike ones -/
structure Fine (z : Str) : Prop where
  long : z.length ≤ 4001
  few : (met [] (cds z)).length < 64
  plain : ∀ c ∈ cds z, c < 128
/-- the four texts of the primes -/
abbrev four : List V := [.str "2", .str "3", .str "5", .str "7"]
/-- data that is judged -/
def Ok : PyData → Prop
  | .int n => n.natAbs.log2 < 1920
  | .str z => Fine z
  | d => d.showable = true ∧ d.depth < 60 ∧ d.shown.length ≤ sizeLine ∧ inV (.str d.shown) four = false
end Tm

set_option Elab.async false
set_option linter.all false
set_option maxRecDepth 100000
set_option maxHeartbeats 3200000
/-! data with dicts of texts: read, shown, compared -/
namespace Da
open PySem PySem.Spec PyProof.Rows L2 Tg
mutual
inductive Dr (K : PySem.W.Frag) (H : Hp) : V → PyData → Prop
  | non : Dr K H .non .none
  | bl (b : Bool) : Dr K H (.bl b) (.bool b)
  | int (i : Int) : Dr K H (.int i) (.int i)
  | str (z : Str) : Dr K H (.str z) (.str z)
  | lst {a : Addr} {xs : List V} {ds : List PyData} (h : SqL K H a xs) (r : DrAll K H xs ds) : Dr K H (.ref a) (.list ds)
  | tup {a : Addr} {xs : List V} {ds : List PyData} (h : SqT K H a xs) (r : DrAll K H xs ds) : Dr K H (.ref a) (.tuple ds)
  | dct {a : Addr} {kvs : List (Key × V)} {es : List (PyData × PyData)} (h : H a = some (.dK kvs)) (r : DrKv K H kvs es) : Dr K H (.ref a) (.dict es)
inductive DrAll (K : PySem.W.Frag) (H : Hp) : List V → List PyData → Prop
  | nil : DrAll K H [] []
  | cons {v : V} {vs : List V} {d : PyData} {ds : List PyData} (h : Dr K H v d) (r : DrAll K H vs ds) : DrAll K H (v :: vs) (d :: ds)
inductive DrKv (K : PySem.W.Frag) (H : Hp) : List (Key × V) → List (PyData × PyData) → Prop
  | nil : DrKv K H [] []
  | cons {x : Str} {v : V} {kvs : List (Key × V)} {d : PyData} {es : List (PyData × PyData)} (h : Dr K H v d) (r : DrKv K H kvs es) : DrKv K H ((Sum.inr x, v) :: kvs) ((.str x, d) :: es)
end
theorem sqL_same {K : PySem.W.Frag} {H H' : Hp} {a : Addr} {xs : List V} (s : Same H H') (h : SqL K H a xs) : SqL K H' a xs := s.seq h
theorem sqT_same {K : PySem.W.Frag} {H H' : Hp} {a : Addr} {xs : List V} (s : Same H H') (h : SqT K H a xs) : SqT K H' a xs := by
  rcases h with h | h
  · rcases h with h | ⟨o, h⟩
    · exact .inl (.inl (s _ _ h))
    · exact .inl (.inr ⟨o, s _ _ h⟩)
  · exact .inr h
section
variable {K : PySem.W.Frag} {H H' : Hp}
mutual
theorem Dr.same (s : Same H H') : ∀ (d : PyData) (v : V), Dr K H v d → Dr K H' v d
  | .none, _, h => by cases h; exact .non
  | .bool b, _, h => by cases h; exact .bl b
  | .int i, _, h => by cases h; exact .int i
  | .str z, _, h => by cases h; exact .str z
  | .list ds, _, h => by
    cases h with
    | lst h r => exact .lst (sqL_same s h) (DrAll.same s ds _ r)
  | .tuple ds, _, h => by
    cases h with
    | tup h r => exact .tup (sqT_same s h) (DrAll.same s ds _ r)
  | .dict es, _, h => by
    cases h with
    | dct h r => exact .dct (s _ _ h) (DrKv.same s es _ r)
theorem DrAll.same (s : Same H H') : ∀ (ds : List PyData) (vs : List V), DrAll K H vs ds → DrAll K H' vs ds
  | [], _, h => by cases h; exact .nil
  | d :: ds, _, h => by
    cases h with
    | cons h r => exact .cons (Dr.same s d _ h) (DrAll.same s ds _ r)
theorem DrKv.same (s : Same H H') : ∀ (es : List (PyData × PyData)) (kvs : List (Key × V)), DrKv K H kvs es → DrKv K H' kvs es
  | [], _, h => by cases h; exact .nil
  | (k, d) :: es, _, h => by
    cases h with
    | cons h r => exact .cons (Dr.same s d _ h) (DrKv.same s es _ r)
end
end
/-! no list within -/
mutual
def noL : PyData → Bool
  | .none | .bool _ | .int _ | .str _ => true
  | .list _ => false
  | .tuple ds => noLAll ds
  | .dict es => noLKv es
def noLAll : List PyData → Bool
  | [] => true
  | d :: ds => noL d && noLAll ds
def noLKv : List (PyData × PyData) → Bool
  | [] => true
  | (_, d) :: es => noL d && noLKv es
end
/-! ### read off -/
section
variable {X : Cx} {pins : List (Addr × Obj)} {σ : L2.St} {H : Hp} {s : Shared}
theorem dict_entries {kvs : List (Key × V)} {vs : List (Key × Value)} : ∀ {es : List DictEntry}, Pairs (mixKind X.prog X.w) es vs → KV kvs vs → ∀ ds : List (PyData × PyData), DrKv X.K H kvs ds →
    (∀ (d : PyData) (v : V) (u : Value), (∃ k, (k, d) ∈ ds) → Dr X.K H v d → RelV v u → ∃ as, Reads s.heap u d as ∧ (noL d = true → sysModules ∉ as)) →
    ∃ as bs, ReadsAll s.heap (es.map (·.key)) (ds.map (·.1)) as ∧ ReadsAll s.heap (es.map (·.val)) (ds.map (·.2)) bs ∧ sysModules ∉ as ∧ (noLKv ds = true → sysModules ∉ bs) := by
  intro es hp rel ds hd ih
  induction ds generalizing kvs vs es with
  | nil =>
    cases hd
    cases rel
    cases hp
    exact ⟨[], [], .nil, .nil, nofun, fun _ => nofun⟩
  | cons p ds ihd =>
    cases hd with
    | @cons x v kvs d _ h r =>
      cases rel with
      | @cons _ kv _ vs' r1 r2 =>
        cases hp with
        | @cons e _ es' _ hk hv hp' =>
          obtain ⟨as, bs, q1, q2, n1, n2⟩ := ihd hp' r2 r fun d v u ⟨k, hk⟩ => ih d v u ⟨k, List.mem_cons_of_mem _ hk⟩
          obtain ⟨k0, v0⟩ := kv
          obtain ⟨r3, r4⟩ := r1
          dsimp only at r3 r4 hk hv
          subst r3
          obtain ⟨cs, q3, n3⟩ := ih d v v0 ⟨_, List.mem_cons_self⟩ h r4
          rcases keyIs_shape (show keyIs (Sum.inr x : Key) e.key = true from hk) with ⟨i, t', z, _⟩ | ⟨y, t', z, e'⟩
          · cases z
          · cases z
            refine ⟨[] ++ as, cs ++ bs, ?_, ?_, n1, fun hn z => ?_⟩
            · show ReadsAll s.heap (e.key :: _) (PyData.str x :: _) _
              rw [e']
              exact .cons (.str _ _) q1
            · show ReadsAll s.heap (e.val :: _) (d :: _) _
              rw [hv]
              exact .cons q3 q2
            · have hn : (noL d && noLKv ds) = true := hn
              rw [Bool.and_eq_true] at hn
              rcases List.mem_append.mp z with z | z
              · exact n3 hn.1 z
              · exact n2 hn.2 z
mutual
theorem Dr.reads (I : Inv X pins σ H s) : ∀ (d : PyData) (v : V) (u : Value), Dr X.K H v d → RelV v u → ∃ as, Reads s.heap u d as ∧ (noL d = true → sysModules ∉ as)
  | .none, _, _, h, r => by
    cases h
    cases r
    exact ⟨_, Reads.none, fun _ => nofun⟩
  | .bool b, _, _, h, r => by
    cases h
    cases r
    exact ⟨_, Reads.bool b, fun _ => nofun⟩
  | .int i, _, _, h, r => by
    cases h
    obtain ⟨t, rfl⟩ := r
    exact ⟨_, Reads.int i t, fun _ => nofun⟩
  | .str x, _, _, h, r => by
    cases h
    obtain ⟨t, rfl⟩ := r
    exact ⟨_, Reads.str x t, fun _ => nofun⟩
  | .list ds, _, _, h, r => by
    cases h with
    | @lst a xs _ hs ha =>
      cases r
      obtain ⟨its, rv, ⟨o, n, ho, hc, _, hd⟩, _⟩ := I.list hs
      obtain ⟨as, hr, n1⟩ := Dr.readsAll I ds _ its ha rv
      exact ⟨_, Reads.list ho hc hd hr, fun z => nomatch z⟩
  | .tuple ds, _, _, h, r => by
    cases h with
    | tup hs ha =>
      cases r
      obtain ⟨its, rv, ⟨o, ho, hc, n, hd⟩, _⟩ := I.tuple hs
      obtain ⟨as, hr, n1⟩ := Dr.readsAll I ds _ its ha rv
      exact ⟨_, Reads.tuple ho hc hd hr, n1⟩
  | .dict es, _, _, h, r => by
    cases h with
    | @dct a kvs _ hh hr =>
      cases r
      obtain ⟨hz, hs, vs, rel, o, ens, ep, ho, hx, hd, _, hp, _⟩ := I.hok a _ hh
      obtain ⟨as, bs, q1, q2, n1, n2⟩ := dict_entries (X := X) (s := s) hp rel es hr (Dr.readsKv I es)
      refine ⟨_, Reads.dict ho hx.1 hd q1 q2, fun hn z => ?_⟩
      rw [List.cons_append] at z
      rcases List.mem_cons.mp z with z | z
      · rw [z] at hs
        simp at hs
      · rcases List.mem_append.mp z with z | z
        · exact n1 z
        · exact n2 hn z
theorem Dr.readsAll (I : Inv X pins σ H s) : ∀ (ds : List PyData) (vs : List V) (us : List Value), DrAll X.K H vs ds → Vals vs us → ∃ as, ReadsAll s.heap us ds as ∧ (noLAll ds = true → sysModules ∉ as)
  | [], _, _, h, r => by
    cases h
    cases r
    exact ⟨_, ReadsAll.nil, fun _ => nofun⟩
  | d :: ds, _, _, h, r => by
    cases h with
    | cons h1 h2 =>
      cases r with
      | cons r1 r2 =>
        obtain ⟨as, q1, n1⟩ := Dr.reads I d _ _ h1 r1
        obtain ⟨bs, q2, n2⟩ := Dr.readsAll I ds _ _ h2 r2
        refine ⟨_, ReadsAll.cons q1 q2, fun hn z => ?_⟩
        have hn : (noL d && noLAll ds) = true := hn
        rw [Bool.and_eq_true] at hn
        rcases List.mem_append.mp z with z | z
        · exact n1 hn.1 z
        · exact n2 hn.2 z
theorem Dr.readsKv (I : Inv X pins σ H s) : ∀ (es : List (PyData × PyData)) (d : PyData) (v : V) (u : Value), (∃ k, (k, d) ∈ es) → Dr X.K H v d → RelV v u → ∃ as, Reads s.heap u d as ∧ (noL d = true → sysModules ∉ as)
  | [], _, _, _, ⟨_, h⟩, _, _ => nomatch h
  | (k, d) :: es, d', v, u, h, hd, r => by
    by_cases e : d' = d
    · subst e
      exact Dr.reads I d' v u hd r
    · refine Dr.readsKv I es d' v u ?_ hd r
      obtain ⟨k', hk⟩ := h
      rcases List.mem_cons.mp hk with hk | hk
      · exact absurd (congrArg Prod.snd hk) e
      · exact ⟨k', hk⟩
end
end
/-! ### a list display that says where it stands -/
def tLstN (t : TA) : TE := fun σ H Q => t σ H fun xs H1 => xs.length ≤ sizeLine ∧ ∀ p, H1 p = none → p ≠ sysModules → Q (.ref p) (upd H1 p (.lst xs))
section
variable {X : Cx} {es : List Expr} {t : TA} {pos : Pos}
theorem pe_lstN (h : PA X es t) : PE X (.List es pos) (tLstN t) := by
  refine ⟨fun pins s σ H Q I hq => ?_⟩
  refine wpAny_List_spliced (thn (h.run pos pins s σ H _ I hq) fun us s1 ⟨xs, H1, I1, r, z, q⟩ => ⟨by rw [← r.length]; exact z, ?_⟩)
  have hf : H1 s1.heap.objs.size = none := I1.hok.fresh (Nat.le_refl _)
  refine ⟨.ref s1.heap.objs.size, upd H1 s1.heap.objs.size (.lst xs), I1.laid (t' := s1.toks) (fun b u e => Heap.get?_push_of_some _ e) (Nat.le_refl _) ?_, rfl, q _ hf (Nat.ne_of_gt I1.big)⟩
  exact ⟨z, us, 0, r, Heap.get?_push_size _ rfl⟩
end
/-! ### repr -/
/-- what may be shown: no list within, or a list that stands apart with no list within -/
def ShowAt (K : PySem.W.Frag) (H : Hp) (x : V) (d : PyData) : Prop := (Dr K H x d ∧ noL d = true) ∨ ∃ a xs ds, x = .ref a ∧ d = .list ds ∧ a ≠ sysModules ∧ SqL K H a xs ∧ DrAll K H xs ds ∧ noLAll ds = true
def rShowD (K : PySem.W.Frag) : List V → Hp → VK → Prop := fun xs H Q => ∃ (x : V) (d : PyData), xs = [x] ∧ ShowAt K H x d ∧ d.showable = true ∧ d.depth < 60 ∧ d.shown.length ≤ sizeLine ∧ Q (.str d.shown) H
section
variable {X : Cx}
theorem call_showD (still : Still X.A) (hu : X.A.units + 64 < cLine) : CallR X (.builtin "repr") (rShowD X.K) := by
  intro pins s σ H xs us Q I r h
  obtain ⟨x, d, rfl, hd, h1, h3, h4, q⟩ := h
  obtain ⟨u, rfl, r1⟩ : ∃ u, us = [u] ∧ RelV x u := by
    cases r with
    | cons a b => cases b; exact ⟨_, rfl, a⟩
  have rd : ∃ as, Reads s.heap u d as ∧ sysModules ∉ as := by
    rcases hd with ⟨hd, hn⟩ | ⟨a, xs, ds, rfl, rfl, na, hs, ha, hn⟩
    · obtain ⟨as, q1, q2⟩ := Dr.reads I d x u hd r1
      exact ⟨as, q1, q2 hn⟩
    · cases r1
      obtain ⟨its, rv, ⟨o, n, ho, hc, _, hd⟩, _⟩ := I.list hs
      obtain ⟨as, hr, n1⟩ := Dr.readsAll I ds _ its ha rv
      refine ⟨_, Reads.list ho hc hd hr, fun z => ?_⟩
      rcases List.mem_cons.mp z with z | z
      · exact na z.symm
      · exact n1 hn z
  obtain ⟨as, rd, hsm⟩ := rd
  cases rd with
  | none => exact P.repr_of_none ⟨.str (PyData.shown .none), H, I.tok _, ⟨_, rfl⟩, q⟩
  | bool b => exact P.repr_of_bool ⟨.str (PyData.shown (.bool b)), H, I.tok _, ⟨_, rfl⟩, q⟩
  | int i t => exact P.repr_of_int (of_decide_eq_true h1) ⟨.str (PyData.shown (.int i)), H, I.tok _, ⟨_, rfl⟩, q⟩
  | str z t => exact P.repr_of_str ⟨.str (PyData.shown (.str z)), H, I.tok _, ⟨_, rfl⟩, q⟩ h4
  | list a1 a2 a3 a4 => exact repr_of_reads' (Reads.list a1 a2 a3 a4) h1 (fun _ => hsm) still (by omega) (fun _ _ e => e) (fun h' u tk hk => ⟨.str (PyData.shown _), H, I.kept (t' := tk) hk, ⟨_, rfl⟩, q⟩) h4
  | tuple a1 a2 a3 a4 => exact repr_of_reads' (Reads.tuple a1 a2 a3 a4) h1 (fun _ => hsm) still (by omega) (fun _ _ e => e) (fun h' u tk hk => ⟨.str (PyData.shown _), H, I.kept (t' := tk) hk, ⟨_, rfl⟩, q⟩) h4
  | dict a1 a2 a3 a4 a5 => exact repr_of_reads' (Reads.dict a1 a2 a3 a4 a5) h1 (fun _ => hsm) still (by omega) (fun _ _ e => e) (fun h' u tk hk => ⟨.str (PyData.shown _), H, I.kept (t' := tk) hk, ⟨_, rfl⟩, q⟩) h4
end
end Da

set_option Elab.async false
set_option linter.all false
set_option maxRecDepth 100000
set_option maxHeartbeats 3200000
/-! data with dicts of texts: compared -/
namespace Da
open PySem PySem.Spec PyProof.Rows L2 Tg
mutual
def dq : PyData → PyData → Bool
  | .none, .none => true
  | .bool a, .bool b => a == b
  | .int a, .int b => a == b
  | .str a, .str b => a == b
  | .list xs, .list ys => dqAll xs ys
  | .tuple xs, .tuple ys => dqAll xs ys
  | .dict es, .dict fs => dqKv es fs
  | _, _ => false
def dqAll : List PyData → List PyData → Bool
  | [], [] => true
  | x :: xs, y :: ys => dq x y && dqAll xs ys
  | _, _ => false
def dqKv : List (PyData × PyData) → List (PyData × PyData) → Bool
  | [], [] => true
  | (_, x) :: es, (_, y) :: fs => dq x y && dqKv es fs
  | _, _ => false
end
mutual
inductive Alike : PyData → PyData → Prop
  | non : Alike .none .none
  | bl (a b : Bool) : Alike (.bool a) (.bool b)
  | int (a b : Int) : Alike (.int a) (.int b)
  | str (a b : Str) : Alike (.str a) (.str b)
  | noneI (b : Int) : Alike .none (.int b)
  | intN (a : Int) : Alike (.int a) .none
  | lst {xs ys : List PyData} : AlikeAll xs ys → Alike (.list xs) (.list ys)
  | tup {xs ys : List PyData} : AlikeAll xs ys → Alike (.tuple xs) (.tuple ys)
  | dct {es fs : List (PyData × PyData)} : AlikeKv es fs → Alike (.dict es) (.dict fs)
inductive AlikeAll : List PyData → List PyData → Prop
  | nilL (ys : List PyData) : AlikeAll [] ys
  | nilR (xs : List PyData) : AlikeAll xs []
  | cons {x y : PyData} {xs ys : List PyData} : Alike x y → AlikeAll xs ys → AlikeAll (x :: xs) (y :: ys)
inductive AlikeKv : List (PyData × PyData) → List (PyData × PyData) → Prop
  | nil : AlikeKv [] []
  | cons {k : Str} {x y : PyData} {es fs : List (PyData × PyData)} : Alike x y → AlikeKv es fs → AlikeKv ((.str k, x) :: es) ((.str k, y) :: fs)
end
theorem dqAll_len : ∀ {xs ys : List PyData}, dqAll xs ys = true → xs.length = ys.length
  | [], [], _ => rfl
  | x :: xs, y :: ys, h => by
    have h : (dq x y && dqAll xs ys) = true := h
    rw [Bool.and_eq_true] at h
    exact congrArg (· + 1) (dqAll_len h.2)
  | [], _ :: _, h => nomatch h
  | _ :: _, [], h => nomatch h
theorem getD_at {α : Type} {xs : List α} {j : Nat} {z : α} (h : j < xs.length) : xs.getD j z = xs[j] := by
  rw [List.getD_eq_getElem?_getD, List.getElem?_eq_getElem h]
  rfl
theorem all_range (f : Nat → Bool) (n : Nat) : (List.range (n + 1)).all f = (f 0 && (List.range n).all fun i => f (i + 1)) := by
  rw [List.range_succ_eq_map, List.all_cons, List.all_map]
  rfl
theorem dqAll_range : ∀ (xs ys : List PyData), ((List.range (min xs.length ys.length)).all (fun j => dq (xs.getD j .none) (ys.getD j .none)) && xs.length == ys.length) = dqAll xs ys
  | [], [] => rfl
  | [], _ :: _ => by
    show (_ && (0 == _ + 1)) = false
    simp
  | _ :: _, [] => by
    show (_ && (_ + 1 == 0)) = false
    simp
  | x :: xs, y :: ys => by
    have ih := dqAll_range xs ys
    show ((List.range (min (xs.length + 1) (ys.length + 1))).all _ && (xs.length + 1 == ys.length + 1)) = (dq x y && dqAll xs ys)
    rw [show min (xs.length + 1) (ys.length + 1) = min xs.length ys.length + 1 by omega, all_range, ← ih, Bool.and_assoc]
    have e : (xs.length + 1 == ys.length + 1) = (xs.length == ys.length) := by
      by_cases h : xs.length = ys.length
      · rw [h]; simp
      · rw [beq_eq_false_iff_ne.mpr h, beq_eq_false_iff_ne.mpr (by omega)]
    rw [e]
    rfl
theorem rel_inj {x y : V} {u : Value} (h : L2.RelV x u) (k : L2.RelV y u) : x = y := by
  cases x <;> cases y <;> simp only [L2.RelV] at h k <;> first
    | rfl
    | (subst h; cases k <;> rfl)
    | (obtain ⟨t, h⟩ := h; obtain ⟨t', k⟩ := k; rw [h] at k; cases k <;> rfl)
    | (obtain ⟨t, h⟩ := h; rw [h] at k; cases k; done)
    | (obtain ⟨t, k⟩ := k; rw [h] at k; cases k; done)
    | (rw [h] at k; cases k; rfl)
    | (rw [h] at k; cases k; done)
theorem vals_inj : ∀ {xs ys : List V} {us : List Value}, Vals xs us → Vals ys us → xs = ys
  | _, _, _, .nil, .nil => rfl
  | _, _, _, .cons a r, .cons b t => by rw [rel_inj a b, vals_inj r t]
theorem kv_inj : ∀ {xs ys : List (Key × V)} {us : List (Key × Value)}, KV xs us → KV ys us → xs = ys
  | _, _, _, .nil, .nil => rfl
  | _, _, _, .cons a r, .cons b t => by
    rw [kv_inj r t, Prod.ext (a.1.trans b.1.symm) (rel_inj a.2 b.2)]
section
variable {X : Cx} {pins : List (Addr × Obj)} {σ : L2.St} {H : Hp} {s : Shared}
theorem seqT_inj {a : Addr} {xs ys : List V} (I : Inv X pins σ H s) (h : SqT X.K H a xs) (k : SqT X.K H a ys) : xs = ys := by
  obtain ⟨i1, r1, ⟨o, ho, _, n, hd⟩, _⟩ := I.tuple h
  obtain ⟨i2, r2, ⟨o', ho', _, n', hd'⟩, _⟩ := I.tuple k
  rw [ho] at ho'
  cases ho'
  rw [hd] at hd'
  injection hd' with e _
  have e : i1 = i2 := congrArg Array.toList e
  rw [← e] at r2
  exact vals_inj r1 r2
theorem seqL_inj {a : Addr} {xs ys : List V} (I : Inv X pins σ H s) (h : SqL X.K H a xs) (k : SqL X.K H a ys) : xs = ys := by
  obtain ⟨i1, r1, ⟨o, n, ho, _, _, hd⟩, _⟩ := I.list h
  obtain ⟨i2, r2, ⟨o', n', ho', _, _, hd'⟩, _⟩ := I.list k
  rw [ho] at ho'
  cases ho'
  rw [hd] at hd'
  injection hd' with e _
  have e : i1 = i2 := congrArg Array.toList e
  rw [← e] at r2
  exact vals_inj r1 r2
theorem seqLT_no {a : Addr} {xs ys : List V} (I : Inv X pins σ H s) (h : SqL X.K H a xs) (k : SqT X.K H a ys) : False := by
  obtain ⟨i1, r1, ⟨o, n, ho, hc, _, hd⟩, _⟩ := I.list h
  obtain ⟨i2, r2, ⟨o', ho', hc', _⟩, _⟩ := I.tuple k
  rw [ho] at ho'
  cases ho'
  rw [hc] at hc'
  injection hc' with e
  exact absurd e (by decide)
theorem seqLD_no {a : Addr} {xs : List V} {kvs : List (Key × V)} (I : Inv X pins σ H s) (h : SqL X.K H a xs) (k : H a = some (.dK kvs)) : False := by
  obtain ⟨i1, r1, ⟨o, n, ho, hc, _, hd⟩, _⟩ := I.list h
  obtain ⟨_, _, _, _, o', _, _, ho', _, hd', _⟩ := I.hok a _ k
  rw [ho] at ho'
  cases ho'
  rw [hd] at hd'
  exact nomatch hd'
theorem seqTD_no {a : Addr} {xs : List V} {kvs : List (Key × V)} (I : Inv X pins σ H s) (h : SqT X.K H a xs) (k : H a = some (.dK kvs)) : False := by
  obtain ⟨i1, r1, ⟨o, ho, hc, _, hd⟩, _⟩ := I.tuple h
  obtain ⟨_, _, _, _, o', _, _, ho', _, hd', _⟩ := I.hok a _ k
  rw [ho] at ho'
  cases ho'
  rw [hd] at hd'
  exact nomatch hd'
mutual
theorem Dr.uniq (I : Inv X pins σ H s) : ∀ (d e : PyData) (v : V), Dr X.K H v d → Dr X.K H v e → d = e
  | .none, _, _, h, k => by cases h; cases k; rfl
  | .bool b, _, _, h, k => by cases h; cases k; rfl
  | .int b, _, _, h, k => by cases h; cases k; rfl
  | .str b, _, _, h, k => by cases h; cases k; rfl
  | .list ds, _, _, h, k => by
    cases h with
    | lst h r =>
      cases k with
      | lst h' r' =>
        rw [seqL_inj I h h'] at r
        rw [DrAll.uniq I ds _ _ r r']
      | tup h' r' => exact (seqLT_no I h h').elim
      | dct h' r' => exact (seqLD_no I h h').elim
  | .tuple ds, _, _, h, k => by
    cases h with
    | tup h r =>
      cases k with
      | tup h' r' =>
        rw [seqT_inj I h h'] at r
        rw [DrAll.uniq I ds _ _ r r']
      | lst h' r' => exact (seqLT_no I h' h).elim
      | dct h' r' => exact (seqTD_no I h h').elim
  | .dict es, _, _, h, k => by
    cases h with
    | dct h r =>
      cases k with
      | dct h' r' =>
        rw [h] at h'
        cases h'
        rw [DrKv.uniq I es _ _ r r']
      | lst h' r' => exact (seqLD_no I h' h).elim
      | tup h' r' => exact (seqTD_no I h' h).elim
theorem DrAll.uniq (I : Inv X pins σ H s) : ∀ (ds es : List PyData) (vs : List V), DrAll X.K H vs ds → DrAll X.K H vs es → ds = es
  | [], _, _, h, k => by cases h; cases k; rfl
  | d :: ds, _, _, h, k => by
    cases h with
    | cons h r =>
      cases k with
      | cons h' r' => rw [Dr.uniq I d _ _ h h', DrAll.uniq I ds _ _ r r']
theorem DrKv.uniq (I : Inv X pins σ H s) : ∀ (ds es : List (PyData × PyData)) (vs : List (Key × V)), DrKv X.K H vs ds → DrKv X.K H vs es → ds = es
  | [], _, _, h, k => by cases h; cases k; rfl
  | (_, d) :: ds, _, _, h, k => by
    cases h with
    | cons h r =>
      cases k with
      | cons h' r' => rw [Dr.uniq I d _ _ h h', DrKv.uniq I ds _ _ r r']
end
mutual
theorem dq_refl : ∀ d : PyData, dq d d = true
  | .none => rfl
  | .bool b => beq_self_eq_true b
  | .int i => beq_self_eq_true i
  | .str z => beq_self_eq_true z
  | .list ds => dqAll_refl ds
  | .tuple ds => dqAll_refl ds
  | .dict es => dqKv_refl es
theorem dqAll_refl : ∀ ds : List PyData, dqAll ds ds = true
  | [] => rfl
  | d :: ds => by
    show (dq d d && dqAll ds ds) = true
    rw [dq_refl d, dqAll_refl ds]
    rfl
theorem dqKv_refl : ∀ es : List (PyData × PyData), dqKv es es = true
  | [] => rfl
  | (_, d) :: es => by
    show (dq d d && dqKv es es) = true
    rw [dq_refl d, dqKv_refl es]
    rfl
end
/-! ### the comparison's tree -/
theorem drAll_get : ∀ {vs : List V} {ds : List PyData}, DrAll X.K H vs ds → ∀ (us : List Value), Vals vs us → ∀ j (h : j < us.length), ∃ (v : V) (hd : j < ds.length), L2.RelV v us[j] ∧ Dr X.K H v ds[j]
  | _, _, .nil, _, .nil, j, h => nomatch h
  | _, _, .cons (ds := ds) h r, _, .cons a b, 0, _ => ⟨_, Nat.succ_pos _, a, h⟩
  | _, _, .cons h r, _, .cons a b, j + 1, hj => by
    obtain ⟨v, hd, q1, q2⟩ := drAll_get r _ b j (Nat.lt_of_succ_lt_succ hj)
    exact ⟨v, Nat.succ_lt_succ hd, q1, q2⟩
theorem drAll_len : ∀ {vs : List V} {ds : List PyData}, DrAll X.K H vs ds → vs.length = ds.length
  | _, _, .nil => rfl
  | _, _, .cons _ r => congrArg (· + 1) (drAll_len r)
theorem alikeAll_get : ∀ {xs ys : List PyData}, AlikeAll xs ys → ∀ j (h : j < xs.length) (k : j < ys.length), Alike xs[j] ys[j]
  | _, _, .nilL _, _, h, _ => nomatch h
  | _, _, .nilR _, _, _, k => nomatch k
  | _, _, .cons a r, 0, _, _ => a
  | _, _, .cons a r, j + 1, h, k => alikeAll_get r j (Nat.lt_of_succ_lt_succ h) (Nat.lt_of_succ_lt_succ k)
theorem depthAll_get : ∀ {xs : List PyData} {n : Nat}, PyData.depthAll xs ≤ n → ∀ j (h : j < xs.length), xs[j].depth ≤ n
  | [], _, _, _, h => nomatch h
  | x :: xs, n, hn, 0, _ => Nat.le_trans (Nat.le_max_left _ _) hn
  | x :: xs, n, hn, j + 1, h => depthAll_get (xs := xs) (Nat.le_trans (Nat.le_max_right _ _) hn) j (Nat.lt_of_succ_lt_succ h)
/-- a tree for each item, a tree for the row -/
def TreeAll (X : Cx) (H : Hp) (s : Shared) (n : Nat) (ds : List PyData) : Prop :=
  ∀ j (h : j < ds.length) (e : PyData) (v y : V) (u w : Value), Alike ds[j] e → Dr X.K H v ds[j] → Dr X.K H y e → L2.RelV v u → L2.RelV y w → PySem.W.EqTree X.prog X.w s n u w (dq ds[j] e)
theorem all_same {α : Type} {f g : α → Bool} : ∀ {l : List α}, (∀ p ∈ l, f p = g p) → l.all f = l.all g
  | [], _ => rfl
  | p :: l, h => by rw [List.all_cons, List.all_cons, h p List.mem_cons_self, all_same fun q hq => h q (List.mem_cons_of_mem _ hq)]
theorem kv_tree {n : Nat} : ∀ {es fs : List (PyData × PyData)}, AlikeKv es fs → ∀ {k1 k2 : List (Key × V)} {a b : List (Key × Value)}, DrKv X.K H k1 es → DrKv X.K H k2 fs → KV k1 a → KV k2 b → (a.map (·.1)).Nodup →
    (∀ (d e : PyData) (v y : V) (u w : Value), (∃ k, (k, d) ∈ es) → Alike d e → Dr X.K H v d → Dr X.K H y e → L2.RelV v u → L2.RelV y w → PySem.W.EqTree X.prog X.w s n u w (dq d e)) →
    a.length = b.length ∧ ∃ f : Key → Bool, (∀ k v y, (k, v) ∈ a → PySem.valueAt b k = some y → PySem.W.EqTree X.prog X.w s n v y (f k)) ∧ (a.all fun p => (PySem.valueAt b p.1).isSome && f p.1) = dqKv es fs := by
  intro es
  induction es with
  | nil =>
    intro fs al k1 k2 a b h1 h2 r1 r2 _ _
    cases al
    cases h1
    cases h2
    cases r1
    cases r2
    exact ⟨rfl, fun _ => true, (fun k v y h => nomatch h), rfl⟩
  | cons p0 es ih =>
    intro fs al k1 k2 a b h1 h2 r1 r2 nd tr
    cases al with
    | @cons k x y _ fs hxy al =>
    cases h1 with
    | cons h1 t1 =>
    cases h2 with
    | cons h2 t2 =>
    cases r1 with
    | @cons _ p _ a' e1 r1 =>
    cases r2 with
    | @cons _ p' _ b' e2 r2 =>
    obtain ⟨pk, pv⟩ := p
    obtain ⟨pk', pv'⟩ := p'
    obtain ⟨q1, q2⟩ := e1
    obtain ⟨q3, q4⟩ := e2
    dsimp only at q1 q2 q3 q4
    subst q1
    subst q3
    rw [List.map_cons, List.nodup_cons] at nd
    obtain ⟨hl, f, hf, hall⟩ := ih al t1 t2 r1 r2 nd.2 fun d e v y u w ⟨k, hk⟩ => tr d e v y u w ⟨k, List.mem_cons_of_mem _ hk⟩
    have at0 : PySem.valueAt ((Sum.inr k, pv') :: b') (Sum.inr k : Key) = some pv' := by simp [PySem.valueAt]
    have at1 : ∀ j : Key, j ≠ Sum.inr k → PySem.valueAt ((Sum.inr k, pv') :: b') j = PySem.valueAt b' j := fun j hj => by
      simp only [PySem.valueAt, List.find?_cons]
      rw [decide_eq_false (fun e => hj e.symm)]
    refine ⟨congrArg (· + 1) hl, fun j => if j = Sum.inr k then dq x y else f j, fun j v z hm hz => ?_, ?_⟩
    · rcases List.mem_cons.mp hm with hm | hm
      · cases hm
        rw [at0] at hz
        cases hz
        show PySem.W.EqTree _ _ _ _ _ _ (if (Sum.inr k : Key) = Sum.inr k then dq x y else f (Sum.inr k))
        rw [if_pos rfl]
        exact tr x y _ _ _ _ ⟨_, List.mem_cons_self⟩ hxy h1 h2 q2 q4
      · have ne : j ≠ Sum.inr k := fun e => nd.1 (List.mem_map.mpr ⟨_, hm, e⟩)
        rw [at1 j ne] at hz
        show PySem.W.EqTree _ _ _ _ _ _ (if j = Sum.inr k then dq x y else f j)
        rw [if_neg ne]
        exact hf j v z hm hz
    · rw [List.all_cons, at0]
      show (true && (if (Sum.inr k : Key) = Sum.inr k then dq x y else f (Sum.inr k)) && _) = (dq x y && dqKv es fs)
      rw [if_pos rfl, Bool.true_and, ← hall]
      congr 1
      refine all_same fun p hp => ?_
      have ne : p.1 ≠ Sum.inr k := fun e => nd.1 (List.mem_map.mpr ⟨_, hp, e⟩)
      rw [at1 _ ne]
      show (_ && (if p.1 = Sum.inr k then dq x y else f p.1)) = _
      rw [if_neg ne]
mutual
theorem Dr.tree (I : Inv X pins σ H s) : ∀ (d e : PyData) (n : Nat) (v y : V) (u w : Value), d.depth ≤ n → Alike d e → Dr X.K H v d → Dr X.K H y e → L2.RelV v u → L2.RelV y w → PySem.W.EqTree X.prog X.w s n u w (dq d e)
  | .none, _, n, _, _, _, _, _, al, h, k, r1, r2 => by
    cases al with
    | non => cases h; cases k; cases r1; cases r2; exact .same
    | noneI b => cases h; cases k; cases r1; obtain ⟨t, rfl⟩ := r2; exact .leaf fun A _ => SeqAt.EqAt.none_int b t
  | .bool b, _, n, _, _, _, _, _, al, h, k, r1, r2 => by
    cases al with
    | bl _ c => cases h; cases k; cases r1; cases r2; exact .leaf fun A _ => SeqAt.EqAt.bool_bool b c
  | .int i, _, n, _, _, _, _, _, al, h, k, r1, r2 => by
    cases al with
    | int _ j => cases h; cases k; obtain ⟨t, rfl⟩ := r1; obtain ⟨t', rfl⟩ := r2; exact .leaf fun A _ => SeqAt.EqAt.int_int i t j t'
    | intN => cases h; cases k; obtain ⟨t, rfl⟩ := r1; cases r2; exact .leaf fun A _ => SeqAt.EqAt.int_none i t
  | .str z, _, n, _, _, _, _, _, al, h, k, r1, r2 => by
    cases al with
    | str _ z' => cases h; cases k; obtain ⟨t, rfl⟩ := r1; obtain ⟨t', rfl⟩ := r2; exact .leaf fun A _ => SeqAt.EqAt.str_str z t z' t'
  | .list ds, e, n, v, y, _, _, hn, al, h, k, r1, r2 => by
    cases n with
    | zero => exact absurd hn (Nat.not_succ_le_zero _)
    | succ n =>
    by_cases ne : v = y
    · subst ne
      have e2 := Dr.uniq I _ _ _ h k
      subst e2
      have : ∀ u w : Value, L2.RelV v u → L2.RelV v w → u = w := fun u w a b => by
        cases h with
        | lst => exact (show u = _ from a).trans (show w = _ from b).symm
      rw [this _ _ r1 r2, dq_refl]
      exact .same
    cases al with
    | @lst _ es al =>
    cases h with
    | @lst a xs _ h q =>
    cases k with
    | @lst b ys _ k q' =>
    cases r1
    cases r2
    obtain ⟨i1, v1, l1, _⟩ := I.list h
    obtain ⟨i2, v2, l2, _⟩ := I.list k
    have e1 : i1.length = ds.length := by rw [← v1.length, drAll_len q]
    have e2 : i2.length = es.length := by rw [← v2.length, drAll_len q']
    have nab : a ≠ b := fun z => ne (by rw [z])
    have L1 : s.heap.IsList a i1.toArray := l1.isList
    have L2 : s.heap.IsList b i2.toArray := l2.isList
    show PySem.W.EqTree _ _ _ _ _ _ (dqAll ds es)
    by_cases hl : ds.length = es.length
    · rw [← dqAll_range, hl, Nat.min_self, beq_self_eq_true, Bool.and_true, ← hl, ← e1]
      refine .lists nab L1 L2 (by show i1.length = i2.length; omega) fun j h1 h2 => ?_
      obtain ⟨p1, d1, a1, b1⟩ := drAll_get q _ v1 j h1
      obtain ⟨p2, d2, a2, b2⟩ := drAll_get q' _ v2 j h2
      rw [getD_at d1, getD_at d2]
      exact DrAll.tree I ds n (Nat.le_of_succ_le_succ hn) j d1 _ _ _ _ _ (alikeAll_get al j d1 d2) b1 b2 a1 a2
    · have : dqAll ds es = false := by
        cases hh : dqAll ds es with
        | false => rfl
        | true => exact absurd (dqAll_len hh) hl
      rw [this]
      exact .listsLen nab L1 L2 (by show (i1.length != i2.length) = true; rw [bne_iff_ne]; omega)
  | .tuple ds, e, n, v, y, _, _, hn, al, h, k, r1, r2 => by
    cases n with
    | zero => exact absurd hn (Nat.not_succ_le_zero _)
    | succ n =>
    by_cases ne : v = y
    · subst ne
      have e2 := Dr.uniq I _ _ _ h k
      subst e2
      have : ∀ u w : Value, L2.RelV v u → L2.RelV v w → u = w := fun u w a b => by
        cases h with
        | tup => exact (show u = _ from a).trans (show w = _ from b).symm
      rw [this _ _ r1 r2, dq_refl]
      exact .same
    cases al with
    | @tup _ es al =>
    cases h with
    | @tup a xs _ h q =>
    cases k with
    | @tup b ys _ k q' =>
    cases r1
    cases r2
    obtain ⟨i1, v1, l1, _⟩ := I.tuple h
    obtain ⟨i2, v2, l2, _⟩ := I.tuple k
    have e1 : i1.length = ds.length := by rw [← v1.length, drAll_len q]
    have e2 : i2.length = es.length := by rw [← v2.length, drAll_len q']
    have nab : a ≠ b := fun z => ne (by rw [z])
    show PySem.W.EqTree _ _ _ _ _ _ (dqAll ds es)
    rw [← dqAll_range, ← e1, ← e2]
    refine .tuples nab l1 l2 fun j h1 h2 => ?_
    obtain ⟨p1, d1, a1, b1⟩ := drAll_get q _ v1 j h1
    obtain ⟨p2, d2, a2, b2⟩ := drAll_get q' _ v2 j h2
    rw [getD_at d1, getD_at d2]
    exact DrAll.tree I ds n (Nat.le_of_succ_le_succ hn) j d1 _ _ _ _ _ (alikeAll_get al j d1 d2) b1 b2 a1 a2
  | .dict es, e, n, v, y, _, _, hn, al, h, k, r1, r2 => by
    cases n with
    | zero => exact absurd hn (Nat.not_succ_le_zero _)
    | succ n =>
    by_cases ne : v = y
    · subst ne
      have e2 := Dr.uniq I _ _ _ h k
      subst e2
      have : ∀ u w : Value, L2.RelV v u → L2.RelV v w → u = w := fun u w a b => by
        cases h with
        | dct => exact (show u = _ from a).trans (show w = _ from b).symm
      rw [this _ _ r1 r2, dq_refl]
      exact .same
    cases al with
    | @dct _ fs al =>
    cases h with
    | @dct a k1 _ h q =>
    cases k with
    | @dct b k2 _ k q' =>
    cases r1
    cases r2
    obtain ⟨_, s1, vs1, kv1, D1⟩ := dk_of I.hok h
    obtain ⟨_, s2, vs2, kv2, D2⟩ := dk_of I.hok k
    have nab : a ≠ b := fun z => ne (by rw [z])
    have nd : (vs1.map (·.1)).Nodup := by
      obtain ⟨_, _, _, _, _, _, _, _, nd⟩ := D1
      exact nd
    obtain ⟨hl, f, hf, hall⟩ := kv_tree (X := X) (H := H) (s := s) (n := n) al q q' kv1 kv2 nd (DrKv.tree I es n (Nat.le_of_succ_le_succ hn))
    show PySem.W.EqTree _ _ _ _ _ _ (dqKv es fs)
    have e := PySem.W.EqTree.dicts (n := n) nab s1 s2 D1 D2 hf
    rw [hl, beq_self_eq_true, Bool.true_and, hall] at e
    exact e
theorem DrAll.tree (I : Inv X pins σ H s) : ∀ (ds : List PyData) (n : Nat), PyData.depthAll ds ≤ n → TreeAll X H s n ds
  | [], _, _ => fun j h => nomatch h
  | d :: ds, n, hn => fun j h e v y u w al h1 h2 r1 r2 => by
    cases j with
    | zero => exact Dr.tree I d e n v y u w (Nat.le_trans (Nat.le_max_left _ _) hn) al h1 h2 r1 r2
    | succ j => exact DrAll.tree I ds n (Nat.le_trans (Nat.le_max_right _ _) hn) j (Nat.lt_of_succ_lt_succ h) e v y u w al h1 h2 r1 r2
theorem DrKv.tree (I : Inv X pins σ H s) : ∀ (es : List (PyData × PyData)) (n : Nat), PyData.depthKv es ≤ n → ∀ (d e : PyData) (v y : V) (u w : Value), (∃ k, (k, d) ∈ es) → Alike d e → Dr X.K H v d → Dr X.K H y e → L2.RelV v u → L2.RelV y w → PySem.W.EqTree X.prog X.w s n u w (dq d e)
  | [], _, _, _, _, _, _, _, _, ⟨_, h⟩, _, _, _, _, _ => nomatch h
  | (k, d) :: es, n, hn, d', e, v, y, u, w, h, al, h1, h2, r1, r2 => by
    have hn : max (max k.depth d.depth) (PyData.depthKv es) ≤ n := hn
    by_cases z : d' = d
    · subst z
      exact Dr.tree I d' e n v y u w (by omega) al h1 h2 r1 r2
    · refine DrKv.tree I es n (by omega) d' e v y u w ?_ al h1 h2 r1 r2
      obtain ⟨k', hk⟩ := h
      rcases List.mem_cons.mp hk with hk | hk
      · exact absurd (congrArg Prod.snd hk) z
      · exact ⟨k', hk⟩
end
end
/-! ### d == e, two dicts -/
def rEqK (K : PySem.W.Frag) : R2 := fun x y H Q => ∃ es fs, Dr K H x (.dict es) ∧ Dr K H y (.dict fs) ∧ AlikeKv es fs ∧ PyData.depthKv es ≤ 60 ∧ Q (.bl (dqKv es fs)) H
theorem op_eqK {X : Cx} (hu : X.A.units + 64 < cLine) : OpR X (compareOp .Eq) (rEqK X.K) := by
  intro pins s σ H x y u w Q I r1 r2 h
  obtain ⟨es, fs, h1, h2, al, hd, q⟩ := h
  cases h1 with
  | @dct a k1 _ h q1 =>
  cases h2 with
  | @dct b k2 _ k q2 =>
  cases r1
  cases r2
  obtain ⟨_, s1, vs1, kv1, D1⟩ := dk_of I.hok h
  obtain ⟨_, s2, vs2, kv2, D2⟩ := dk_of I.hok k
  have nd : (vs1.map (·.1)).Nodup := by
    obtain ⟨_, _, _, _, _, _, _, _, nd⟩ := D1
    exact nd
  obtain ⟨hl, f, hf, hall⟩ := kv_tree (X := X) (H := H) (s := s) (n := 60) al q1 q2 kv1 kv2 nd (DrKv.tree I es 60 hd)
  refine PySem.W.eq_dictsT (n := 60) s1 s2 D1 D2 hf (by omega) ?_
  rw [hl, beq_self_eq_true, Bool.true_and, hall]
  exact ⟨.bl _, H, I, rfl, q⟩
end Da

set_option linter.all false
/-! turns of points, as lists: put together, undone, and how often they lead all points back -/
namespace Pm
variable {n p q : Nat} {t u v : List Nat}
/-- where a turn leads a point -/
def to (t : List Nat) (p : Nat) : Nat := t.getD p 0
def Turn (n : Nat) (t : List Nat) : Prop := t.Perm (List.range n)
theorem to_get (h : p < t.length) : to t p = t[p] := by
  unfold to
  rw [List.getD_eq_getElem?_getD, List.getElem?_eq_getElem h]
  rfl
theorem Turn.len (h : Turn n t) : t.length = n := by
  have := h.length_eq
  rw [List.length_range] at this
  exact this
theorem Turn.mem (h : Turn n t) : p ∈ t ↔ p < n := h.mem_iff.trans List.mem_range
theorem Turn.nodup (h : Turn n t) : t.Nodup := h.nodup_iff.mpr List.nodup_range
theorem Turn.lt (h : Turn n t) (hp : p < n) : to t p < n := by
  have hp' : p < t.length := by rw [h.len]; exact hp
  rw [to_get hp']
  exact h.mem.mp (List.getElem_mem hp')
def joint (t u : List Nat) : List Nat := t.map (to u)
theorem range_map (h : u.length = n) : (List.range n).map (to u) = u := by
  apply List.ext_getElem
  · rw [List.length_map, List.length_range, h]
  · intro i h1 h2
    rw [List.getElem_map, List.getElem_range, to_get h2]
theorem turn_joint (h : Turn n t) (k : Turn n u) : Turn n (joint t u) := by
  have := h.map (to u)
  rw [range_map k.len] at this
  exact this.trans k
theorem joint_len : (joint t u).length = t.length := List.length_map ..
theorem to_joint (hp : p < t.length) : to (joint t u) p = to u (to t p) := by
  rw [to_get (by rw [joint_len]; exact hp), to_get hp]
  exact List.getElem_map ..
theorem joint_assoc (h : Turn n t) (k : Turn n u) : joint (joint t u) v = joint t (joint u v) := by
  unfold joint
  rw [List.map_map]
  refine List.map_congr_left fun x hx => ?_
  exact (to_joint (t := u) (u := v) (by rw [k.len]; exact h.mem.mp hx)).symm
theorem to_still (hp : p < n) : to (List.range n) p = p := by
  rw [to_get (by rw [List.length_range]; exact hp), List.getElem_range]
theorem joint_still (h : Turn n t) : joint t (List.range n) = t := by
  unfold joint
  have : t.map (to (List.range n)) = t.map id := List.map_congr_left fun x hx => to_still (h.mem.mp hx)
  rw [this, List.map_id]
theorem still_joint (h : Turn n t) : joint (List.range n) t = t := range_map h.len
theorem still_turn : Turn n (List.range n) := List.Perm.refl _
/-- two turns are the same if they lead all points so -/
theorem turn_ext (h : Turn n t) (k : Turn n u) (e : ∀ p, p < n → to t p = to u p) : t = u := by
  rw [← range_map h.len, ← range_map k.len]
  exact List.map_congr_left fun x hx => e x (List.mem_range.mp hx)
theorem nodup_inj {l : List Nat} (h : l.Nodup) {i j : Nat} (hi : i < l.length) (hj : j < l.length) (e : l[i] = l[j]) : i = j := by
  rcases Nat.lt_trichotomy i j with c | c | c
  · exact absurd e (List.pairwise_iff_getElem.mp h i j hi hj c)
  · exact c
  · exact absurd e.symm (List.pairwise_iff_getElem.mp h j i hj hi c)
def undone (t : List Nat) : List Nat := (List.range t.length).map fun q => t.idxOf q
theorem to_idx (h : Turn n t) (hq : q < n) : to t (t.idxOf q) = q := by
  have hm := h.mem.mpr hq
  rw [to_get (List.idxOf_lt_length_of_mem hm)]
  exact List.getElem_idxOf _
theorem idx_to (h : Turn n t) (hp : p < n) : t.idxOf (to t p) = p := by
  have hp' : p < t.length := by rw [h.len]; exact hp
  have hm : to t p ∈ t := h.mem.mpr (h.lt hp)
  have hl := List.idxOf_lt_length_of_mem hm
  have e : t[t.idxOf (to t p)] = t[p] := by
    rw [List.getElem_idxOf]
    exact to_get hp'
  exact nodup_inj h.nodup hl hp' e
theorem undone_len : (undone t).length = t.length := by
  unfold undone
  rw [List.length_map, List.length_range]
theorem to_undone (h : Turn n t) (hq : q < n) : to (undone t) q = t.idxOf q := by
  have hq' : q < t.length := by rw [h.len]; exact hq
  rw [to_get (by rw [undone_len]; exact hq')]
  unfold undone
  rw [List.getElem_map, List.getElem_range]
theorem turn_undone (h : Turn n t) : Turn n (undone t) := by
  have h1 : undone t = (List.range n).map fun q => t.idxOf q := by unfold undone; rw [h.len]
  have h2 : t.map (fun q => t.idxOf q) = List.range n := by
    apply List.ext_getElem
    · rw [List.length_map, h.len, List.length_range]
    · intro i h3 h4
      rw [List.length_range] at h4
      rw [List.getElem_map, List.getElem_range]
      have := idx_to h h4
      rw [to_get (by rw [h.len]; exact h4)] at this
      exact this
  have h3 := (h.symm).map fun q => t.idxOf q
  rw [h2] at h3
  rw [h1]
  exact h3
theorem joint_undone (h : Turn n t) : joint t (undone t) = List.range n :=
  turn_ext (turn_joint h (turn_undone h)) still_turn fun p hp => by
    rw [to_joint (by rw [h.len]; exact hp), to_undone h (h.lt hp), idx_to h hp, to_still hp]
theorem undone_joint (h : Turn n t) : joint (undone t) t = List.range n :=
  turn_ext (turn_joint (turn_undone h) h) still_turn fun p hp => by
    rw [to_joint (by rw [(turn_undone h).len]; exact hp), to_undone h hp, to_idx h hp, to_still hp]
theorem undone_undone (h : Turn n t) : undone (undone t) = t := by
  have k := turn_undone h
  have e : joint (joint (undone (undone t)) (undone t)) t = joint (undone (undone t)) (joint (undone t) t) := joint_assoc (turn_undone k) k
  rw [undone_joint k, undone_joint h, still_joint h, joint_still (turn_undone k)] at e
  exact e.symm
theorem undone_of_joint (h : Turn n t) (k : Turn n u) : undone (joint t u) = joint (undone u) (undone t) := by
  have hj := turn_joint h k
  have hu := turn_undone hj
  refine turn_ext hu (turn_joint (turn_undone k) (turn_undone h)) fun p hp => ?_
  rw [to_undone hj hp, to_joint (by rw [(turn_undone k).len]; exact hp), to_undone k hp]
  have hp1 : u.idxOf p < n := by
    have := List.idxOf_lt_length_of_mem (k.mem.mpr hp)
    rw [k.len] at this
    exact this
  rw [to_undone h hp1]
  have hp2 : t.idxOf (u.idxOf p) < n := by
    have := List.idxOf_lt_length_of_mem (h.mem.mpr hp1)
    rw [h.len] at this
    exact this
  have e : to (joint t u) (t.idxOf (u.idxOf p)) = p := by rw [to_joint (by rw [h.len]; exact hp2), to_idx h hp1, to_idx k hp]
  have := idx_to hj hp2
  rw [e] at this
  exact this
theorem to_inj (h : Turn n t) (hp : p < n) (hq : q < n) (e : to t p = to t q) : p = q := by
  rw [← idx_to h hp, e, idx_to h hq]
/-! again and again -/
def it (t : List Nat) : Nat → Nat → Nat
  | 0, p => p
  | k + 1, p => to t (it t k p)
theorem it_lt (h : Turn n t) (hp : p < n) : ∀ k, it t k p < n
  | 0 => hp
  | k + 1 => h.lt (it_lt h hp k)
theorem it_add (t : List Nat) (a : Nat) (p : Nat) : ∀ b, it t (b + a) p = it t b (it t a p)
  | 0 => by rw [Nat.zero_add]; rfl
  | b + 1 => by
    rw [show b + 1 + a = (b + a) + 1 by omega]
    show to t (it t (b + a) p) = to t (it t b (it t a p))
    rw [it_add t a p b]
theorem it_comm (t : List Nat) (a b p : Nat) : it t a (it t b p) = it t b (it t a p) := by rw [← it_add, ← it_add, Nat.add_comm]
theorem it_mul {m : Nat} (e : it t m p = p) : ∀ c, it t (m * c) p = p
  | 0 => rfl
  | c + 1 => by
    rw [Nat.mul_succ, it_add, e]
    exact it_mul e c
theorem it_inj (h : Turn n t) (hp : p < n) (hq : q < n) : ∀ k, it t k p = it t k q → p = q
  | 0, e => e
  | k + 1, e => it_inj h hp hq k (to_inj h (it_lt h hp k) (it_lt h hq k) e)
/-- if no earlier one comes back, then all that come back are multiples -/
theorem it_dvd {m : Nat} (h : Turn n t) (hp : p < n) (hm : 0 < m) (e : it t m p = p) (hl : ∀ k, 0 < k → k < m → it t k p ≠ p) (k : Nat) : it t k p = p ↔ m ∣ k := by
  constructor
  · intro hk
    have e2 : it t (k % m) p = p := by
      have := Nat.div_add_mod k m
      have e3 : it t (k % m + m * (k / m)) p = p := by rw [Nat.add_comm, this]; exact hk
      rw [it_add, it_mul e] at e3
      exact e3
    by_cases h0 : k % m = 0
    · exact Nat.dvd_of_mod_eq_zero h0
    · exact absurd e2 (hl _ (Nat.pos_of_ne_zero h0) (Nat.mod_lt _ hm))
  · rintro ⟨c, rfl⟩
    exact it_mul e c
/-- the order: just the multiples lead all points back -/
def Ord (n : Nat) (t : List Nat) (L : Nat) : Prop := 0 < L ∧ ∀ k, (∀ p, p < n → it t k p = p) ↔ L ∣ k
theorem ord_uniq {L M : Nat} (a : Ord n t L) (b : Ord n t M) : L = M :=
  Nat.dvd_antisymm ((a.2 M).mp ((b.2 M).mpr (Nat.dvd_refl M))) ((b.2 L).mp ((a.2 L).mpr (Nat.dvd_refl L)))
theorem ord_undone {L : Nat} (h : Turn n t) (a : Ord n t L) : Ord n (undone t) L := by
  refine ⟨a.1, fun k => Iff.trans ?_ (a.2 k)⟩
  have b1 : ∀ k p, p < n → it t k (it (undone t) k p) = p := by
    intro k
    induction k with
    | zero => intro p hp; rfl
    | succ k ih =>
      intro p hp
      have hq := it_lt (turn_undone h) hp k
      have e : it t (k + 1) (to (undone t) (it (undone t) k p)) = it t k (to t (to (undone t) (it (undone t) k p))) := it_add t 1 _ k
      show it t (k + 1) (to (undone t) (it (undone t) k p)) = p
      rw [e, to_undone h hq, to_idx h hq]
      exact ih p hp
  constructor
  · intro hk p hp
    have := b1 k p hp
    rw [hk p hp] at this
    exact this
  · intro hk p hp
    have := b1 k p hp
    rw [hk _ (it_lt (turn_undone h) hp k)] at this
    exact this
theorem ord_conj {L : Nat} {c d s : List Nat} (hc : Turn n c) (hd : Turn n d) (hs : Turn n s) (e : ∀ p, p < n → to d (to s p) = to s (to c p)) (a : Ord n c L) : Ord n d L := by
  refine ⟨a.1, fun k => Iff.trans ?_ (a.2 k)⟩
  have b1 : ∀ k p, p < n → it d k (to s p) = to s (it c k p) := by
    intro k
    induction k with
    | zero => intro p hp; rfl
    | succ k ih =>
      intro p hp
      show to d (it d k (to s p)) = to s (to c (it c k p))
      rw [ih p hp, e _ (it_lt hc hp k)]
  constructor
  · intro hk p hp
    have := b1 k p hp
    rw [hk _ (hs.lt hp)] at this
    exact (to_inj hs hp (it_lt hc hp k) this).symm
  · intro hk q hq
    have := b1 k (s.idxOf q) (by
      have := List.idxOf_lt_length_of_mem (hs.mem.mpr hq)
      rw [hs.len] at this
      exact this)
    rw [to_idx hs hq, hk _ (by
      have := List.idxOf_lt_length_of_mem (hs.mem.mpr hq)
      rw [hs.len] at this
      exact this), to_idx hs hq] at this
    exact this
theorem ord_one {L : Nat} (h : Turn n t) (a : Ord n t L) : L = 1 ↔ t = List.range n := by
  have e := a.2 1
  constructor
  · intro hl
    refine turn_ext h still_turn fun p hp => ?_
    rw [to_still hp]
    exact e.mpr (by rw [hl]; exact Nat.dvd_refl 1) p hp
  · intro ht
    exact Nat.dvd_one.mp (e.mp fun p hp => by
      show to t p = p
      rw [ht]
      exact to_still hp)
/-- so many of a turn -/
def pw (t : List Nat) : Nat → List Nat
  | 0 => t
  | k + 1 => joint (pw t k) t
theorem turn_pw (h : Turn n t) : ∀ k, Turn n (pw t k)
  | 0 => h
  | k + 1 => turn_joint (turn_pw h k) h
theorem to_pw (h : Turn n t) (hp : p < n) : ∀ k, to (pw t k) p = it t (k + 1) p
  | 0 => rfl
  | k + 1 => by
    show to (joint (pw t k) t) p = to t (it t (k + 1) p)
    rw [to_joint (by rw [(turn_pw h k).len]; exact hp), to_pw h hp k]
theorem pw_still {L k : Nat} (h : Turn n t) (a : Ord n t L) : pw t k = List.range n ↔ L ∣ k + 1 := by
  rw [← a.2 (k + 1)]
  constructor
  · intro e p hp
    rw [← to_pw h hp, e, to_still hp]
  · intro e
    exact turn_ext (turn_pw h k) still_turn fun p hp => by rw [to_pw h hp, e p hp, to_still hp]
end Pm

set_option linter.all false
/-! the rows of points that a turn leads round -/
namespace Pm
variable {n : Nat} {t : List Nat}
theorem len_le : ∀ {l r : List Nat}, l.Nodup → (∀ x ∈ l, x ∈ r) → l.length ≤ r.length
  | [], _, _, _ => Nat.zero_le _
  | a :: l, r, hn, hs => by
    have ha := hs a List.mem_cons_self
    have hn' := List.nodup_cons.mp hn
    have := len_le (l := l) (r := r.erase a) hn'.2 fun x hx => by
      have hne : x ≠ a := fun e => hn'.1 (e ▸ hx)
      exact (List.mem_erase_of_ne hne).mpr (hs x (List.mem_cons_of_mem _ hx))
    have h1 := List.length_erase_of_mem ha
    have h2 := List.length_pos_of_mem ha
    rw [List.length_cons]
    omega
theorem small_len {l : List Nat} (h : l.Nodup) (hl : ∀ x ∈ l, x < n) : l.length ≤ n := by
  have := len_le (r := List.range n) h fun x hx => List.mem_range.mpr (hl x hx)
  rw [List.length_range] at this
  exact this
/-- what is known ahead of the start i -/
structure Out (n : Nat) (t : List Nat) (i : Nat) (S M : List Nat) : Prop where
  nd : S.Nodup
  lt : ∀ p ∈ S, p < n
  cl : ∀ p, p < n → (p ∈ S ↔ to t p ∈ S)
  all : ∀ p, p < i → p ∈ S
  per : ∀ k, (∀ p ∈ S, it t k p = p) ↔ ∀ m ∈ M, m ∣ k
  sz : ∀ m ∈ M, 1 ≤ m ∧ m ≤ n
  ln : M.length ≤ i
def walk (t : List Nat) (s j : Nat) : List Nat := (List.range j).map fun k => it t k s
theorem walk_succ (t : List Nat) (s j : Nat) : walk t s (j + 1) = walk t s j ++ [it t j s] := by
  unfold walk
  rw [List.range_succ, List.map_append]
  rfl
theorem mem_walk {s j x : Nat} : x ∈ walk t s j ↔ ∃ k, k < j ∧ it t k s = x := by
  unfold walk
  rw [List.mem_map]
  constructor
  · rintro ⟨k, hk, e⟩
    exact ⟨k, List.mem_range.mp hk, e⟩
  · rintro ⟨k, hk, e⟩
    exact ⟨k, List.mem_range.mpr hk, e⟩
theorem walk_len (t : List Nat) (s j : Nat) : (walk t s j).length = j := by
  unfold walk
  rw [List.length_map, List.length_range]
/-- what is known on the way from the start s -/
structure In (S : List Nat) (t : List Nat) (s j : Nat) : Prop where
  nd : (walk t s j).Nodup
  off : ∀ x ∈ walk t s j, x ∉ S
theorem in_zero (S : List Nat) (t : List Nat) (s : Nat) : In S t s 0 := ⟨List.nodup_nil, fun x hx => by cases hx⟩
theorem in_succ {S : List Nat} {s j : Nat} (h : In S t s j) (hp : it t j s ∉ S ++ walk t s j) : In S t s (j + 1) := by
  rw [List.mem_append, not_or] at hp
  constructor
  · rw [walk_succ]
    refine List.nodup_append.mpr ⟨h.nd, by simp, fun x hx y hy e => ?_⟩
    rw [List.mem_singleton.mp hy] at e
    exact hp.2 (e ▸ hx)
  · intro x hx
    rw [walk_succ] at hx
    rcases List.mem_append.mp hx with hx | hx
    · exact h.off x hx
    · rw [List.mem_singleton.mp hx]
      exact hp.1
theorem in_le {S : List Nat} {s j : Nat} (ht : Turn n t) (hs : s < n) (h : In S t s j) : j ≤ n := by
  have := small_len (n := n) h.nd fun x hx => by
    obtain ⟨k, _, e⟩ := mem_walk.mp hx
    rw [← e]
    exact it_lt ht hs k
  rw [walk_len] at this
  exact this
theorem out_zero : Out n t 0 [] [] := ⟨List.nodup_nil, (fun p hp => (by cases hp)), (fun p _ => ⟨(fun h => (by cases h)), (fun h => (by cases h))⟩), (fun p hp => absurd hp (Nat.not_lt_zero p)), (fun k => ⟨(fun _ m hm => (by cases hm)), (fun _ p hp => (by cases hp))⟩), (fun m hm => (by cases hm)), Nat.le_refl 0⟩
theorem out_same {i : Nat} {S M : List Nat} (h : Out n t i S M) (hi : i ∈ S) : Out n t (i + 1) S M :=
  ⟨h.nd, h.lt, h.cl, fun p hp => by
    rcases Nat.lt_succ_iff_lt_or_eq.mp hp with c | c
    · exact h.all p c
    · rw [c]; exact hi, h.per, h.sz, by have := h.ln; omega⟩
theorem it_mem {i : Nat} {S M : List Nat} (ht : Turn n t) (h : Out n t i S M) {s : Nat} (hs : s < n) : ∀ k, it t k s ∈ S → s ∈ S
  | 0, e => e
  | k + 1, e => it_mem ht h hs k ((h.cl _ (it_lt ht hs k)).mpr e)
theorem it_back {s j : Nat} {S M : List Nat} {i : Nat} (ht : Turn n t) (h : Out n t i S M) (hs : s < n) (hI : In S t s (j + 1)) (hp : it t (j + 1) s ∈ S ++ walk t s (j + 1)) : it t (j + 1) s = s := by
  have h0 : s ∉ S := hI.off s (mem_walk.mpr ⟨0, Nat.succ_pos j, rfl⟩)
  rcases List.mem_append.mp hp with hp | hp
  · exact absurd (it_mem ht h hs _ hp) h0
  · obtain ⟨k, hk, e⟩ := mem_walk.mp hp
    cases k with
    | zero => exact e.symm
    | succ k =>
      have e2 : it t k s = it t j s := to_inj ht (it_lt ht hs k) (it_lt ht hs j) e
      have hl : (walk t s (j + 1)).length = j + 1 := walk_len ..
      have e3 : (walk t s (j + 1))[k]'(by omega) = (walk t s (j + 1))[j]'(by omega) := by
        unfold walk
        rw [List.getElem_map, List.getElem_map, List.getElem_range, List.getElem_range]
        exact e2
      have := nodup_inj hI.nd _ _ e3
      omega
theorem out_succ {j i : Nat} {S M : List Nat} (ht : Turn n t) (h : Out n t i S M) (hs : i < n) (hI : In S t i (j + 1)) (hp : it t (j + 1) i ∈ S ++ walk t i (j + 1)) : Out n t (i + 1) (S ++ walk t i (j + 1)) (M ++ [j + 1]) := by
  have hb := it_back ht h hs hI hp
  have hne : ∀ k, 0 < k → k < j + 1 → it t k i ≠ i := by
    intro k h0 hk e
    have hl : (walk t i (j + 1)).length = j + 1 := walk_len ..
    have e3 : (walk t i (j + 1))[k]'(by omega) = (walk t i (j + 1))[0]'(by omega) := by
      unfold walk
      rw [List.getElem_map, List.getElem_map, List.getElem_range, List.getElem_range]
      exact e
    have := nodup_inj hI.nd _ _ e3
    omega
  refine ⟨?_, ?_, ?_, ?_, ?_, ?_, ?_⟩
  · refine List.nodup_append.mpr ⟨h.nd, hI.nd, fun x hx y hy e => ?_⟩
    exact hI.off y hy (e ▸ hx)
  · intro p hp'
    rcases List.mem_append.mp hp' with c | c
    · exact h.lt p c
    · obtain ⟨k, _, e⟩ := mem_walk.mp c
      rw [← e]
      exact it_lt ht hs k
  · intro p hpn
    rw [List.mem_append, List.mem_append]
    constructor
    · rintro (c | c)
      · exact .inl ((h.cl p hpn).mp c)
      · obtain ⟨k, hk, e⟩ := mem_walk.mp c
        refine .inr (mem_walk.mpr ?_)
        by_cases hk2 : k + 1 < j + 1
        · exact ⟨k + 1, hk2, by show to t (it t k i) = to t p; rw [e]⟩
        · have : k = j := by omega
          subst this
          exact ⟨0, by omega, by
            show i = to t p
            rw [← e]
            exact hb.symm⟩
    · rintro (c | c)
      · exact .inl ((h.cl p hpn).mpr c)
      · obtain ⟨k, hk, e⟩ := mem_walk.mp c
        refine .inr (mem_walk.mpr ?_)
        cases k with
        | zero =>
          refine ⟨j, Nat.lt_succ_self j, to_inj ht (it_lt ht hs j) hpn ?_⟩
          exact hb.trans e
        | succ k => exact ⟨k, by omega, to_inj ht (it_lt ht hs k) hpn e⟩
  · intro p hp'
    rcases Nat.lt_succ_iff_lt_or_eq.mp hp' with c | c
    · exact List.mem_append_left _ (h.all p c)
    · rw [c]
      exact List.mem_append_right _ (mem_walk.mpr ⟨0, Nat.succ_pos j, rfl⟩)
  · intro k
    have e1 : (∀ p ∈ walk t i (j + 1), it t k p = p) ↔ (j + 1) ∣ k := by
      rw [← it_dvd ht hs (Nat.succ_pos j) hb hne k]
      constructor
      · intro a
        exact a i (mem_walk.mpr ⟨0, Nat.succ_pos j, rfl⟩)
      · intro a p hp'
        obtain ⟨m, _, e⟩ := mem_walk.mp hp'
        rw [← e, it_comm, a]
    constructor
    · intro a m hm
      rcases List.mem_append.mp hm with c | c
      · exact (h.per k).mp (fun p hp' => a p (List.mem_append_left _ hp')) m c
      · rw [List.mem_singleton.mp c]
        exact e1.mp fun p hp' => a p (List.mem_append_right _ hp')
    · intro a p hp'
      rcases List.mem_append.mp hp' with c | c
      · exact (h.per k).mpr (fun m hm => a m (List.mem_append_left _ hm)) p c
      · exact e1.mpr (a _ (List.mem_append_right _ (List.mem_singleton.mpr rfl))) p c
  · intro m hm
    rcases List.mem_append.mp hm with c | c
    · exact h.sz m c
    · rw [List.mem_singleton.mp c]
      exact ⟨by omega, in_le ht hs hI⟩
  · have := h.ln
    rw [List.length_append, List.length_singleton]
    omega
/-- what the lengths tell -/
structure Lens (n : Nat) (t : List Nat) (M : List Nat) : Prop where
  per : ∀ k, (∀ p, p < n → it t k p = p) ↔ ∀ m ∈ M, m ∣ k
  sz : ∀ m ∈ M, 1 ≤ m ∧ m ≤ n
  ln : M.length ≤ n
theorem out_end {S M : List Nat} (h : Out n t n S M) : Lens n t M :=
  ⟨fun k => Iff.trans ⟨fun a p hp => a p (h.lt p hp), fun a p hp => a p (h.all p hp)⟩ (h.per k), h.sz, h.ln⟩
def lcmOf (M : List Nat) : Nat := M.foldl (fun a m => Nat.lcm a m) 1
theorem lcm_dvd (k : Nat) : ∀ (M : List Nat) (a : Nat), M.foldl (fun a m => Nat.lcm a m) a ∣ k ↔ a ∣ k ∧ ∀ m ∈ M, m ∣ k
  | [], a => by simp
  | m :: M, a => by
    show M.foldl (fun a m => Nat.lcm a m) (Nat.lcm a m) ∣ k ↔ _
    rw [lcm_dvd k M, Nat.lcm_dvd_iff]
    constructor
    · rintro ⟨⟨h1, h2⟩, h3⟩
      refine ⟨h1, fun x hx => ?_⟩
      rcases List.mem_cons.mp hx with rfl | hx
      · exact h2
      · exact h3 x hx
    · rintro ⟨h1, h2⟩
      exact ⟨⟨h1, h2 m List.mem_cons_self⟩, fun x hx => h2 x (List.mem_cons_of_mem _ hx)⟩
theorem lcm_take {M : List Nat} {i m : Nat} (h : M[i]? = some m) : lcmOf (M.take (i + 1)) = Nat.lcm (lcmOf (M.take i)) m := by
  unfold lcmOf
  rw [List.take_add_one, h, List.foldl_append]
  rfl
theorem lcm_pos : ∀ (M : List Nat), (∀ m ∈ M, 1 ≤ m) → ∀ a, 0 < a → 0 < M.foldl (fun a m => Nat.lcm a m) a
  | [], _, a, h => h
  | m :: M, hM, a, h => lcm_pos M (fun x hx => hM x (List.mem_cons_of_mem _ hx)) _ (Nat.lcm_pos h (hM m List.mem_cons_self))
theorem lcm_bound {b : Nat} (hb : 1 ≤ b) : ∀ (M : List Nat), (∀ m ∈ M, m ≤ b) → ∀ a, M.foldl (fun a m => Nat.lcm a m) a ≤ a * b ^ M.length
  | [], _, a => by simp
  | m :: M, hM, a => by
    have h1 := lcm_bound hb M (fun x hx => hM x (List.mem_cons_of_mem _ hx)) (Nat.lcm a m)
    have h2 : Nat.lcm a m ≤ a * m := by
      unfold Nat.lcm
      exact Nat.div_le_self _ _
    have h3 : a * m ≤ a * b := Nat.mul_le_mul_left _ (hM m List.mem_cons_self)
    show M.foldl (fun a m => Nat.lcm a m) (Nat.lcm a m) ≤ a * b ^ (M.length + 1)
    refine Nat.le_trans h1 (Nat.le_trans (Nat.mul_le_mul_right _ (Nat.le_trans h2 h3)) ?_)
    rw [Nat.pow_succ, Nat.mul_assoc, Nat.mul_comm b]
    exact Nat.le_refl _
theorem ord_lcm {M : List Nat} (h : Lens n t M) : Ord n t (lcmOf M) :=
  ⟨lcm_pos M (fun m hm => (h.sz m hm).1) 1 Nat.one_pos, fun k => by
    rw [h.per k]
    unfold lcmOf
    rw [lcm_dvd k M 1]
    exact ⟨fun a => ⟨Nat.one_dvd k, a⟩, fun a => a.2⟩⟩
end Pm

set_option Elab.async false
set_option linter.all false
set_option maxRecDepth 100000
set_option maxHeartbeats 3200000
namespace K6
open PySem L2 Tx Tg Tm Da
def top (i : Nat) : Stmt := PySem.Challenge.pw_whatcounts_k06_whole_weights_of_function.main.body.getD i (.Pass ⟨0, 0, 0, 0⟩)
abbrev sInt : Stmt := top 12
abbrev sLetters : Stmt := top 13
abbrev sPattern : Stmt := top 14
abbrev sCheck : Stmt := top 15
abbrev sHas : Stmt := top 16
abbrev sCPattern : Stmt := top 18
abbrev sCBetween : Stmt := top 19
abbrev sCMost : Stmt := top 20
abbrev sAllT : Stmt := top 22
abbrev sSelections : Stmt := top 24
abbrev sAlter : Stmt := top 25
abbrev sWeight : Stmt := top 28
abbrev sWeights : Stmt := top 29
abbrev sCup : Stmt := top 31
abbrev sBit : Stmt := top 32
abbrev sPick : Stmt := top 33
abbrev sSigns : Stmt := top 34
abbrev sLRest : Stmt := top 35
abbrev sLine : Stmt := top 36
abbrev sLinesTo : Stmt := top 37
abbrev sSpread : Stmt := top 38
abbrev sHeap : Stmt := top 39
abbrev sCleared : Stmt := top 40
abbrev sAtH : Stmt := top 41
abbrev sSigned : Stmt := top 42
abbrev sSelected : Stmt := top 43
abbrev sRight : Stmt := top 44
abbrev sLaw : Stmt := top 45
/-! ### values -/
inductive Val (H : Hp) : V → PyData → Prop
  | non : Val H .non .none
  | bl (b : Bool) : Val H (.bl b) (.bool b)
  | int (n : Int) : Val H (.int n) (.int n)
  | str (z : Str) : Val H (.str z) (.str z)
  | lst {a : Addr} (l : List Str) (h : H a = some (.lst (l.map V.str))) : Val H (.ref a) (.list (l.map PyData.str))
  | tup {a : Addr} (l : List Str) (h : H a = some (.tup (l.map V.str))) : Val H (.ref a) (.tuple (l.map PyData.str))
  | tupI {a : Addr} (l : List Int) (h : H a = some (.tup (l.map V.int))) : Val H (.ref a) (.tuple (l.map PyData.int))
  | dct {a : Addr} (kvs : List (Str × Int)) (h : H a = some (.dK (kvs.map fun p => (Sum.inr p.1, V.int p.2)))) : Val H (.ref a) (.dict (kvs.map fun p => (.str p.1, .int p.2)))
theorem Val.same {H H' : Hp} {v : V} {d : PyData} (s : Same H H') (h : Val H v d) : Val H' v d := by
  cases h with
  | non => exact .non
  | bl b => exact .bl b
  | int n => exact .int n
  | str z => exact .str z
  | lst l h => exact .lst l (s _ _ h)
  | tup l h => exact .tup l (s _ _ h)
  | tupI l h => exact .tupI l (s _ _ h)
  | dct l h => exact .dct l (s _ _ h)
def intTy : PyData → Bool
  | .int _ => true
  | .bool _ => true
  | _ => false
def strTy : PyData → Bool
  | .str _ => true
  | _ => false
def blTy : PyData → Bool
  | .bool _ => true
  | _ => false
theorem k_NoneType_int : kitB "NoneType" "int" = some false := by decide +kernel
theorem k_NoneType_str : kitB "NoneType" "str" = some false := by decide +kernel
theorem k_NoneType_bool : kitB "NoneType" "bool" = some false := by decide +kernel
theorem k_bool_int : kitB "bool" "int" = some true := by decide +kernel
theorem k_bool_str : kitB "bool" "str" = some false := by decide +kernel
theorem k_bool_bool : kitB "bool" "bool" = some true := by decide +kernel
theorem k_int_int : kitB "int" "int" = some true := by decide +kernel
theorem k_int_str : kitB "int" "str" = some false := by decide +kernel
theorem k_int_bool : kitB "int" "bool" = some false := by decide +kernel
theorem k_str_int : kitB "str" "int" = some false := by decide +kernel
theorem k_str_str : kitB "str" "str" = some true := by decide +kernel
theorem k_str_bool : kitB "str" "bool" = some false := by decide +kernel
theorem k_list_int : kitB "list" "int" = some false := by decide +kernel
theorem k_list_str : kitB "list" "str" = some false := by decide +kernel
theorem k_list_bool : kitB "list" "bool" = some false := by decide +kernel
theorem k_tuple_int : kitB "tuple" "int" = some false := by decide +kernel
theorem k_tuple_str : kitB "tuple" "str" = some false := by decide +kernel
theorem k_tuple_bool : kitB "tuple" "bool" = some false := by decide +kernel
theorem k_dict_int : kitB "dict" "int" = some false := by decide +kernel
theorem k_dict_str : kitB "dict" "str" = some false := by decide +kernel
theorem k_dict_bool : kitB "dict" "bool" = some false := by decide +kernel
theorem Val.ty {K : PySem.W.Frag} {H : Hp} {v : V} {d : PyData} (h : Val H v d) : ∃ t, TyX K H v t ∧ PySem.W.kitOne K t (.type "int") = some (intTy d) ∧ PySem.W.kitOne K t (.type "str") = some (strTy d) ∧ PySem.W.kitOne K t (.type "bool") = some (blTy d) := by
  cases h with
  | non => exact ⟨_, .base .non, kit_ty k_NoneType_int, kit_ty k_NoneType_str, kit_ty k_NoneType_bool⟩
  | bl b => exact ⟨_, .base (.bl b), kit_ty k_bool_int, kit_ty k_bool_str, kit_ty k_bool_bool⟩
  | int n => exact ⟨_, .base (.int n), kit_ty k_int_int, kit_ty k_int_str, kit_ty k_int_bool⟩
  | str z => exact ⟨_, .base (.str z), kit_ty k_str_int, kit_ty k_str_str, kit_ty k_str_bool⟩
  | lst l h => exact ⟨_, .base (.lst h), kit_ty k_list_int, kit_ty k_list_str, kit_ty k_list_bool⟩
  | tup l h => exact ⟨_, .base (.tup h), kit_ty k_tuple_int, kit_ty k_tuple_str, kit_ty k_tuple_bool⟩
  | tupI l h => exact ⟨_, .base (.tup h), kit_ty k_tuple_int, kit_ty k_tuple_str, kit_ty k_tuple_bool⟩
  | dct l h => exact ⟨_, .base (.dK h), kit_ty k_dict_int, kit_ty k_dict_str, kit_ty k_dict_bool⟩

/-- what the walk asks of the module's names -/
structure Txt (K : PySem.W.Frag) (mg : Str → Option Value) : Prop where
  isi : mg "isinstance" = none
  int : mg "int" = none
  str : mg "str" = none
  bool : mg "bool" = none
  abs : mg "abs" = none
  len : mg "len" = none
  list : mg "list" = none
  set : mg "set" = none
  sorted : mg "sorted" = none
  repr : mg "repr" = none
  range : mg "range" = none
  max : mg "max" = none
  min : mg "min" = none
  all : mg "all" = none
  tuple : mg "tuple" = none
  dict : mg "dict" = none
  zip : mg "zip" = none
  long : ∃ t, mg "LEAST_TOO_LONG" = some (.int (10 ^ 200) t)
  alpha : ∃ t, mg "ALPHABET" = some (.str alpha t)
  mLet : ∃ t, mg "MAX_LETTERS" = some (.int 3 t)
  mPat : ∃ t, mg "MAX_PATTERN" = some (.int 400 t)
  mDep : ∃ t, mg "MAX_DEPTH" = some (.int 5 t)
  mWei : ∃ t, mg "MAX_WEIGHT" = some (.int 12 t)
  sum : mg "sum" = none
  enumerate : mg "enumerate" = none

theorem fine_line {z : Str} (h : Fine z) : z.length ≤ sizeLine := Nat.le_trans h.long (by decide)

/-! ### the program's judges -/
def spHas : Sp := fun vs H Q _ => ∃ (v : V) (d : PyData) (sg : Str) (m : Nat), vs = [v, .str sg, .int m] ∧ Val H v d ∧ Ok d ∧ Q (.bl (has sg m d)) H
section
variable {P : Program} {w : World} {K : PySem.W.Frag} {mg : Str → Option Value} {base : Heap}
theorem scHas : FnScope ["value", "signs", "most"] ["value", "signs", "most"] (defScope sHas) := ⟨rfl, rfl, rfl, by decide +kernel, rfl, by decide +kernel, by decide +kernel⟩
theorem ok_has {f : Addr} {fd : FuncData} (F : Fun K "has_only" "has_only" sHas f fd) (T : Txt K mg) : FnOk P w K mg base CX0 1 f fd ["value", "signs", "most"] spHas := by
  refine F.ok scHas (fun vs H Q E h => ?_) (fun cdv A outer s H vs Q E hr h => ?_)
  · obtain ⟨v, d, sg, m, rfl, _⟩ := h
    rfl
  · obtain ⟨v, d, sg, m, rfl, hv, hd, q⟩ := h
    refine ⟨_, pss_one (ps_ret (pe_and (pe_callB call_isi (by rfl) T.isi (by decide +kernel) (pa_cons (pv 0) (pa_cons (pe_bltn (v := .ty "str") (by rfl) T.str (by decide +kernel) rfl) pa_nil)))
      (pe_and (pe_cmpR op_le (pe_callB call_len_str (by rfl) T.len PySem.boot_len (pa_cons (pv 0) pa_nil)) (pv 2) (nomark _))
      (pe_one (pe_cmpR op_eq (pe_bm PySem.F.plainAttrs_str PySem.F.slot_str_strip PySem.F.type_str_strip mt_stripChars (pv 0) (pa_cons (pv 1) pa_nil)) pe_str (nomark _)))))), ?_⟩
    obtain ⟨t, ty, _, k, _⟩ := Val.ty (K := K) hv
    refine ⟨_, rfl, _, _, _, _, _, rfl, .ty "str", ty, k, strTy d, rfl, ?_⟩
    cases hv with
    | str z =>
      have hz := fine_line (show Fine z from hd)
      refine iteT ?_
      refine ⟨_, rfl, z, rfl, hz, _, rfl, _, _, rfl, rfl, _, rfl, ?_⟩
      have e1 : decide ((z.length : Int) ≤ (m : Int)) = decide (z.length ≤ m) := decide_eq_decide.mpr (by omega)
      rw [e1]
      have e0 : has sg m (.str z) = (decide (z.length ≤ m) && only z sg) := rfl
      rw [e0] at q
      by_cases hm : z.length ≤ m
      · rw [decide_eq_true hm] at q ⊢
        refine iteT ?_
        refine ⟨_, rfl, rfl, _, rfl, z, sg, rfl, rfl, hz, rfl, ?_⟩
        have e2 : decide (V.str (Txt.stripChars z sg) = V.str (Str.ofString "")) = only z sg := by
          rw [← strip_only]
          exact decide_eq_decide.mpr ⟨fun e => by injection e, fun e => by rw [e]; rfl⟩
        rw [e2]
        exact q
      · rw [decide_eq_false hm] at q ⊢
        exact iteF q
    | _ => exact iteF q

def spInt : Sp := fun vs H Q _ => ∃ (v : V) (d : PyData), vs = [v] ∧ Val H v d ∧ Q (.bl (isInt d)) H
theorem scInt : FnScope ["value"] ["value"] (defScope sInt) := ⟨rfl, rfl, rfl, by decide +kernel, rfl, by decide +kernel, by decide +kernel⟩
theorem isInt_abs (n : Int) : decide ((if n < 0 then -n else n) < 10 ^ 200) = isInt (.int n) := by
  show _ = decide (n.natAbs < 10 ^ 200)
  have e : ((10 ^ 200 : Nat) : Int) = 10 ^ 200 := by norm_cast
  rw [← e]
  generalize (10 ^ 200 : Nat) = M
  refine decide_eq_decide.mpr ?_
  split <;> omega
theorem ok_int {f : Addr} {fd : FuncData} (F : Fun K "is_integer" "is_integer" sInt f fd) (T : Txt K mg) : FnOk P w K mg base CX0 1 f fd ["value"] spInt := by
  refine F.ok scInt (fun vs H Q E h => ?_) (fun cdv A outer s H vs Q E hr h => ?_)
  · obtain ⟨v, d, rfl, _⟩ := h
    rfl
  · obtain ⟨v, d, rfl, hv, q⟩ := h
    obtain ⟨tl, hl⟩ := T.long
    refine ⟨_, pss_one (ps_ret (pe_and (pe_callB call_isi (by rfl) T.isi (by decide +kernel) (pa_cons (pv 0) (pa_cons (pe_bltn (v := .ty "int") (by rfl) T.int (by decide +kernel) rfl) pa_nil)))
      (pe_and (pe_not (pe_callB call_isi (by rfl) T.isi (by decide +kernel) (pa_cons (pv 0) (pa_cons (pe_bltn (v := .ty "bool") (by rfl) T.bool (by decide +kernel) rfl) pa_nil))))
      (pe_one (pe_cmpR op_lt (pe_callB call_abs (by rfl) T.abs (by decide +kernel) (pa_cons (pv 0) pa_nil)) (pe_glob (v := .int (10 ^ 200)) rfl hl ⟨_, rfl⟩) (nomark _)))))), ?_⟩
    obtain ⟨t, ty, k1, _, k3⟩ := Val.ty (K := K) hv
    refine ⟨_, rfl, _, _, _, _, _, rfl, .ty "int", ty, k1, intTy d, rfl, ?_⟩
    cases hv with
    | int n =>
      refine iteT ⟨_, rfl, _, _, _, _, _, rfl, .ty "bool", ty, k3, _, rfl, _, rfl, iteT ?_⟩
      refine ⟨_, rfl, n, rfl, _, _, rfl, rfl, ?_⟩
      show Q (.bl (decide ((if n < 0 then -n else n) < 10 ^ 200))) H
      rw [isInt_abs]
      exact q
    | bl b => exact iteT ⟨_, rfl, _, _, _, _, _, rfl, .ty "bool", ty, k3, _, rfl, _, rfl, iteF q⟩
    | _ => exact iteF q

end
/-- a def of the text, found under its name -/
structure Df (K : PySem.W.Frag) (mg : Str → Option Value) (x : Str) (st : Stmt) (ps : List Str) (f : Addr) (fd : FuncData) : Prop where
  F : Fun K x x st f fd
  m : mg x = some (.ref f)
  b : Binds K fd ps []

/-! ### rows of one-sign texts as data -/
abbrev onesD (l : List Nat) : List PyData := l.map fun c => PyData.str (one c)
theorem all_ones (K : PySem.W.Frag) (H : Hp) : ∀ l : List Nat, DpAll K H (ones l) (onesD l)
  | [] => .nil
  | c :: l => .cons (.str _) (all_ones K H l)
theorem eqv_ones : ∀ l m : List Nat, PyData.eqvAll (onesD l) (onesD m) = decide (l = m)
  | [], [] => rfl
  | [], _ :: _ => rfl
  | _ :: _, [] => rfl
  | c :: l, d :: m => by
    show ((one c == one d) && PyData.eqvAll (onesD l) (onesD m)) = _
    rw [eqv_ones l m]
    by_cases h : c = d
    · subst h
      simp
    · have e : (one c == one d) = false := beq_eq_false_iff_ne.mpr fun q => h (one_inj q)
      rw [e]
      simp [h]
theorem lay_all (l : List Nat) (h : ∀ c ∈ l, c < 128) : PyData.canLayAll0 (onesD l) = true := by
  induction l with
  | nil => rfl
  | cons c l ih =>
    have hc := h c List.mem_cons_self
    have e1 : PyData.canLay0 (.str (one c)) = true := by
      show (one c).cps.all (· < 0x110000) = true
      simp
      omega
    show (PyData.canLay0 (.str (one c)) && PyData.canLayAll0 (onesD l)) = true
    rw [ih fun d hd => h d (List.mem_cons_of_mem _ hd), e1]
    rfl
theorem deep_all (l : List Nat) : PyData.depthAll (onesD l) ≤ 1 := by
  induction l with
  | nil => decide
  | cons c l ih =>
    show max _ (PyData.depthAll (onesD l)) ≤ 1
    exact Nat.max_le.mpr ⟨(by show 0 ≤ 1; decide), ih⟩
theorem shaped_ones (l : List Nat) (h : ∀ c ∈ l, c < 128) : SeqAt.shaped (.list (onesD l)) = true := by
  unfold SeqAt.shaped
  rw [Bool.and_eq_true]
  refine ⟨lay_all l h, decide_eq_true ?_⟩
  show PyData.depthAll (onesD l) + 1 ≤ 64
  have := deep_all l
  omega

section
variable {P : Program} {w : World} {K : PySem.W.Frag} {mg : Str → Option Value} {base : Heap}
theorem scLetters : FnScope ["value"] ["value"] (defScope sLetters) := ⟨rfl, rfl, rfl, by decide +kernel, rfl, by decide +kernel, by decide +kernel⟩
def spLetters : Sp := fun vs H Q _ => ∃ (v : V) (d : PyData), vs = [v] ∧ Val H v d ∧ Ok d ∧ ∀ H', Same H H' → Q (.bl (letters d)) H'
theorem same_upd {H : Hp} {p : Addr} {o : HO} (h : H p = none) : Same H (upd H p o) := fun b u e => by
  rw [upd_ne (ne_of_none e h)]
  exact e
theorem ok_letters {f fH : Addr} {fd fdH : FuncData} (F : Fun K "is_letters" "is_letters" sLetters f fd) (T : Txt K mg) (DH : Df K mg "has_only" sHas ["value", "signs", "most"] fH fdH) :
    FnOk P w K mg base CX0 2 f fd ["value"] spLetters := by
  have G := ok_has (P := P) (w := w) (base := base) DH.F T
  refine F.ok scLetters (fun vs H Q E h => ?_) (fun cdv A outer s H vs Q E hr h => ?_)
  · obtain ⟨v, d, rfl, _⟩ := h
    rfl
  · obtain ⟨v, d, rfl, hv, hd, q⟩ := h
    obtain ⟨ta, ha⟩ := T.alpha
    obtain ⟨tn, hn⟩ := T.mLet
    refine ⟨_, pss_one (ps_ret (pe_and (pe_call G hr (by rfl) DH.m DH.F.kp DH.b .nil pass0 (pa_cons (pv 0) (pa_cons (pe_glob (v := .str alpha) rfl ha ⟨_, rfl⟩) (pa_cons (pe_glob (v := .int 3) rfl hn ⟨_, rfl⟩) pa_nil))))
      (pe_and (pe_cmpR op_ne (pv 0) pe_str (nomark _))
      (pe_one (pe_cmpR (op_eqD hr.units) (pe_callTy (cr_listTx rfl) (by rfl) T.list (by decide +kernel) (pa_cons (pv 0) pa_nil))
        (pe_callB (cr_sortTx rfl) (by rfl) T.sorted (by decide +kernel) (pa_cons (pe_callTy (cr_setTx rfl) (by rfl) T.set (by decide +kernel) (pa_cons (pv 0) pa_nil)) pa_nil)) (nomark _)))))), ?_⟩
    refine ⟨_, rfl, v, d, alpha, 3, rfl, hv, hd, _, rfl, ?_⟩
    cases hv with
    | str z =>
      have hz : Fine z := hd
      have e0 : letters (.str z) = (has alpha 3 (.str z) && decide (z ≠ Str.empty) && rise z) := rfl
      rw [e0] at q
      cases hb : has alpha 3 (.str z) with
      | true =>
        rw [hb] at q
        refine iteT ⟨_, rfl, rfl, ?_⟩
        have e : (!decide (V.str z = V.str (Str.ofString ""))) = decide (z ≠ Str.empty) := by
          rw [← decide_not]
          exact decide_eq_decide.mpr ⟨fun h e => h (by rw [e]; rfl), fun h e => h (by injection e)⟩
        refine ⟨_, rfl, ?_⟩
        rw [e]
        by_cases hne : z ≠ Str.empty
        · rw [decide_eq_true hne] at q ⊢
          refine iteT ?_
          refine ⟨_, rfl, z, rfl, fine_line hz, fun p1 n1 => ?_⟩
          refine ⟨_, rfl, z, rfl, hz.few, fun p2 n2 => ?_⟩
          refine ⟨p2, cds z, rfl, upd_same, hz.few, fun p3 n3 => ?_⟩
          have s1 : Same H (upd H p1 (.lst (ones (cds z)))) := same_upd n1
          have s2 := same_upd (o := TO w p2 (met [] (cds z))) n2
          have s3 := same_upd (o := .lst (ones (ups (cds z)))) n3
          have h1 := s3 _ _ (s2 _ _ (upd_same (H := H) (a := p1) (o := .lst (ones (cds z)))))
          refine ⟨.list (onesD (cds z)), .list (onesD (ups (cds z))), .lst (SqL.of h1) (all_ones _ _ _), .lst (SqL.of upd_same) (all_ones _ _ _), shaped_ones _ hz.plain, shaped_ones _ (fun c hc => hz.plain c ((ups_mem _ _).mp hc)), ?_⟩
          have e2 : PyData.eqv (.list (onesD (cds z))) (.list (onesD (ups (cds z)))) = rise z := eqv_ones _ _
          rw [e2]
          exact q _ ((s1.trans s2).trans s3)
        · have hne' : decide (z ≠ Str.empty) = false := decide_eq_false hne
          rw [hne'] at q ⊢
          exact iteF (q _ (Same.refl H))
      | false =>
        rw [hb] at q
        exact iteF (q _ (Same.refl H))
    | _ => exact iteF (q _ (Same.refl H))

/-! ### the law's drawer -/
/-- a drawer: three ints -/
def Cup (H : Hp) (c : Addr) : Prop := ∃ a0 a1 a2 : Int, H c = some (.lst [.int a0, .int a1, .int a2])
/-- all but what stands at c stays -/
def But (c : Addr) (H H' : Hp) : Prop := ∀ b o, b ≠ c → H b = some o → H' b = some o
theorem But.refl (c : Addr) (H : Hp) : But c H H := fun _ _ _ e => e
theorem But.trans {c : Addr} {H H1 H2 : Hp} (a : But c H H1) (b : But c H1 H2) : But c H H2 := fun x o n e => b x o n (a x o n e)
theorem But.of {c : Addr} {H H' : Hp} (s : Same H H') : But c H H' := fun b o _ e => s b o e
theorem But.put {c : Addr} {H : Hp} {o : HO} : But c H (upd H c o) := fun b u n e => by rw [upd_ne n]; exact e

def spCup (K : PySem.W.Frag) : Sp := fun vs H Q _ => ∃ (a : Addr) (ns : List Int) (k : Nat), vs = [.ref a, .int k] ∧ SqL K H a (ns.map V.int) ∧ ns.length ≤ 63 ∧ k ≤ 100 ∧ ∀ p H', H p = none → Same H H' → Cup H' p → Q (.ref p) H'
theorem scCup : FnScope ["_law_script", "_law_at_here", "_law_cell", "_law_great", "_law_blend"] ["_law_script", "_law_at_here"] (defScope sCup) := ⟨rfl, rfl, rfl, by decide +kernel, rfl, by decide +kernel, by decide +kernel⟩
theorem ok_cup {f : Addr} {fd : FuncData} (F : Fun K "_law_cup" "_law_cup" sCup f fd) (T : Txt K mg) : FnOk P w K mg base CX0 1 f fd ["_law_script", "_law_at_here"] (spCup K) := by
  refine F.ok scCup (fun vs H Q E h => ?_) (fun cdv A outer s H vs Q E hr h => ?_)
  · obtain ⟨a, ns, k, rfl, _⟩ := h
    rfl
  · obtain ⟨a, ns, k, rfl, hS, hlen, hk, q⟩ := h
    refine ⟨_, pss_cons (ps_set (i := 2) scCup.nd rfl (Or.inl rfl) (pe_ifExp (pt_cmpR op_lt (pv 1) (pe_callB call_len (by rfl) T.len PySem.boot_len (pa_cons (pv 0) pa_nil)) (nomark _))
        (pe_ix ix_list (pv 0) (pv 1) (fun _ _ => rfl)) (pe_op op_add (pe_op op_mul pe_int (pv 1)) pe_int)))
      (pss_cons (ps_set (i := 3) scCup.nd rfl (Or.inl rfl) (pe_op op_modN (pe_callTy call_int1 (by rfl) T.int (by decide +kernel) (pa_cons (pe_callB call_abs (by rfl) T.abs (by decide +kernel) (pa_cons (pv 2) pa_nil)) pa_nil))
        (pe_op op_powW (pe_op op_pow pe_int pe_int) pe_int)))
      (pss_cons (ps_set (i := 4) scCup.nd rfl (Or.inl rfl) (pe_op op_add (pe_op op_add (pe_op op_add
          (pe_op op_mul (pe_op op_modN (pe_callTy call_int1 (by rfl) T.int (by decide +kernel) (pa_cons (pv 3) pa_nil)) pe_int) pe_int) (pe_op op_mul pe_int (pv 1)))
          (pe_op op_mul pe_int (pe_callTy call_int1 (by rfl) T.int (by decide +kernel) (pa_cons (pe_cmpR op_lt (pv 2) pe_int (nomark _)) pa_nil)))) pe_int))
      (pss_one (ps_ret (pe_lst (pa_cons (pe_callB (call_max2 rfl) (by rfl) T.max (by decide +kernel) (pa_cons pe_int (pa_cons (pe_op op_sub (pv 3) (pe_op op_pow pe_int pe_int)) pa_nil)))
        (pa_cons (pe_op op_modN (pe_callTy call_int1 (by rfl) T.int (by decide +kernel) (pa_cons (pv 4) pa_nil)) pe_int) (pa_cons pe_int pa_nil)))))))), ?_⟩
    refine ⟨_, rfl, _, rfl, _, ns.length, rfl, .inl ⟨_, hS, by rw [List.length_map]⟩, _, _, rfl, rfl, _, rfl, ?_⟩
    refine ite2 (fun hc => ?_) (fun _ => ?_)
    · have hk2 : k < ns.length := by
        have := of_decide_eq_true hc
        omega
      refine ⟨_, rfl, _, rfl, a, _, _, .int ns[k], rfl, rfl, hS, atI_nat (by rw [List.getElem?_map, List.getElem?_eq_getElem hk2]; rfl), ?_⟩
      refine ⟨_, rfl, _, rfl, .inl ⟨_, rfl, _, _, rfl, rfl, ⟨by decide, by decide, by decide⟩, _, _, rfl, rfl, ⟨by decide, by decide +kernel⟩, _, _, rfl, rfl, (show (((10 : Int) ^ Int.toNat 61) ^ Int.toNat 11) ≠ 0 by decide +kernel), ?_⟩⟩
      refine ⟨_, rfl, .inl ⟨_, rfl, _, _, rfl, rfl, (show (2147483179 : Int) ≠ 0 by decide), _, _, rfl, rfl, .inr ⟨by decide, by decide⟩, _, rfl, _, _, rfl, rfl, .inl ⟨by decide, by decide⟩, _, _, rfl, rfl, _, rfl, _, _, rfl, rfl,
        .inr ⟨_, rfl, _, _, rfl, rfl, .inl ⟨by decide, by decide⟩, _, _, rfl, rfl, _, _, rfl, rfl, ?_⟩⟩⟩
      refine ⟨_, rfl, _, _, rfl, rfl, ⟨by decide, by decide, by decide⟩, _, _, rfl, rfl, _, _, rfl, _, rfl, .inl ⟨_, rfl, _, _, rfl, rfl, (show (2305843009213693907 : Int) ≠ 0 by decide), by show 3 ≤ sizeLine; decide, fun p hp => ?_⟩⟩
      exact q p _ hp (same_upd hp) ⟨_, _, _, upd_same⟩
    · refine ⟨_, rfl, _, _, rfl, rfl, .inl ⟨by decide, by decide⟩, _, _, rfl, rfl, ?_⟩
      refine ⟨_, rfl, _, rfl, .inl ⟨_, rfl, _, _, rfl, rfl, ⟨by decide, by decide, by decide⟩, _, _, rfl, rfl, ⟨by decide, by decide +kernel⟩, _, _, rfl, rfl, (show (((10 : Int) ^ Int.toNat 61) ^ Int.toNat 11) ≠ 0 by decide +kernel), ?_⟩⟩
      refine ⟨_, rfl, .inl ⟨_, rfl, _, _, rfl, rfl, (show (2147483179 : Int) ≠ 0 by decide), _, _, rfl, rfl, .inr ⟨by decide, by decide⟩, _, rfl, _, _, rfl, rfl, .inl ⟨by decide, by decide⟩, _, _, rfl, rfl, _, rfl, _, _, rfl, rfl,
        .inr ⟨_, rfl, _, _, rfl, rfl, .inl ⟨by decide, by decide⟩, _, _, rfl, rfl, _, _, rfl, rfl, ?_⟩⟩⟩
      refine ⟨_, rfl, _, _, rfl, rfl, ⟨by decide, by decide, by decide⟩, _, _, rfl, rfl, _, _, rfl, _, rfl, .inl ⟨_, rfl, _, _, rfl, rfl, (show (2305843009213693907 : Int) ≠ 0 by decide), by show 3 ≤ sizeLine; decide, fun p hp => ?_⟩⟩
      exact q p _ hp (same_upd hp) ⟨_, _, _, upd_same⟩

def spBit : Sp := fun vs H Q _ => ∃ (c : Addr) (m : Int), vs = [.ref c, .int m] ∧ Cup H c ∧ 0 < m ∧ m.natAbs < 2 ^ 9000 ∧ ∀ r H', 0 ≤ r → r < m → Cup H' c → But c H H' → Q (.int r) H'
theorem scBit : FnScope ["_law_cup_here", "_law_much", "_law_found", "_law_first", "_law_later"] ["_law_cup_here", "_law_much"] (defScope sBit) := ⟨rfl, rfl, rfl, by decide +kernel, rfl, by decide +kernel, by decide +kernel⟩
theorem ok_bit {f : Addr} {fd : FuncData} (F : Fun K "_law_bit" "_law_bit" sBit f fd) (T : Txt K mg) : FnOk P w K mg base CX0 1 f fd ["_law_cup_here", "_law_much"] spBit := by
  refine F.ok scBit (fun vs H Q E h => ?_) (fun cdv A outer s H vs Q E hr h => ?_)
  · obtain ⟨c, m, rfl, _⟩ := h
    rfl
  · obtain ⟨c, m, rfl, ⟨a0, a1, a2, hc⟩, hm, hm2, q⟩ := h
    refine ⟨_, pss_cons (ps_if (pt_cmpR op_gt (pe_ix ix_list (pv 0) pe_int (fun _ _ => rfl)) pe_int (nomark _))
        (pss_cons (ps_set (i := 2) scBit.nd rfl (Or.inl rfl) (pe_op op_modN (pe_callTy call_int1 (by rfl) T.int (by decide +kernel) (pa_cons (pe_ix ix_list (pv 0) pe_int (fun _ _ => rfl)) pa_nil)) (pv 1)))
        (pss_cons (ps_asg (pe_op op_fdivW (pe_ix ix_list (pv 0) pe_int (fun _ _ => rfl)) (pv 1)) (pg_sub (pv 0) pe_int set_list))
        (pss_one (ps_ret (pv 2))))) pss_nil)
      (pss_cons (ps_asg (pe_op op_add (pe_ix ix_list (pv 0) pe_int (fun _ _ => rfl)) pe_int) (pg_sub (pv 0) pe_int set_list))
      (pss_cons (ps_set (i := 3) scBit.nd rfl (Or.inl rfl) (pe_op op_modN (pe_callTy call_int1 (by rfl) T.int (by decide +kernel) (pa_cons (pe_op op_add (pe_ix ix_list (pv 0) pe_int (fun _ _ => rfl))
          (pe_op op_mul pe_int (pe_ix ix_list (pv 0) pe_int (fun _ _ => rfl)))) pa_nil)) pe_int))
      (pss_cons (ps_set (i := 4) scBit.nd rfl (Or.inl rfl) (pe_op op_add (pe_op op_mul (pe_op op_modN (pe_callTy call_int1 (by rfl) T.int (by decide +kernel) (pa_cons (pe_op op_mul (pv 3) (pv 3)) pa_nil)) pe_int) (pv 3))
          (pe_op op_mul pe_int (pe_ix ix_list (pv 0) pe_int (fun _ _ => rfl)))))
      (pss_one (ps_ret (pe_op op_modN (pe_callTy call_int1 (by rfl) T.int (by decide +kernel) (pa_cons (pe_op op_fdivN (pe_op op_modN (pe_callTy call_int1 (by rfl) T.int (by decide +kernel) (pa_cons (pv 4) pa_nil)) pe_int) pe_int) pa_nil)) (pv 1))))))), ?_⟩
    have at0 : ∀ {x y z : V}, atI [x, y, z] (0 : Int) = some x := rfl
    have at1 : ∀ {x y z : V}, atI [x, y, z] (1 : Int) = some y := rfl
    have at2 : ∀ {x y z : V}, atI [x, y, z] (2 : Int) = some z := rfl
    have rest : ∀ i : Int, 0 ≤ i.fmod m ∧ i.fmod m < m := fun i => by
      rw [Int.fmod_eq_emod_of_nonneg i (Int.le_of_lt hm)]
      exact ⟨Int.emod_nonneg i (Int.ne_of_gt hm), Int.emod_lt_of_pos i hm⟩
    refine ⟨_, rfl, c, _, _, _, rfl, rfl, SqL.of hc, at0, _, _, rfl, rfl, _, rfl, ?_⟩
    refine ite2 (fun _ => ?_) (fun _ => ?_)
    · refine ⟨_, rfl, c, _, _, _, rfl, rfl, SqL.of hc, at0, .inl ⟨_, rfl, _, rfl, _, _, rfl, rfl, (Int.ne_of_gt hm), ?_⟩⟩
      refine ⟨_, rfl, c, _, _, _, rfl, rfl, SqL.of hc, at0, _, rfl, _, _, rfl, rfl, wide_div hm hm2 (by decide) (by decide), ?_⟩
      refine ⟨_, rfl, c, _, _, 0, rfl, rfl, hc, rfl, ?_⟩
      exact ⟨_, rfl, q _ _ (rest _).1 (rest _).2 ⟨_, _, _, upd_same⟩ But.put⟩
    · refine ⟨_, rfl, c, _, _, _, rfl, rfl, SqL.of hc, at2, _, _, rfl, rfl, _, rfl, c, _, _, 2, rfl, rfl, hc, rfl, ?_⟩
      have hc2 : (upd H c (.lst ([.int a0, .int a1, .int a2].set 2 (.int (a2 + 1))))) c = some (.lst [.int a0, .int a1, .int (a2 + 1)]) := upd_same
      refine ⟨_, rfl, c, _, _, _, rfl, rfl, SqL.of hc2, at1, _, rfl, c, _, _, _, rfl, rfl, SqL.of hc2, at2, _, _, rfl, rfl, .inl ⟨by decide, by decide⟩, _, _, rfl, rfl, .inl ⟨_, rfl, _, _, rfl, rfl, (show (2305843009213693951 : Int) ≠ 0 by decide), ?_⟩⟩
      have f1 := Int.emod_nonneg (a1 + 1000541 * (a2 + 1)) (b := 2305843009213693951) (by decide)
      have f2 := Int.emod_lt_of_pos (a1 + 1000541 * (a2 + 1)) (b := 2305843009213693951) (by decide)
      rw [← Int.fmod_eq_emod_of_nonneg (a1 + 1000541 * (a2 + 1)) (b := 2305843009213693951) (by decide)] at f1 f2
      have f3 : -(2 ^ 64 : Int) < Int.fmod (a1 + 1000541 * (a2 + 1)) 2305843009213693951 ∧ Int.fmod (a1 + 1000541 * (a2 + 1)) 2305843009213693951 < 2 ^ 64 :=
        ⟨Int.lt_of_lt_of_le (by decide) f1, Int.lt_trans f2 (by decide)⟩
      refine ⟨_, rfl, _, rfl, _, _, rfl, rfl, .inl f3, .inl ⟨_, rfl, _, _, rfl, rfl, (show (2305843009213693921 : Int) ≠ 0 by decide), _, rfl, _, _, rfl, rfl, .inr f3, _, rfl, c, _, _, _, rfl, rfl, SqL.of hc2, at2,
        _, _, rfl, rfl, .inl ⟨by decide, by decide⟩, _, _, rfl, rfl, ?_⟩⟩
      refine ⟨_, rfl, .inl ⟨_, rfl, _, _, rfl, rfl, (show (2305843009213693907 : Int) ≠ 0 by decide), _, _, rfl, rfl, (show (16384 : Int) ≠ 0 ∧ (16384 : Int).natAbs < 1073741824 by decide), .inl ⟨_, rfl, _, rfl, _, _, rfl, rfl, (Int.ne_of_gt hm), ?_⟩⟩⟩
      exact q _ _ (rest _).1 (rest _).2 ⟨_, _, _, hc2⟩ But.put
/-! ### drawing -/
theorem scPick : FnScope ["_law_cup_here", "_law_items"] ["_law_cup_here", "_law_items"] (defScope sPick) := ⟨rfl, rfl, rfl, by decide +kernel, rfl, by decide +kernel, by decide +kernel⟩
def spPick : Sp := fun vs H Q _ => ∃ (c : Addr), Cup H c ∧
  ((∃ (p : Addr) (xs : List V), vs = [.ref c, .ref p] ∧ p ≠ c ∧ H p = some (.lst xs) ∧ 0 < xs.length ∧ xs.length < 100 ∧ ∀ x H', x ∈ xs → Cup H' c → But c H H' → Q x H') ∨
   (∃ z : Str, vs = [.ref c, .str z] ∧ 0 < z.length ∧ z.length < 100 ∧ ∀ s H', s ∈ cds z → Cup H' c → But c H H' → Q (.str (one s)) H'))
theorem ok_pick {f fB : Addr} {fd fdB : FuncData} (F : Fun K "_law_pick" "_law_pick" sPick f fd) (T : Txt K mg) (DB : Df K mg "_law_bit" sBit ["_law_cup_here", "_law_much"] fB fdB) :
    FnOk P w K mg base CX0 2 f fd ["_law_cup_here", "_law_items"] spPick := by
  have G := ok_bit (P := P) (w := w) (base := base) DB.F T
  refine F.ok scPick (fun vs H Q E h => ?_) (fun cdv A outer s H vs Q E hr h => ?_)
  · obtain ⟨c, _, h⟩ := h
    rcases h with ⟨p, xs, rfl, _⟩ | ⟨z, rfl, _⟩ <;> rfl
  · obtain ⟨c, hc, h⟩ := h
    refine ⟨_, pss_one (ps_ret (pe_ix ix_seq (pv 1) (pe_call G hr (by rfl) DB.m DB.F.kp DB.b .nil pass0 (pa_cons (pv 0) (pa_cons (pe_callB call_len (by rfl) T.len PySem.boot_len (pa_cons (pv 1) pa_nil)) pa_nil))) (fun _ _ => rfl))), ?_⟩
    have small : ∀ n : Nat, n < 100 → (n : Int).natAbs < 2 ^ 9000 := fun n hn => Nat.lt_of_lt_of_le (show (n : Int).natAbs < 2 ^ 7 by omega) (Nat.pow_le_pow_right (by decide) (by decide))
    rcases h with ⟨p, xs, rfl, hpc, hp, h0, h1, q⟩ | ⟨z, rfl, h0, h1, q⟩
    · refine ⟨_, rfl, _, rfl, _, rfl, _, xs.length, rfl, .inl ⟨_, SqL.of hp, rfl⟩, c, xs.length, rfl, hc, by omega, small _ h1, fun r H' r0 r1 hc' but => ?_⟩
      obtain ⟨n, rfl⟩ := Int.eq_ofNat_of_zero_le r0
      have hn : n < xs.length := by omega
      exact .inl ⟨p, xs, _, xs[n], rfl, rfl, SqL.of (but _ _ hpc hp), atI_nat (List.getElem?_eq_getElem hn), q _ _ (List.getElem_mem hn) hc' but⟩
    · have hl : z.length ≤ sizeLine := Nat.le_trans (Nat.le_of_lt h1) (by decide)
      refine ⟨_, rfl, _, rfl, _, rfl, _, z.length, rfl, ⟨hl, rfl⟩, c, z.length, rfl, hc, by omega, small _ h1, fun r H' r0 r1 hc' but => ?_⟩
      obtain ⟨n, rfl⟩ := Int.eq_ofNat_of_zero_le r0
      have hn : n < (cds z).length := by rw [cds_len]; omega
      exact .inr (.inr ⟨z, _, (cds z)[n], rfl, rfl, hl, atI_nat (List.getElem?_eq_getElem hn), q _ _ (List.getElem_mem hn) hc' but⟩)

def Signs (z : Str) : Prop := z = "ab" ∨ z = "xy" ∨ z = "a" ∨ z = "abc" ∨ z = "b"
def spSigns : Sp := fun vs H Q _ => ∃ (c : Addr), vs = [.ref c] ∧ Cup H c ∧ ∀ z H', Signs z → Cup H' c → But c H H' → Q (.str z) H'
theorem scSigns : FnScope ["_law_cup_here"] ["_law_cup_here"] (defScope sSigns) := ⟨rfl, rfl, rfl, by decide +kernel, rfl, by decide +kernel, by decide +kernel⟩
theorem Cup.same {H H' : Hp} {c : Addr} (s : Same H H') (h : Cup H c) : Cup H' c := let ⟨a, b, d, e⟩ := h; ⟨a, b, d, s _ _ e⟩
theorem Cup.ne {H : Hp} {c p : Addr} (h : Cup H c) (n : H p = none) : p ≠ c := by
  obtain ⟨a, b, d, e⟩ := h
  exact (ne_of_none e n).symm
theorem ok_signs {f fB fP : Addr} {fd fdB fdP : FuncData} (F : Fun K "_law_signs" "_law_signs" sSigns f fd) (T : Txt K mg) (DB : Df K mg "_law_bit" sBit ["_law_cup_here", "_law_much"] fB fdB)
    (DP : Df K mg "_law_pick" sPick ["_law_cup_here", "_law_items"] fP fdP) : FnOk P w K mg base CX0 3 f fd ["_law_cup_here"] spSigns := by
  have G := ok_pick (P := P) (w := w) (base := base) DP.F T DB
  refine F.ok scSigns (fun vs H Q E h => ?_) (fun cdv A outer s H vs Q E hr h => ?_)
  · obtain ⟨c, rfl, _⟩ := h
    rfl
  · obtain ⟨c, rfl, hc, q⟩ := h
    refine ⟨_, pss_one (ps_ret (pe_call G hr (by rfl) DP.m DP.F.kp DP.b .nil pass0 (pa_cons (pv 0) (pa_cons (pe_lst (pa_cons pe_str (pa_cons pe_str (pa_cons pe_str (pa_cons pe_str (pa_cons pe_str (pa_cons pe_str pa_nil))))))) pa_nil)))), ?_⟩
    refine ⟨_, rfl, by show 6 ≤ sizeLine; decide, fun p np => ⟨c, hc.same (same_upd np), .inl ⟨p, _, rfl, hc.ne np, upd_same, by decide, by decide, fun x H' hx hc' but => ?_⟩⟩⟩
    have b2 : But c H H' := (But.of (same_upd np)).trans but
    simp only [List.mem_cons, List.not_mem_nil, or_false] at hx
    rcases hx with rfl | rfl | rfl | rfl | rfl | rfl
    · exact q _ _ (.inl rfl) hc' b2
    · exact q _ _ (.inl rfl) hc' b2
    · exact q _ _ (.inl rfl) hc' b2
    · exact q _ _ (.inr (.inl rfl)) hc' b2
    · exact q _ _ (.inr (.inr (.inl rfl))) hc' b2
    · exact q _ _ (.inr (.inr (.inr (.inl rfl)))) hc' b2
end
theorem signs_letters {sg : Str} (h : Signs sg) : letters (.str sg) = true := by
  have go : ∀ z : Str, (decide (z.length ≤ 3) && only z alpha && decide (z ≠ Str.empty)) = true → (cds z).Pairwise (· < ·) → letters (.str z) = true := fun z h1 h2 => by
    show (decide (z.length ≤ 3) && only z alpha && decide (z ≠ Str.empty) && rise z) = true
    rw [h1, Bool.true_and]
    exact decide_eq_true (up_eq h2 (ups_up _) fun c => (ups_mem _ c).symm)
  rcases h with rfl | rfl | rfl | rfl | rfl <;> exact go _ (by decide +kernel) (by decide +kernel)
theorem signs_fine {sg : Str} (h : Signs sg) : Fine sg := by
  rcases h with rfl | rfl | rfl | rfl | rfl <;> exact ⟨by decide +kernel, by decide +kernel, by decide +kernel⟩
section
variable {P : Program} {w : World} {K : PySem.W.Frag} {mg : Str → Option Value} {base : Heap}
def spPassL : Sp := fun vs H Q _ => ∃ (sg : Str), vs = [.str sg] ∧ Signs sg ∧ ∀ H', Same H H' → Q .non H'
theorem scCheck : FnScope ["value"] ["value"] (defScope sCheck) := ⟨rfl, rfl, rfl, by decide +kernel, rfl, by decide +kernel, by decide +kernel⟩
theorem ok_passL {f fH fL : Addr} {fd fdH fdL : FuncData} (F : Fun K "check_letters" "check_letters" sCheck f fd) (T : Txt K mg) (DH : Df K mg "has_only" sHas ["value", "signs", "most"] fH fdH)
    (DL : Df K mg "is_letters" sLetters ["value"] fL fdL) : FnOk P w K mg base CX0 3 f fd ["value"] spPassL := by
  have G := ok_letters (P := P) (w := w) (base := base) DL.F T DH
  refine F.ok scCheck (fun vs H Q E h => ?_) (fun cdv A outer s H vs Q E hr h => ?_)
  · obtain ⟨v, rfl, _⟩ := h
    rfl
  · obtain ⟨sg, rfl, hs, q⟩ := h
    refine ⟨_, pss_one (ps_if (pt_not (pt_val (pe_call G hr (by rfl) DL.m DL.F.kp DL.b .nil pass0 (pa_cons (pv 0) pa_nil)))) (pss_one ps_never) pss_nil), ?_⟩
    refine ⟨_, rfl, .str sg, .str sg, rfl, .str sg, signs_fine hs, fun H' s1 => ⟨_, rfl, ?_⟩⟩
    rw [signs_letters hs]
    exact iteF (q _ s1)
end
/-! ### heaps -/
def NoT (H : Hp) (a : Addr) : Prop := ∀ xs, H a ≠ some (.tup xs)
theorem NoT.none {H : Hp} {a : Addr} (h : H a = none) : NoT H a := fun xs e => by rw [h] at e; cases e
theorem NoT.lst {H : Hp} {a : Addr} {xs : List V} (h : H a = some (.lst xs)) : NoT H a := fun ys e => by rw [h] at e; cases e
theorem NoT.dK {H : Hp} {a : Addr} {xs : List (Key × V)} (h : H a = some (.dK xs)) : NoT H a := fun ys e => by rw [h] at e; cases e
theorem NoT.ins {H : Hp} {a C dx : Addr} {fs : List (Str × V)} (h : H a = some (.ins C dx fs)) : NoT H a := fun ys e => by rw [h] at e; cases e
theorem Cup.noT {H : Hp} {c : Addr} (h : Cup H c) : NoT H c := let ⟨_, _, _, e⟩ := h; .lst e
def KeepT (H H' : Hp) : Prop := ∀ p xs, H p = some (.tup xs) → H' p = some (.tup xs)
theorem KeepT.same {H H' : Hp} (s : Same H H') : KeepT H H' := fun _ _ e => s _ _ e
theorem KeepT.upd {H : Hp} {a : Addr} {o : HO} (n : NoT H a) : KeepT H (upd H a o) := fun p xs e => by
  rw [upd_ne fun z => n xs (by rw [← z]; exact e)]
  exact e
theorem KeepT.but {H H' : Hp} {c : Addr} (n : NoT H c) (b : But c H H') : KeepT H H' := fun p xs e => b _ _ (fun z => n xs (by rw [← z]; exact e)) e
theorem KeepT.trans {H H1 H2 : Hp} (a : KeepT H H1) (b : KeepT H1 H2) : KeepT H H2 := fun p xs e => b p xs (a p xs e)
theorem each_app {α β : Type} {R : α → β → Prop} : ∀ {as as' : List α} {bs bs' : List β}, PySem.W.EachIs R as bs → PySem.W.EachIs R as' bs' → PySem.W.EachIs R (as ++ as') (bs ++ bs')
  | _, _, _, _, .nil, r => r
  | _, _, _, _, .cons r t, q => .cons r (each_app t q)
theorem each_snoc {α β : Type} {R : α → β → Prop} {as : List α} {bs : List β} {a : α} {b : β} (h : PySem.W.EachIs R as bs) (r : R a b) : PySem.W.EachIs R (as ++ [a]) (bs ++ [b]) := each_app h (.cons r .nil)
theorem same_put {H H' : Hp} {D : Addr} {o : HO} (s : Same H H') (n : H D = none) : Same H (upd H' D o) := fun b u e => by
  rw [upd_ne (ne_of_none e n)]
  exact s b u e
theorem free_none {H H' : Hp} {p : Addr} (s : Same H H') (n : H' p = none) : H p = none := by
  cases hh : H p with
  | none => rfl
  | some o =>
    have := s _ _ hh
    rw [n] at this
    cases this
theorem ty_tup {K : PySem.W.Frag} {H : Hp} {a : Addr} {xs : List V} (h : SqT K H a xs) : TyX K H (.ref a) (.type "tuple") := by
  rcases h with h | ⟨o, its, n, hk, hc, _⟩
  · rcases h with h | ⟨o, h⟩
    · exact .base (.tup h)
    · exact .fTuple h
  · exact .kTuple hk hc
theorem k_tuple_tuple : kitB "tuple" "tuple" = some true := by decide +kernel
theorem sg_range {sg : Str} (h : Signs sg) : ∀ c ∈ cds sg, 97 ≤ c ∧ c ≤ 122 := by
  rcases h with rfl | rfl | rfl | rfl | rfl <;> decide +kernel
theorem sg_len {sg : Str} (h : Signs sg) : 0 < sg.length ∧ sg.length ≤ 3 := by
  rcases h with rfl | rfl | rfl | rfl | rfl <;> decide +kernel
def Over (sg z : Str) : Prop := ∀ c ∈ cds z, c ∈ cds sg
theorem over_fine {sg z : Str} (h : Signs sg) (v : Over sg z) (hl : z.length ≤ 4000) : Fine z := by
  refine ⟨by omega, ?_, fun c hc => ?_⟩
  · rw [← (ups_perm (cds z)).length_eq]
    have h1 := Pm.len_le (ups_nodup (cds z)) (r := cds sg) fun c hc => v c ((ups_mem _ c).mp hc)
    have h2 : (cds sg).length ≤ 6 := by rw [cds_len]; have := (sg_len h).2; omega
    omega
  · have := sg_range h c (v c hc)
    omega
theorem over_has {sg z : Str} (v : Over sg z) (hl : z.length ≤ 400) : has sg 400 (.str z) = true := by
  show (decide (z.length ≤ 400) && only z sg) = true
  rw [decide_eq_true hl, only_iff.mpr v]
  rfl
theorem nat_isInt {n : Nat} (h : n < 10 ^ 200) : isInt (.int (n : Int)) = true := by
  show decide ((n : Int).natAbs < 10 ^ 200) = true
  rw [Int.natAbs_natCast]
  exact decide_eq_true h
def tx (l : List Nat) : Str := ⟨l.toArray⟩
theorem cds_tx (l : List Nat) : cds (tx l) = l := rfl
theorem tx_cds (z : Str) : tx (cds z) = z := cds_ext rfl
theorem cds_app (a b : Str) : cds (a ++ b) = cds a ++ cds b := by
  show (a.cps ++ b.cps).toList = _
  rw [Array.toList_append]
theorem tx_app (l m : List Nat) : tx l ++ tx m = tx (l ++ m) := cds_ext (by rw [cds_app]; rfl)
theorem tx_len (l : List Nat) : (tx l).length = l.length := by
  rw [← cds_len]
  rfl
def plainS (z : Str) : Prop := ∀ c ∈ cds z, c < 128
theorem lay_str {z : Str} (h : plainS z) : PyData.canLay0 (.str z) = true := by
  show z.cps.all (· < 0x110000) = true
  rw [Array.all_eq_true_iff_forall_mem]
  intro c hc
  have := h c (Array.mem_toList_iff.mpr hc)
  exact decide_eq_true (by omega)
theorem over_plain {sg z : Str} (h : Signs sg) (v : Over sg z) : plainS z := fun c hc => by
  have := sg_range h c (v c hc)
  omega
theorem Cup.put {H : Hp} {c D : Addr} {o : HO} (h : Cup H c) (n : D ≠ c) : Cup (upd H D o) c := by
  obtain ⟨c0, c1, c2, ec⟩ := h
  exact ⟨c0, c1, c2, by rw [upd_ne n.symm]; exact ec⟩
theorem But.putN {c D : Addr} {H H' : Hp} {o : HO} (b : But c H H') (n : H D = none) : But c H (upd H' D o) := fun x u nx e => by
  rw [upd_ne (ne_of_none e n)]
  exact b _ _ nx e
theorem str_len (a b : Str) : (a ++ b).length = a.length + b.length := Array.size_append
theorem empty_app (a : Str) : Str.empty ++ a = a := cds_ext (by rw [cds_app]; rfl)
theorem cds_join : ∀ l : List Str, cds (Txt.join "" l) = (l.map cds).flatten := by
  intro l
  rw [show Txt.join "" l = Str.join "" l from TL.join_eq _ _]
  have e0 : cds ("" : Str) = [] := by decide +kernel
  induction l with
  | nil => exact e0
  | cons x l ih =>
    cases l with
    | nil =>
      show cds x = cds x ++ []
      rw [List.append_nil]
    | cons y r =>
      show cds (x ++ ("" : Str) ++ Str.join "" (y :: r)) = cds x ++ ((y :: r).map cds).flatten
      rw [cds_app, cds_app, e0, List.append_nil, ih]
theorem join_ones : ∀ l : List Nat, cds (Txt.join "" (l.map one)) = l := fun l => by
  rw [cds_join, List.map_map]
  induction l with
  | nil => rfl
  | cons c l ih =>
    show [c] ++ (l.map (cds ∘ one)).flatten = c :: l
    rw [ih]
    rfl
theorem sum_ones (l : List Nat) : ((l.map one).map (·.length)).sum = l.length := by
  rw [List.map_map]
  induction l with
  | nil => rfl
  | cons c l ih =>
    show 1 + (l.map _).sum = l.length + 1
    rw [ih]
    omega
theorem small9000 {m : Int} (h0 : 0 ≤ m) (h : m ≤ 100) : m.natAbs < 2 ^ 9000 := Nat.lt_of_lt_of_le (show m.natAbs < 2 ^ 7 by omega) (Nat.pow_le_pow_right (by decide) (by decide))
section
variable {P : Program} {w : World} {K : PySem.W.Frag} {mg : Str → Option Value} {base : Heap}
def spText : Sp := fun vs H Q _ => ∃ sg z : Str, vs = [.str sg, .str z] ∧ Signs sg ∧ Over sg z ∧ z.length ≤ 100 ∧ ∀ H', Same H H' → Q (.bl true) H'
theorem scText : FnScope ["letters", "value"] ["letters", "value"] (defScope sPattern) := ⟨rfl, rfl, rfl, by decide +kernel, rfl, by decide +kernel, by decide +kernel⟩
structure Low (K : PySem.W.Frag) (mg : Str → Option Value) (fI fH fL fC fT : Addr) (dI dH dL dC dT : FuncData) : Prop where
  DI : Df K mg "is_integer" sInt ["value"] fI dI
  DH : Df K mg "has_only" sHas ["value", "signs", "most"] fH dH
  DL : Df K mg "is_letters" sLetters ["value"] fL dL
  DC : Df K mg "check_letters" sCheck ["value"] fC dC
  DT : Df K mg "is_pattern" sPattern ["letters", "value"] fT dT
theorem ok_text {f fI fH fL fC fT : Addr} {fd dI dH dL dC dT : FuncData} (F : Fun K "is_pattern" "is_pattern" sPattern f fd) (T : Txt K mg) (G : Low K mg fI fH fL fC fT dI dH dL dC dT) : FnOk P w K mg base CX0 4 f fd ["letters", "value"] spText := by
  have GC := ok_passL (P := P) (w := w) (base := base) G.DC.F T G.DH G.DL
  have GH := ok_has (P := P) (w := w) (base := base) G.DH.F T
  refine F.ok scText (fun vs H Q E h => ?_) (fun cdv A outer s H vs Q E hr h => ?_)
  · obtain ⟨sg, z, rfl, _⟩ := h
    rfl
  · obtain ⟨sg, z, rfl, hsg, hz, hl, q⟩ := h
    obtain ⟨tn, hn⟩ := T.mPat
    refine ⟨_, pss_cons (ps_expr (pe_call GC hr (by rfl) G.DC.m G.DC.F.kp G.DC.b .nil pass0 (pa_cons (pv 0) pa_nil)))
      (pss_one (ps_ret (pe_call GH (hr.mono (by decide)) (by rfl) G.DH.m G.DH.F.kp G.DH.b .nil pass0 (pa_cons (pv 1) (pa_cons (pv 0) (pa_cons (pe_glob (v := .int 400) rfl hn ⟨_, rfl⟩) pa_nil)))))), ?_⟩
    refine ⟨_, rfl, sg, rfl, hsg, fun H' s' => ?_⟩
    refine ⟨_, rfl, _, rfl, .str z, .str z, sg, 400, rfl, .str z, over_fine hsg hz (by omega), ?_⟩
    rw [over_has hz (by omega)]
    exact q H' s'
def spCText : Sp := fun vs H Q _ => ∃ sg z : Str, vs = [.str sg, .str z] ∧ Signs sg ∧ Over sg z ∧ z.length ≤ 100 ∧ ∀ H', Same H H' → Q .non H'
theorem scCText : FnScope ["letters", "value"] ["letters", "value"] (defScope sCPattern) := ⟨rfl, rfl, rfl, by decide +kernel, rfl, by decide +kernel, by decide +kernel⟩
theorem ok_ctext {f fI fH fL fC fT : Addr} {fd dI dH dL dC dT : FuncData} (F : Fun K "check_pattern" "check_pattern" sCPattern f fd) (T : Txt K mg) (G : Low K mg fI fH fL fC fT dI dH dL dC dT) : FnOk P w K mg base CX0 5 f fd ["letters", "value"] spCText := by
  have GT := ok_text (P := P) (w := w) (base := base) G.DT.F T G
  refine F.ok scCText (fun vs H Q E h => ?_) (fun cdv A outer s H vs Q E hr h => ?_)
  · obtain ⟨sg, z, rfl, _⟩ := h
    rfl
  · obtain ⟨sg, z, rfl, hsg, hz, hl, q⟩ := h
    refine ⟨_, pss_one (ps_if (pt_not (pt_val (pe_call GT hr (by rfl) G.DT.m G.DT.F.kp G.DT.b .nil pass0 (pa_cons (pv 0) (pa_cons (pv 1) pa_nil))))) (pss_one ps_never) pss_nil), ?_⟩
    exact ⟨_, rfl, _, rfl, sg, z, rfl, hsg, hz, hl, fun H' s' => ⟨_, rfl, iteF (q H' s')⟩⟩
abbrev nLine : List Str := ["_law_cup_here", "_law_signs_here", "_law_most", "_law_turn"]
def spLine : Sp := fun vs H Q _ => ∃ (c : Addr) (sg : Str) (m : Nat), vs = [.ref c, .str sg, .int (m : Int)] ∧ Cup H c ∧ Signs sg ∧ m ≤ 20 ∧ ∀ z H', Over sg z → z.length ≤ m → Cup H' c → But c H H' → Q (.str z) H'
theorem scLine : FnScope nLine ["_law_cup_here", "_law_signs_here", "_law_most"] (defScope sLine) := ⟨rfl, rfl, rfl, by decide +kernel, rfl, by decide +kernel, by decide +kernel⟩
theorem ok_line {f fB fP : Addr} {fd dB dP : FuncData} (F : Fun K "_law_line" "_law_line" sLine f fd) (T : Txt K mg) (DB : Df K mg "_law_bit" sBit ["_law_cup_here", "_law_much"] fB dB) (DP : Df K mg "_law_pick" sPick ["_law_cup_here", "_law_items"] fP dP) :
    FnOk P w K mg base CX0 3 f fd ["_law_cup_here", "_law_signs_here", "_law_most"] spLine := by
  have GB := ok_bit (P := P) (w := w) (base := base) DB.F T
  have GP := ok_pick (P := P) (w := w) (base := base) DP.F T DB
  refine F.ok scLine (fun vs H Q E h => ?_) (fun cdv A outer s H vs Q E hr h => ?_)
  · obtain ⟨c, sg, m, rfl, _⟩ := h
    rfl
  · obtain ⟨c, sg, m, rfl, hc, hsg, hm, q⟩ := h
    have r1 : Room 1 _ := hr.mono (by decide)
    refine ⟨_, pss_one (ps_ret (pe_join pe_str (pe_lc (own := [("_law_turn", 3)]) (g := gName 3) (tt := tYes) rfl scLine.nd
      (pi_range1 rfl T.range (pa_cons (pe_call GB r1 (by rfl) DB.m DB.F.kp DB.b .nil pass0 (pa_cons (pv 0) (pa_cons (pe_op op_add (pv 2) pe_int) pa_nil))) pa_nil))
      (blkOk_by (own := [("_law_turn", 3)]) (N := nLine) (sc := defScope sLine) (by decide +kernel))
      (fun _ _ _ _ _ => pg_name (i := 3) scLine.nd rfl (Or.inl rfl)) (fun _ _ _ _ _ => pts_nil)
      (fun _ _ _ _ _ => pe_call GP hr (by rfl) DP.m DP.F.kp DP.b .nil pass0 (pa_cons (pv 0) (pa_cons (pv 1) pa_nil)))))), ?_⟩
    obtain ⟨l0, l1⟩ := sg_len hsg
    refine ⟨⟨_, rfl⟩, _, rfl, _, rfl, _, _, rfl, rfl, c, (m : Int) + 1, rfl, hc, by omega, small9000 (by omega) (by omega), fun r H1 r0 rm hc1 b1 => ?_⟩
    obtain ⟨k, rfl⟩ : ∃ k : Nat, r = (k : Int) := ⟨r.toNat, by omega⟩
    refine ⟨_, rfl, by omega, by omega, fun D hD => ?_⟩
    have nDc : D ≠ c := hc1.ne hD
    rw [Int.toNat_natCast]
    refine lc_range (lo := 0) (n := k) (fun i H2 => Cup H2 c ∧ But c H1 H2 ∧ ∃ cs : List Nat, H2 D = some (.lst ((cs.map one).map V.str)) ∧ cs.length = i ∧ ∀ d ∈ cs, d ∈ cds sg)
      ⟨hc1.same (same_upd hD), But.of (same_upd hD), [], upd_same, rfl, fun d hd => by cases hd⟩ ?_ ?_
    · rintro i H2 hi ⟨hc2, b2, cs, e2, hl, hv⟩
      refine ⟨rfl, iteT (B := False) ?_⟩
      refine ⟨_, rfl, _, rfl, c, hc2, .inr ⟨sg, rfl, l0, by omega, fun d H3 hd hc3 b3 => ?_⟩⟩
      have e3 := b3 _ _ nDc e2
      refine ⟨_, e3, ?_, ?_, ?_, cs ++ [d], ?_, by rw [List.length_append, hl]; rfl, ?_⟩
      · rw [List.length_map, List.length_map, hl]
        exact Nat.lt_of_lt_of_le (show i < 30 by omega) (by decide)
      · obtain ⟨c0, c1, c2, ec⟩ := hc3
        exact ⟨c0, c1, c2, by rw [upd_ne nDc.symm]; exact ec⟩
      · intro b o n' e
        rw [upd_ne (ne_of_none e hD)]
        exact b3 _ _ n' (b2 _ _ n' e)
      · rw [upd_same, List.map_append, List.map_append]
        rfl
      · intro x hx
        rcases List.mem_append.mp hx with hx | hx
        · exact hv x hx
        · rw [List.mem_singleton.mp hx]
          exact hd
    · rintro H2 ⟨hc2, b2, cs, e2, hl, hv⟩
      refine ⟨"", D, _, rfl, rfl, .inl (SqL.of e2), ?_, ?_⟩
      · rw [sum_ones]
        show _ + _ * 0 ≤ _
        exact Nat.le_trans (show _ ≤ 30 by omega) (by decide)
      · refine q _ H2 (fun d hd => ?_) ?_ hc2 (b1.trans b2)
        · rw [join_ones] at hd
          exact hv d hd
        · rw [← cds_len, join_ones]
          omega
end
theorem cut_to {z : Str} (i : Nat) : cds (cutS z none (some (i : Int))) = (cds z).take i := by
  unfold cutS
  show (((cds z).drop (HT.sIx z.length 0 none)).take (HT.sIx z.length z.length (some (i : Int)) - HT.sIx z.length 0 none)) = _
  rw [HT.sIx_none, HT.sIx_nat, List.drop_zero, Nat.sub_zero]
  by_cases h : i ≤ z.length
  · rw [Nat.min_eq_left h]
  · rw [Nat.min_eq_right (by omega), List.take_of_length_le (by rw [cds_len]; exact Nat.le_refl _), List.take_of_length_le (by rw [cds_len]; omega)]
structure Sh (n w : Nat) (d : PyData) : Prop where
  lay : d.canLay0 = true
  sh : d.showable = true
  sht : d.intsShort 20 = true
  dp : d.depth ≤ n
  wt : d.weight ≤ w
structure ShA (n w : Nat) (ds : List PyData) : Prop where
  lay : PyData.canLayAll0 ds = true
  sh : PyData.showableAll ds = true
  sht : PyData.intsShortAll 20 ds = true
  dp : PyData.depthAll ds ≤ n
  wt : PyData.weightAll ds ≤ w
theorem Sh.str {z : Str} {w : Nat} (h : plainS z) (hl : z.length ≤ w) : Sh 0 w (.str z) := ⟨lay_str h, rfl, rfl, Nat.le_refl _, hl⟩
theorem int_facts : ∀ m < 1001, (PyData.showable (.int ((m : Nat) : Int)) && PyData.intsShort 20 (.int ((m : Nat) : Int)) && decide (PyData.weight (.int ((m : Nat) : Int)) ≤ 12)) = true := by decide +kernel
theorem Sh.int {m w : Nat} (h : m ≤ 1000) (hw : 12 ≤ w) : Sh 0 w (.int (m : Int)) := by
  have := int_facts m (by omega)
  rw [Bool.and_eq_true, Bool.and_eq_true, decide_eq_true_iff] at this
  exact ⟨rfl, this.1.1, this.1.2, Nat.le_refl _, Nat.le_trans this.2 hw⟩
theorem ShA.nil {n w : Nat} : ShA n w [] := ⟨rfl, rfl, rfl, Nat.zero_le _, Nat.zero_le _⟩
theorem ShA.cons {n m w v x : Nat} {d : PyData} {ds : List PyData} (h : Sh m v d) (k : ShA n w ds) (hm : m ≤ n) (hw : v + 1 + w ≤ x) : ShA n x (d :: ds) where
  lay := by show (d.canLay0 && PyData.canLayAll0 ds) = true; rw [h.lay, k.lay]; rfl
  sh := by show (d.showable && PyData.showableAll ds) = true; rw [h.sh, k.sh]; rfl
  sht := by show (d.intsShort 20 && PyData.intsShortAll 20 ds) = true; rw [h.sht, k.sht]; rfl
  dp := Nat.max_le.mpr ⟨Nat.le_trans h.dp hm, k.dp⟩
  wt := by show d.weight + 1 + PyData.weightAll ds ≤ x; have := h.wt; have := k.wt; omega
theorem ShA.tup {n w : Nat} {ds : List PyData} (h : ShA n w ds) : Sh (n + 1) w (.tuple ds) := ⟨h.lay, h.sh, h.sht, Nat.succ_le_succ h.dp, h.wt⟩
theorem ShA.lst {n w : Nat} {ds : List PyData} (h : ShA n w ds) : Sh (n + 1) w (.list ds) := ⟨h.lay, h.sh, h.sht, Nat.succ_le_succ h.dp, h.wt⟩
theorem Sh.len {n w : Nat} {d : PyData} (h : Sh n w d) (hw : w ≤ 200000) : d.shown.length ≤ sizeLine := by
  have h2 := PyData.shown_le 20 (by decide) d (PyData.leavesShort_of_canLay0 20 d h.lay h.sht)
  have := h.wt
  exact Nat.le_trans h2 (Nat.le_trans (show _ ≤ 22 * 200000 + 20 by omega) (by decide))
theorem sg_plain {sg : Str} (h : Signs sg) : plainS sg := fun c hc => by have := sg_range h c hc; omega
theorem plain_app {a b : Str} (h : plainS a) (k : plainS b) : plainS (a ++ b) := fun c hc => by
  rw [cds_app] at hc
  rcases List.mem_append.mp hc with hc | hc
  · exact h c hc
  · exact k c hc
end K6

set_option Elab.async false
set_option linter.all false
set_option maxRecDepth 100000
set_option maxHeartbeats 3200000
/-! comprehensions with two clauses, by walks -/
namespace Lc
open PySem PySem.Spec PyProof.Rows L2 Tg
/-- what stands behind the second source -/
def In2 (J1 : It) (g1 : TG) (tt1 : TT) (te : TE) (vs1 : List Nat) (σ2 : L2.St) (D : Addr) (Nx : Hp → Prop) (H4 : Hp) : Prop :=
  ∃ W1 : Nat → Nat → Hp → Prop, (∃ m, W1 0 m H4) ∧ ∀ j k H, W1 j k H →
      (J1.stop j H ∧ Nx H) ∨ (J1.go j H ∧ ∃ Nx1 : Hp → Prop, (∀ H', Nx1 H' → ∃ k', k' < k ∧ W1 (j + 1) k' H') ∧ ∀ x H', J1.yld j H x H' → g1 x (wipe σ2 vs1) H' fun σ3 H5 => wipe σ3 vs1 = wipe σ2 vs1 ∧ tt1 σ3 H5 fun b H6 =>
        if b = true then te σ3 H6 fun y H7 => ∃ acc, H7 D = some (.lst acc) ∧ acc.length < sizeLine ∧ Nx1 (upd H7 D (.lst (acc ++ [y]))) else Nx1 H6)
section
variable {J J1 : It} {n n1 : Nat} {G G1 : Hp → Prop} {Y Y1 : Nat → Hp → V → Hp → Prop}
theorem lc2_in (w : Walk J1 n1 G1 Y1) {g1 : TG} {tt1 : TT} {te : TE} {vs1 : List Nat} {σ2 : L2.St} {D : Addr} {Nx : Hp → Prop} {H4 : Hp} (Pw : Nat → Hp → Prop) (h0 : Pw 0 H4) (hG : ∀ j H, j ≤ n1 → Pw j H → G1 H)
    (hs : ∀ j x H H', j < n1 → Pw j H → Y1 j H x H' → g1 x (wipe σ2 vs1) H' fun σ3 H5 => wipe σ3 vs1 = wipe σ2 vs1 ∧ tt1 σ3 H5 fun b H6 =>
      if b = true then te σ3 H6 fun y H7 => ∃ acc, H7 D = some (.lst acc) ∧ acc.length < sizeLine ∧ Pw (j + 1) (upd H7 D (.lst (acc ++ [y]))) else Pw (j + 1) H6)
    (hd : ∀ H, Pw n1 H → Nx H) : In2 J1 g1 tt1 te vs1 σ2 D Nx H4 := by
  refine ⟨fun j k H => k = n1 - j ∧ j ≤ n1 ∧ Pw j H, ⟨n1, by simp, Nat.zero_le _, h0⟩, ?_⟩
  rintro j k H ⟨rfl, hj, p⟩
  have q := hG j H hj p
  rcases Nat.lt_or_ge j n1 with hlt | hge
  · exact .inr ⟨w.goes j H hlt q, Pw (j + 1), fun H' p' => ⟨n1 - (j + 1), by omega, rfl, hlt, p'⟩, fun x H' y => hs j x H H' hlt p (w.yields j H x H' hlt q y)⟩
  · obtain rfl : j = n1 := Nat.le_antisymm hj hge
    exact .inl ⟨w.stops H q, hd H p⟩
theorem lc2_out (w : Walk J n G Y) {g g1 : TG} {tt tt1 : TT} {wi1 : TI} {te : TE} {vs vs1 : List Nat} {σ : L2.St} {H1 : Hp} {D : Addr} {Qd : Hp → Prop} (Pv : Nat → Hp → Prop) (h0 : Pv 0 (upd H1 D (.lst []))) (hG : ∀ i H, i ≤ n → Pv i H → G H)
    (hs : ∀ i x H H', i < n → Pv i H → Y i H x H' → g x (wipe σ vs) H' fun σ2 H2 => wipe σ2 vs = wipe σ vs ∧ tt σ2 H2 fun b H3 =>
      if b = true then wi1 σ2 H3 fun J1 H4 => In2 J1 g1 tt1 te vs1 σ2 D (Pv (i + 1)) H4 else Pv (i + 1) H3) (hd : ∀ H, Pv n H → Qd H) :
    ∃ W : Nat → Nat → Hp → Prop, (∃ m, W 0 m (upd H1 D (.lst []))) ∧ ∀ i m H, W i m H →
      (J.stop i H ∧ Qd H) ∨ (J.go i H ∧ ∃ Nx : Hp → Prop, (∀ H', Nx H' → ∃ m', m' < m ∧ W (i + 1) m' H') ∧ ∀ x H', J.yld i H x H' → g x (wipe σ vs) H' fun σ2 H2 => wipe σ2 vs = wipe σ vs ∧ tt σ2 H2 fun b H3 =>
        if b = true then wi1 σ2 H3 fun J1 H4 => In2 J1 g1 tt1 te vs1 σ2 D Nx H4 else Nx H3) := by
  refine ⟨fun i m H => m = n - i ∧ i ≤ n ∧ Pv i H, ⟨n, by simp, Nat.zero_le _, h0⟩, ?_⟩
  rintro i m H ⟨rfl, hi, p⟩
  have q := hG i H hi p
  rcases Nat.lt_or_ge i n with hlt | hge
  · exact .inr ⟨w.goes i H hlt q, Pv (i + 1), fun H' p' => ⟨n - (i + 1), by omega, rfl, hlt, p'⟩, fun x H' y => hs i x H H' hlt p (w.yields i H x H' hlt q y)⟩
  · obtain rfl : i = n := Nat.le_antisymm hi hge
    exact .inl ⟨w.stops H q, hd H p⟩
end
end Lc

set_option Elab.async false
set_option linter.all false
set_option maxRecDepth 100000
set_option maxHeartbeats 3200000
namespace K6
open PySem L2 Tx Tg Tm Da RZ Lc
/-! ### all texts -/
def growL (sg : Str) (l : List Str) : List Str := l.flatMap fun t => (cds sg).map fun c => t ++ one c
def lays (sg : Str) : Nat → List Str × List Str
  | 0 => ([""], [""])
  | n + 1 => ((lays sg n).1 ++ growL sg (lays sg n).2, growL sg (lays sg n).2)
def allT (sg : Str) (n : Nat) : List Str := (lays sg n).1
def Bd (sg : Str) (n : Nat) : Bool := decide ((lays sg n).1.length ≤ 400) && decide ((lays sg n).2.length ≤ 400) && (lays sg n).1.all (fun t => decide (t.length ≤ 5)) && (lays sg n).2.all (fun t => decide (t.length ≤ 5))
theorem bd_all {sg : Str} (h : Signs sg) : ∀ n ≤ 5, Bd sg n = true := by
  have go : ∀ z ∈ (["ab", "xy", "a", "abc", "b"] : List Str), ∀ n ∈ List.range 6, Bd z n = true := by decide +kernel
  intro n hn
  refine go sg ?_ n (List.mem_range.mpr (by omega))
  rcases h with rfl | rfl | rfl | rfl | rfl <;> simp
structure BdP (sg : Str) (n : Nat) : Prop where
  a : (lays sg n).1.length ≤ 400
  b : (lays sg n).2.length ≤ 400
  c : ∀ t ∈ (lays sg n).1, t.length ≤ 5
  d : ∀ t ∈ (lays sg n).2, t.length ≤ 5
theorem bdp {sg : Str} (h : Signs sg) {n : Nat} (hn : n ≤ 5) : BdP sg n := by
  have q := bd_all h n hn
  simp only [Bd, Bool.and_eq_true, decide_eq_true_eq, List.all_eq_true] at q
  exact ⟨q.1.1.1, q.1.1.2, q.1.2, q.2⟩
theorem growL_take {sg : Str} {l : List Str} {i : Nat} {t : Str} (h : l[i]? = some t) : growL sg (l.take (i + 1)) = growL sg (l.take i) ++ (cds sg).map fun c => t ++ one c := by
  unfold growL
  rw [List.take_add_one, h, List.flatMap_append]
  simp
theorem growL_len (sg : Str) (l : List Str) : (growL sg l).length = l.length * (cds sg).length := by
  unfold growL
  induction l with
  | nil => simp
  | cons t l ih => rw [List.flatMap_cons, List.length_append, ih, List.length_map, List.length_cons, Nat.add_mul, Nat.one_mul, Nat.add_comm]
theorem sg_short {sg : Str} (h : Signs sg) : sg.length ≤ 3 := by
  rcases h with rfl | rfl | rfl | rfl | rfl <;> decide +kernel
abbrev txs (l : List Str) : List V := l.map V.str
abbrev nTexts : List Str := ["letters", "size", "found", "longest", "_", "text", "letter"]
section
variable {P : Program} {w : World} {K : PySem.W.Frag} {mg : Str → Option Value} {base : Heap}
def spTexts : Sp := fun vs H Q _ => ∃ (sg : Str) (n : Nat), vs = [.str sg, .int n] ∧ Signs sg ∧ n ≤ 5 ∧ ∀ p H', H p = none → Same H H' → H' p = some (.tup (txs (allT sg n))) → Q (.ref p) H'
theorem scTexts : FnScope nTexts ["letters", "size"] (defScope sAllT) := ⟨rfl, rfl, rfl, by decide +kernel, rfl, by decide +kernel, by decide +kernel⟩
theorem ok_texts {f : Addr} {fd : FuncData} (F : Fun K "all_texts" "all_texts" sAllT f fd) (T : Txt K mg) : FnOk P w K mg base CX0 1 f fd ["letters", "size"] spTexts := by
  refine F.ok scTexts (fun vs H Q E h => ?_) (fun cdv A outer s H vs Q E hr h => ?_)
  · obtain ⟨sg, n, rfl, _⟩ := h
    rfl
  · obtain ⟨sg, n, rfl, hsg, hn, q⟩ := h
    refine ⟨_, pss_cons (ps_set (i := 2) scTexts.nd rfl (Or.inl rfl) (pe_lst (pa_cons pe_str pa_nil)))
      (pss_cons (ps_set (i := 3) scTexts.nd rfl (Or.inl rfl) (pe_lst (pa_cons pe_str pa_nil)))
      (pss_cons (ps_for PassesOwn.never rfl (pi_range1 rfl T.range (pa_cons (pv 1) pa_nil)) (pg_name (i := 4) scTexts.nd rfl (Or.inl rfl))
        (pss_cons (ps_setLc2 (i := 3) (own := [("text", 5), ("letter", 6)]) (g := gName 5) (g1 := gName 6) (tt := tYes) (tt1 := tYes) (vs1 := [6]) rfl scTexts.nd rfl rfl (by rfl) (pi_list (pv 3))
            (blkOk_by (own := [("text", 5), ("letter", 6)]) (N := nTexts) (sc := defScope sAllT) (by decide +kernel)) (by decide) (fun _ _ _ _ _ => pg_name (i := 5) scTexts.nd rfl (Or.inl rfl)) (fun _ _ _ _ _ => pts_nil)
            (fun _ _ _ _ _ => pi_str (pv 0)) (fun _ _ _ _ _ => pg_name (i := 6) scTexts.nd rfl (Or.inl rfl)) (fun _ _ _ _ _ => pts_nil)
            (fun _ _ _ _ _ => pe_op op_add_str (pv 5) (pv 6)))
        (pss_one (ps_expr (pe_bm PySem.F.plainAttrs_list PySem.F.slot_list_extend PySem.F.type_list_extend mt_extend (pv 2) (pa_cons (pv 3) pa_nil))))))
      (pss_one (ps_ret (pe_callTy call_tuple_of (by rfl) T.tuple (by decide +kernel) (pa_cons (pv 2) pa_nil)))))), ?_⟩
    refine ⟨by show 1 ≤ sizeLine; decide, fun p np => ⟨by show 1 ≤ sizeLine; decide, fun p0 np0 => ?_⟩⟩
    have n01 : p ≠ p0 := ne_of_none upd_same np0
    refine ⟨_, rfl, n, rfl, by omega, by omega, for_range (n := n) (fun i σ H1 => ∃ (p1 : Addr) (t : Option V), σ = [some (.str sg), some (.int n), some (.ref p), some (.ref p1), t, none, none] ∧ Same H H1 ∧ p ≠ p1 ∧ H1 p = some (.lst (txs (lays sg i).1)) ∧ H1 p1 = some (.lst (txs (lays sg i).2)))
      ⟨p0, none, rfl, (same_upd np).trans (same_upd np0), n01, (by rw [upd_ne n01]; exact upd_same), upd_same⟩ ?_ ?_⟩
    · rintro i σ H1 hi ⟨p1, t, rfl, s1, n1, e1, e2⟩
      have B := bdp hsg (n := i) (by omega)
      have B' := bdp hsg (n := i + 1) (by omega)
      refine ⟨_, rfl, p1, rfl, ⟨_, SqL.of e2⟩, fun D hD => ?_⟩
      have nD1 : p1 ≠ D := ne_of_none e2 hD
      have nD : p ≠ D := ne_of_none e1 hD
      refine lc2_out (vs := [5, 6]) (vs1 := [6]) walk_list (fun j H2 => Same H1 H2 ∧ H2 D = some (.lst (txs (growL sg ((lays sg i).2.take j))))) ⟨same_upd hD, upd_same⟩ (fun j H2 _ z => SqL.of (z.1 _ _ e2)) ?_ ?_
      · rintro j x H2 H3 hj ⟨s2, e3⟩ ⟨rfl, hx⟩
        have hj' : j < (lays sg i).2.length := by rw [List.length_map] at hj; exact hj
        rw [List.getElem?_map] at hx
        obtain ⟨y, hy, rfl⟩ := Option.map_eq_some_iff.mp hx
        have hy5 : y.length ≤ 5 := B.d y (List.mem_of_getElem? hy)
        have hc3 : (cds sg).length ≤ 3 := by rw [cds_len]; exact sg_short hsg
        have glen : (growL sg ((lays sg i).2.take j)).length ≤ 1200 := by
          rw [growL_len, List.length_take]
          have := B.b
          exact Nat.le_trans (Nat.mul_le_mul (show min j (lays sg i).2.length ≤ 400 by omega) hc3) (by decide)
        refine ⟨rfl, iteT (B := Same H1 H3 ∧ H3 D = some (.lst (txs (growL sg ((lays sg i).2.take (j + 1)))))) ?_⟩
        refine ⟨_, rfl, sg, rfl, ?_⟩
        refine lc2_in walk_str (fun k H4 => Same H1 H4 ∧ H4 D = some (.lst (txs (growL sg ((lays sg i).2.take j) ++ ((cds sg).take k).map fun c => y ++ one c)))) ⟨s2, by rw [List.take_zero, List.map_nil, List.append_nil]; exact e3⟩ (fun _ _ _ _ => trivial) ?_ ?_
        · rintro k x H4 H5 hk ⟨s4, e4⟩ ⟨rfl, c, hc, rfl⟩
          refine ⟨rfl, iteT (B := Same H1 H5 ∧ H5 D = some (.lst (txs (growL sg ((lays sg i).2.take j) ++ ((cds sg).take (k + 1)).map fun c => y ++ one c)))) ?_⟩
          refine ⟨_, rfl, _, rfl, y, one c, rfl, rfl, ?_, ?_⟩
          · have : (one c).length = 1 := rfl
            rw [this]
            exact Nat.le_trans (show y.length + 1 ≤ 6 by omega) (by decide)
          · have hk' : (cds sg)[k]? = some c := by
              show sg.cps.toList[k]? = some c
              rw [Array.getElem?_toList]
              exact hc
            refine ⟨_, e4, ?_, same_put s4 hD, ?_⟩
            · rw [List.length_map, List.length_append, List.length_map, List.length_take]
              exact Nat.lt_of_lt_of_le (show _ < 1300 by omega) (by decide)
            · rw [upd_same, List.take_add_one, hk']
              simp
        · rintro H4 ⟨s4, e4⟩
          refine ⟨s4, ?_⟩
          rw [growL_take hy]
          have ez : (cds sg).take sg.cps.size = cds sg := List.take_of_length_le (by rw [cds_len]; exact Nat.le_refl _)
          rw [ez] at e4
          exact e4
      · rintro H2 ⟨s2, e3⟩
        have et : (lays sg i).2.take ((txs (lays sg i).2).length) = (lays sg i).2 := List.take_of_length_le (by rw [List.length_map]; exact Nat.le_refl _)
        rw [et] at e3
        refine ⟨_, rfl, .inl ⟨rfl, _, SqL.of (s2 _ _ e1)⟩, _, rfl, p, D, _, _, rfl, rfl, s2 _ _ e1, e3, ?_, ?_⟩
        · have := B'.a
          have e : (lays sg (i + 1)).1 = (lays sg i).1 ++ growL sg (lays sg i).2 := rfl
          rw [e, List.length_append] at this
          rw [List.length_map, List.length_map]
          exact Nat.le_trans this (by decide)
        · refine ⟨D, _, rfl, fun b o e => ?_, nD, ?_, ?_⟩
          · rw [upd_ne (ne_of_none e np)]
            exact s2 _ _ (s1 _ _ e)
          · rw [upd_same, ← List.map_append]
            rfl
          · rw [upd_ne nD.symm]
            exact e3
    · rintro σ H1 ⟨p1, t, rfl, s1, n1, e1, e2⟩
      refine ⟨_, rfl, p, _, rfl, .inl ⟨SqL.of e1, fun l hl => ?_⟩⟩
      refine q l _ ?_ (s1.trans (same_upd hl)) upd_same
      cases hh : H l with
      | none => rfl
      | some o =>
        have := s1 _ _ hh
        rw [hl] at this
        cases this
end
end K6

set_option linter.all false
/-! TalM: core Lean alone. Tallies: a first row, a square for each letter, a last column, over the integers or their rests. -/
namespace Ty
/-- sum of f 0 .. f (n - 1) -/
def S : Nat → (Nat → Int) → Int
  | 0, _ => 0
  | n + 1, f => S n f + f n
theorem S_congr : ∀ {n : Nat} {f g : Nat → Int}, (∀ i, i < n → f i = g i) → S n f = S n g
  | 0, _, _, _ => rfl
  | n + 1, f, g, h => by
    show S n f + f n = S n g + g n
    rw [S_congr fun i hi => h i (Nat.lt_succ_of_lt hi), h n (Nat.lt_succ_self n)]
theorem S_zero : ∀ n : Nat, S n (fun _ => 0) = 0
  | 0 => rfl
  | n + 1 => by
    show S n _ + 0 = 0
    rw [S_zero n]
    rfl
theorem S_add : ∀ (n : Nat) (f g : Nat → Int), S n (fun i => f i + g i) = S n f + S n g
  | 0, _, _ => rfl
  | n + 1, f, g => by
    show S n _ + (f n + g n) = (S n f + f n) + (S n g + g n)
    rw [S_add n]
    omega
theorem S_mulL (k : Int) : ∀ (n : Nat) (f : Nat → Int), S n (fun i => k * f i) = k * S n f
  | 0, _ => (Int.mul_zero k).symm
  | n + 1, f => by
    show S n _ + _ = k * (S n f + f n)
    rw [S_mulL k n, Int.mul_add]
theorem S_mulR (k : Int) (n : Nat) (f : Nat → Int) : S n (fun i => f i * k) = S n f * k := by
  rw [Int.mul_comm, ← S_mulL]
  exact S_congr fun i _ => Int.mul_comm _ _
theorem S_swap (m : Nat) (f : Nat → Nat → Int) : ∀ n : Nat, S n (fun i => S m (f i)) = S m (fun j => S n (fun i => f i j))
  | 0 => (S_zero m).symm
  | n + 1 => by
    show S n (fun i => S m (f i)) + S m (f n) = S m (fun j => S n (fun i => f i j) + f n j)
    rw [S_add, S_swap m f n]
theorem S_cat (n : Nat) (f : Nat → Int) : ∀ m : Nat, S (n + m) f = S n f + S m (fun i => f (n + i))
  | 0 => (Int.add_zero _).symm
  | m + 1 => by
    show S (n + m) f + f (n + m) = S n f + (S m _ + f (n + m))
    rw [S_cat n f m]
    omega
theorem S_prod (m : Nat) (f : Nat → Int) : ∀ n : Nat, S (n * m) f = S n (fun a => S m (fun b => f (a * m + b)))
  | 0 => by rw [Nat.zero_mul]; rfl
  | n + 1 => by
    rw [Nat.succ_mul, S_cat, S_prod m f n]
    rfl
/-- a row times a square -/
def fv (n : Nat) (r : Nat → Int) (M : Nat → Nat → Int) : Nat → Int := fun j => S n (fun i => r i * M i j)
def dt (n : Nat) (r c : Nat → Int) : Int := S n (fun i => r i * c i)
def led (n : Nat) (r : Nat → Int) (Ms : List (Nat → Nat → Int)) : Nat → Int := Ms.foldl (fv n) r
def num (n : Nat) (r : Nat → Int) (Ms : List (Nat → Nat → Int)) (c : Nat → Int) : Int := dt n (led n r Ms) c
def tr (M : Nat → Nat → Int) : Nat → Nat → Int := fun i j => M j i
theorem dt_comm (n : Nat) (r c : Nat → Int) : dt n r c = dt n c r := S_congr fun i _ => Int.mul_comm _ _
/-- (r M) c = r (M c) -/
theorem adj (n : Nat) (r c : Nat → Int) (M : Nat → Nat → Int) : dt n (fv n r M) c = dt n r (fv n c (tr M)) := by
  unfold dt fv
  have e : S n (fun i => S n (fun i_1 => r i_1 * M i_1 i) * c i) = S n (fun i => S n (fun k => r k * M k i * c i)) := S_congr fun i _ => (S_mulR _ _ _).symm
  rw [e, S_swap]
  refine S_congr fun k _ => ?_
  rw [← S_mulL]
  refine S_congr fun i _ => ?_
  show r k * M k i * c i = r k * (c i * M k i)
  rw [Int.mul_assoc, Int.mul_comm (M k i)]
theorem led_congr {n : Nat} : ∀ {Ms : List (Nat → Nat → Int)} {r r' : Nat → Int}, (∀ i, i < n → r i = r' i) → ∀ i, i < n → led n r Ms i = led n r' Ms i
  | [], _, _, h => h
  | M :: Ms, r, r', h => led_congr (Ms := Ms) (r := fv n r M) (r' := fv n r' M) fun j _ => S_congr fun i hi => by rw [h i hi]
theorem led_app {n : Nat} {r : Nat → Int} {Ms Ns : List (Nat → Nat → Int)} : led n r (Ms ++ Ns) = led n (led n r Ms) Ns := List.foldl_append ..
/-- r M1 .. Mk c, from the right -/
theorem num_right (n : Nat) : ∀ (Ms : List (Nat → Nat → Int)) (r c : Nat → Int), num n r Ms c = dt n r (led n c (Ms.reverse.map tr))
  | [], _, _ => rfl
  | M :: Ms, r, c => by
    show num n (fv n r M) Ms c = _
    rw [num_right n Ms, adj, List.reverse_cons, List.map_append, led_app]
    rfl
theorem num_back (n : Nat) (Ms : List (Nat → Nat → Int)) (r c : Nat → Int) : num n c (Ms.reverse.map tr) r = num n r Ms c := by
  rw [num_right n Ms, dt_comm]
  rfl
/-- the text behind: M1 .. Mk on the column -/
theorem num_behind (n : Nat) (Ms Ns : List (Nat → Nat → Int)) (r c : Nat → Int) : num n r Ms (led n c (Ns.reverse.map tr)) = num n r (Ms ++ Ns) c := by
  show dt n (led n r Ms) _ = dt n (led n r (Ms ++ Ns)) c
  rw [led_app]
  exact (num_right n Ns (led n r Ms) c).symm
theorem num_ahead (n : Nat) (Ms Ns : List (Nat → Nat → Int)) (r c : Nat → Int) : num n (led n r Ms) Ns c = num n r (Ms ++ Ns) c := by
  show dt n (led n (led n r Ms) Ns) c = _
  rw [← led_app]
  rfl
/-! ### times a number -/
theorem led_scale (n : Nat) (k : Int) : ∀ (Ms : List (Nat → Nat → Int)) (r : Nat → Int), led n (fun i => k * r i) Ms = fun i => k * led n r Ms i
  | [], _ => rfl
  | M :: Ms, r => by
    have e : fv n (fun i => k * r i) M = fun j => k * fv n r M j := funext fun j => by
      show S n (fun i => k * r i * M i j) = k * S n _
      rw [← S_mulL]
      exact S_congr fun i _ => Int.mul_assoc ..
    show led n (fv n (fun i => k * r i) M) Ms = _
    rw [e, led_scale n k Ms]
    rfl
theorem num_scale (n : Nat) (k : Int) (Ms : List (Nat → Nat → Int)) (r c : Nat → Int) : num n (fun i => k * r i) Ms c = k * num n r Ms c := by
  show dt n (led n (fun i => k * r i) Ms) c = k * dt n (led n r Ms) c
  rw [led_scale]
  show S n (fun i => k * led n r Ms i * c i) = k * S n _
  rw [← S_mulL]
  exact S_congr fun i _ => Int.mul_assoc ..
/-! ### side by side -/
def cat (n : Nat) (r r' : Nat → Int) : Nat → Int := fun i => if i < n then r i else r' (i - n)
def blk (n : Nat) (A B : Nat → Nat → Int) : Nat → Nat → Int := fun i j => if i < n then (if j < n then A i j else 0) else (if j < n then 0 else B (i - n) (j - n))
theorem cat_lo {n i : Nat} {r r' : Nat → Int} (h : i < n) : cat n r r' i = r i := if_pos h
theorem cat_hi {n i : Nat} {r r' : Nat → Int} : cat n r r' (n + i) = r' i := by
  unfold cat
  rw [if_neg (by omega), Nat.add_sub_cancel_left]
theorem dt_cat (n m : Nat) (r r' c c' : Nat → Int) : dt (n + m) (cat n r r') (cat n c c') = dt n r c + dt m r' c' := by
  unfold dt
  rw [S_cat]
  have e1 : S n (fun i => cat n r r' i * cat n c c' i) = S n (fun i => r i * c i) := S_congr fun i hi => by rw [cat_lo hi, cat_lo hi]
  have e2 : S m (fun i => cat n r r' (n + i) * cat n c c' (n + i)) = S m (fun i => r' i * c' i) := S_congr fun i _ => by rw [cat_hi, cat_hi]
  rw [e1, e2]
theorem fv_blk (n m : Nat) (r r' : Nat → Int) (A B : Nat → Nat → Int) : fv (n + m) (cat n r r') (blk n A B) = cat n (fv n r A) (fv m r' B) := funext fun j => by
  show S (n + m) (fun i => cat n r r' i * blk n A B i j) = _
  rw [S_cat]
  by_cases h : j < n
  · have e1 : S n (fun i => cat n r r' i * blk n A B i j) = S n (fun i => r i * A i j) := S_congr fun i hi => by
      rw [cat_lo hi]
      unfold blk
      rw [if_pos hi, if_pos h]
    have e2 : S m (fun i => cat n r r' (n + i) * blk n A B (n + i) j) = 0 := (S_congr fun i _ => by
      unfold blk
      rw [if_neg (by omega), if_pos h, Int.mul_zero]).trans (S_zero m)
    rw [e1, e2, Int.add_zero, cat_lo h]
    rfl
  · have e1 : S n (fun i => cat n r r' i * blk n A B i j) = 0 := (S_congr fun i hi => by
      unfold blk
      rw [if_pos hi, if_neg h, Int.mul_zero]).trans (S_zero n)
    have e2 : S m (fun i => cat n r r' (n + i) * blk n A B (n + i) j) = S m (fun i => r' i * B i (j - n)) := S_congr fun i _ => by
      rw [cat_hi]
      unfold blk
      rw [if_neg (by omega), if_neg h, Nat.add_sub_cancel_left]
    rw [e1, e2, Int.zero_add]
    unfold cat
    rw [if_neg h]
    rfl
/-- the squares side by side, letter by letter -/
def blks (n : Nat) : List (Nat → Nat → Int) → List (Nat → Nat → Int) → List (Nat → Nat → Int)
  | A :: As, B :: Bs => blk n A B :: blks n As Bs
  | _, _ => []
theorem led_blk (n m : Nat) : ∀ {As Bs : List (Nat → Nat → Int)} {r r' : Nat → Int}, As.length = Bs.length → led (n + m) (cat n r r') (blks n As Bs) = cat n (led n r As) (led m r' Bs)
  | [], [], _, _, _ => rfl
  | A :: As, B :: Bs, r, r', h => by
    show led (n + m) (fv (n + m) (cat n r r') (blk n A B)) (blks n As Bs) = _
    rw [fv_blk, led_blk n m (Nat.succ.inj h)]
    rfl
  | [], _ :: _, _, _, h => nomatch h
  | _ :: _, [], _, _, h => nomatch h
theorem num_cat (n m : Nat) {As Bs : List (Nat → Nat → Int)} (h : As.length = Bs.length) (r r' c c' : Nat → Int) : num (n + m) (cat n r r') (blks n As Bs) (cat n c c') = num n r As c + num m r' Bs c' := by
  show dt (n + m) (led (n + m) (cat n r r') (blks n As Bs)) _ = _
  rw [led_blk n m h]
  exact dt_cat ..
/-! ### crossed -/
def prd (m : Nat) (r r' : Nat → Int) : Nat → Int := fun i => r (i / m) * r' (i % m)
def kro (m : Nat) (A B : Nat → Nat → Int) : Nat → Nat → Int := fun i j => A (i / m) (j / m) * B (i % m) (j % m)
theorem split_at {m a b : Nat} (h : b < m) : (a * m + b) / m = a ∧ (a * m + b) % m = b := by
  constructor
  · rw [Nat.mul_comm, Nat.mul_add_div (by omega), Nat.div_eq_of_lt h, Nat.add_zero]
  · rw [Nat.mul_comm, Nat.mul_add_mod, Nat.mod_eq_of_lt h]
theorem S_kro (n m : Nat) (f g : Nat → Int) : S (n * m) (fun i => f (i / m) * g (i % m)) = S n f * S m g := by
  rw [S_prod]
  have e : S n (fun a => S m (fun b => f ((a * m + b) / m) * g ((a * m + b) % m))) = S n (fun a => f a * S m g) := S_congr fun a _ => by
    rw [← S_mulL]
    exact S_congr fun b hb => by rw [(split_at hb).1, (split_at hb).2]
  rw [e, S_mulR]
theorem four (a b c d : Int) : a * b * (c * d) = a * c * (b * d) := by
  rw [Int.mul_assoc, Int.mul_assoc, ← Int.mul_assoc b, Int.mul_comm b c, Int.mul_assoc c]
theorem dt_prd (n m : Nat) (r r' c c' : Nat → Int) : dt (n * m) (prd m r r') (prd m c c') = dt n r c * dt m r' c' := by
  unfold dt
  rw [← S_kro]
  exact S_congr fun i _ => four ..
theorem fv_kro (n m : Nat) (r r' : Nat → Int) (A B : Nat → Nat → Int) : fv (n * m) (prd m r r') (kro m A B) = prd m (fv n r A) (fv m r' B) := funext fun j => by
  show S (n * m) (fun i => r (i / m) * r' (i % m) * (A (i / m) (j / m) * B (i % m) (j % m))) = S n (fun i => r i * A i (j / m)) * S m (fun i => r' i * B i (j % m))
  rw [← S_kro]
  exact S_congr fun i _ => four ..
def kros (m : Nat) : List (Nat → Nat → Int) → List (Nat → Nat → Int) → List (Nat → Nat → Int)
  | A :: As, B :: Bs => kro m A B :: kros m As Bs
  | _, _ => []
theorem led_kro (n m : Nat) : ∀ {As Bs : List (Nat → Nat → Int)} {r r' : Nat → Int}, As.length = Bs.length → led (n * m) (prd m r r') (kros m As Bs) = prd m (led n r As) (led m r' Bs)
  | [], [], _, _, _ => rfl
  | A :: As, B :: Bs, r, r', h => by
    show led (n * m) (fv (n * m) (prd m r r') (kro m A B)) (kros m As Bs) = _
    rw [fv_kro, led_kro n m (Nat.succ.inj h)]
    rfl
  | [], _ :: _, _, _, h => nomatch h
  | _ :: _, [], _, _, h => nomatch h
theorem num_prd (n m : Nat) {As Bs : List (Nat → Nat → Int)} (h : As.length = Bs.length) (r r' c c' : Nat → Int) : num (n * m) (prd m r r') (kros m As Bs) (prd m c c') = num n r As c * num m r' Bs c' := by
  show dt (n * m) (led (n * m) (prd m r r') (kros m As Bs)) _ = _
  rw [led_kro n m h]
  exact dt_prd ..
/-! ### rests -/
/-- the rest, if there is a prime -/
def rest (p : Option Int) (x : Int) : Int := match p with
  | none => x
  | some p => x % p
theorem rest_rest (p : Option Int) (x : Int) : rest p (rest p x) = rest p x := by
  cases p with
  | none => rfl
  | some p => exact Int.emod_emod_of_dvd x (Int.dvd_refl p)
theorem rest_add (p : Option Int) (x y : Int) : rest p (rest p x + rest p y) = rest p (x + y) := by
  cases p with
  | none => rfl
  | some p => exact (Int.add_emod x y p).symm
theorem rest_mul (p : Option Int) (x y : Int) : rest p (rest p x * rest p y) = rest p (x * y) := by
  cases p with
  | none => rfl
  | some p => exact (Int.mul_emod x y p).symm
/-- alike up to the rest -/
def Eqv (p : Option Int) (x y : Int) : Prop := rest p x = rest p y
theorem Eqv.add {p : Option Int} {x y z w : Int} (h : Eqv p x y) (k : Eqv p z w) : Eqv p (x + z) (y + w) := by
  unfold Eqv at *
  rw [← rest_add p x z, h, k, rest_add]
theorem Eqv.mul {p : Option Int} {x y z w : Int} (h : Eqv p x y) (k : Eqv p z w) : Eqv p (x * z) (y * w) := by
  unfold Eqv at *
  rw [← rest_mul p x z, h, k, rest_mul]
theorem Eqv.refl (p : Option Int) (x : Int) : Eqv p x x := rfl
theorem Eqv.of_rest (p : Option Int) (x : Int) : Eqv p (rest p x) x := rest_rest p x
theorem S_eqv {p : Option Int} : ∀ {n : Nat} {f g : Nat → Int}, (∀ i, i < n → Eqv p (f i) (g i)) → Eqv p (S n f) (S n g)
  | 0, _, _, _ => rfl
  | n + 1, f, g, h => (S_eqv fun i hi => h i (Nat.lt_succ_of_lt hi)).add (h n (Nat.lt_succ_self n))
theorem fv_eqv {p : Option Int} {n : Nat} {r r' : Nat → Int} {M M' : Nat → Nat → Int} (h : ∀ i, i < n → Eqv p (r i) (r' i)) (k : ∀ i j, i < n → j < n → Eqv p (M i j) (M' i j)) : ∀ j, j < n → Eqv p (fv n r M j) (fv n r' M' j) :=
  fun j hj => S_eqv fun i hi => (h i hi).mul (k i j hi hj)
theorem dt_eqv {p : Option Int} {n : Nat} {r r' c c' : Nat → Int} (h : ∀ i, i < n → Eqv p (r i) (r' i)) (k : ∀ i, i < n → Eqv p (c i) (c' i)) : Eqv p (dt n r c) (dt n r' c') := S_eqv fun i hi => (h i hi).mul (k i hi)
/-- a step with the rest taken -/
def fvR (p : Option Int) (n : Nat) (r : Nat → Int) (M : Nat → Nat → Int) : Nat → Int := fun j => rest p (fv n r M j)
def ledR (p : Option Int) (n : Nat) (r : Nat → Int) (Ms : List (Nat → Nat → Int)) : Nat → Int := Ms.foldl (fvR p n) r
inductive MsEqv (p : Option Int) (n : Nat) : List (Nat → Nat → Int) → List (Nat → Nat → Int) → Prop
  | nil : MsEqv p n [] []
  | cons {M M' : Nat → Nat → Int} {Ms Ms' : List (Nat → Nat → Int)} : (∀ i j, i < n → j < n → Eqv p (M i j) (M' i j)) → MsEqv p n Ms Ms' → MsEqv p n (M :: Ms) (M' :: Ms')
theorem MsEqv.refl (p : Option Int) (n : Nat) : ∀ Ms : List (Nat → Nat → Int), MsEqv p n Ms Ms
  | [] => .nil
  | _ :: Ms => .cons (fun _ _ _ _ => rfl) (MsEqv.refl p n Ms)
theorem led_eqv {p : Option Int} {n : Nat} {Ms Ms' : List (Nat → Nat → Int)} (m : MsEqv p n Ms Ms') : ∀ {r r' : Nat → Int}, (∀ i, i < n → Eqv p (r i) (r' i)) → ∀ i, i < n → Eqv p (led n r Ms i) (led n r' Ms' i) := by
  induction m with
  | nil => exact fun h => h
  | cons k _ ih => exact fun h => ih (fv_eqv h k)
theorem ledR_eqv {p : Option Int} {n : Nat} {Ms Ms' : List (Nat → Nat → Int)} (m : MsEqv p n Ms Ms') : ∀ {r r' : Nat → Int}, (∀ i, i < n → Eqv p (r i) (r' i)) → ∀ i, i < n → Eqv p (ledR p n r Ms i) (led n r' Ms' i) := by
  induction m with
  | nil => exact fun h => h
  | cons k _ ih => exact fun h => ih fun j hj => (Eqv.of_rest p _).trans (fv_eqv h k j hj)
/-- the number at a text: with rests on the way, or at the end alone -/
theorem num_rest {p : Option Int} {n : Nat} {Ms Ms' : List (Nat → Nat → Int)} (m : MsEqv p n Ms Ms') {r r' c c' : Nat → Int} (h : ∀ i, i < n → Eqv p (r i) (r' i)) (k : ∀ i, i < n → Eqv p (c i) (c' i)) : rest p (dt n (ledR p n r Ms) c) = rest p (num n r' Ms' c') :=
  dt_eqv (ledR_eqv m h) k
/-! ### lists -/
/-- a list as a function -/
def fn (l : List Int) : Nat → Int := fun i => l.getD i 0
def sq (A : List (List Int)) : Nat → Nat → Int := fun i j => (A.getD i []).getD j 0
def dotL (a b : List Int) : Int := (List.zipWith (· * ·) a b).sum
theorem S_shift : ∀ (n : Nat) (f : Nat → Int), S (n + 1) f = f 0 + S n (fun i => f (i + 1))
  | 0, f => by
    show 0 + f 0 = f 0 + 0
    omega
  | n + 1, f => by
    show S (n + 1) f + f (n + 1) = f 0 + (S n _ + f (n + 1))
    rw [S_shift n f]
    omega
theorem dot_fn : ∀ {a b : List Int}, a.length = b.length → dotL a b = dt a.length (fn a) (fn b)
  | [], [], _ => rfl
  | x :: a, y :: b, h => by
    have ih := dot_fn (a := a) (b := b) (Nat.succ.inj h)
    show (List.zipWith _ (x :: a) (y :: b)).sum = S (a.length + 1) _
    rw [S_shift, List.zipWith_cons_cons, List.sum_cons]
    exact congrArg (x * y + ·) ih
  | [], _ :: _, h => nomatch h
  | _ :: _, [], h => nomatch h
/-- a square of n rows of n numbers -/
structure Sq (n : Nat) (A : List (List Int)) : Prop where
  len : A.length = n
  row : ∀ r ∈ A, r.length = n
/-- turned: the columns as rows -/
def turned (n : Nat) (A : List (List Int)) : List (List Int) := (List.range n).map fun j => A.map fun r => r.getD j 0
theorem turned_sq {n : Nat} {A : List (List Int)} (h : Sq n A) : Sq n (turned n A) := ⟨by unfold turned; rw [List.length_map, List.length_range], fun r hr => by
  obtain ⟨j, _, rfl⟩ := List.mem_map.mp hr
  rw [List.length_map, h.len]⟩
theorem turned_at {n i j : Nat} {A : List (List Int)} (h : Sq n A) (hi : i < n) (hj : j < n) : sq (turned n A) i j = sq A j i := by
  have hA : j < A.length := by rw [h.len]; exact hj
  have e : (turned n A).getD i [] = A.map fun r => r.getD i 0 := by
    unfold turned
    rw [List.getD_eq_getElem?_getD, List.getElem?_map, List.getElem?_range hi]
    rfl
  unfold sq
  rw [e, List.getD_eq_getElem?_getD, List.getElem?_map, List.getElem?_eq_getElem hA]
  rw [List.getD_eq_getElem?_getD (l := A), List.getElem?_eq_getElem hA]
  rfl
/-- a row times the columns, as a list -/
def vmL (n : Nat) (r : List Int) (A : List (List Int)) : List Int := (turned n A).map (dotL r)
theorem vm_fn {n : Nat} {r : List Int} {A : List (List Int)} (hr : r.length = n) (hA : Sq n A) : (vmL n r A).length = n ∧ ∀ j, j < n → fn (vmL n r A) j = fv n (fn r) (sq A) j := by
  refine ⟨by unfold vmL; rw [List.length_map, (turned_sq hA).len], fun j hj => ?_⟩
  have e : fn (vmL n r A) j = dotL r (A.map fun r => r.getD j 0) := by
    unfold fn vmL turned
    rw [List.map_map, List.getD_eq_getElem?_getD, List.getElem?_map, List.getElem?_range hj]
    rfl
  rw [e, dot_fn (by rw [List.length_map, hA.len, hr]), hr]
  refine S_congr fun i hi => ?_
  have hA2 : i < A.length := by rw [hA.len]; exact hi
  show fn r i * fn (A.map fun r => r.getD j 0) i = fn r i * sq A i j
  congr 1
  unfold fn sq
  rw [List.getD_eq_getElem?_getD, List.getElem?_map, List.getElem?_eq_getElem hA2, List.getD_eq_getElem?_getD, List.getD_eq_getElem?_getD, List.getElem?_eq_getElem hA2]
  rfl
theorem fn_app {a b : List Int} : ∀ i, fn (a ++ b) i = cat a.length (fn a) (fn b) i := fun i => by
  unfold fn cat
  rw [List.getD_eq_getElem?_getD]
  by_cases h : i < a.length
  · rw [List.getElem?_append_left h, if_pos h]
    exact (List.getD_eq_getElem?_getD ..).symm
  · rw [List.getElem?_append_right (by omega), if_neg h]
    exact (List.getD_eq_getElem?_getD ..).symm
theorem fn_zeros (n i : Nat) : fn (List.replicate n 0) i = 0 := by
  unfold fn
  rw [List.getD_eq_getElem?_getD, List.getElem?_replicate]
  split <;> rfl
/-- two squares side by side -/
def joinL (A B : List (List Int)) : List (List Int) := A.map (fun r => r ++ List.replicate B.length 0) ++ B.map (fun r => List.replicate A.length 0 ++ r)
theorem join_sq {n m : Nat} {A B : List (List Int)} (hA : Sq n A) (hB : Sq m B) : Sq (n + m) (joinL A B) := ⟨by unfold joinL; rw [List.length_append, List.length_map, List.length_map, hA.len, hB.len], fun r hr => by
  rcases List.mem_append.mp hr with hr | hr
  · obtain ⟨s, hs, rfl⟩ := List.mem_map.mp hr
    rw [List.length_append, List.length_replicate, hA.row s hs, hB.len]
  · obtain ⟨s, hs, rfl⟩ := List.mem_map.mp hr
    rw [List.length_append, List.length_replicate, hB.row s hs, hA.len]⟩
theorem join_at {n m : Nat} {A B : List (List Int)} (hA : Sq n A) (hB : Sq m B) (i j : Nat) (hi : i < n + m) : sq (joinL A B) i j = blk n (sq A) (sq B) i j := by
  unfold blk
  by_cases h : i < n
  · rw [if_pos h]
    have hA2 : i < A.length := by rw [hA.len]; exact h
    have e : (joinL A B).getD i [] = A[i] ++ List.replicate B.length 0 := by
      unfold joinL
      rw [List.getD_eq_getElem?_getD, List.getElem?_append_left (by rw [List.length_map]; exact hA2), List.getElem?_map, List.getElem?_eq_getElem hA2]
      rfl
    have e2 : A.getD i [] = A[i] := by rw [List.getD_eq_getElem?_getD, List.getElem?_eq_getElem hA2]; rfl
    have el : A[i].length = n := hA.row _ (List.getElem_mem hA2)
    show fn ((joinL A B).getD i []) j = _
    rw [e, fn_app, el]
    unfold cat
    by_cases hj : j < n
    · rw [if_pos hj, if_pos hj]
      show fn A[i] j = fn (A.getD i []) j
      rw [e2]
    · rw [if_neg hj, if_neg hj, fn_zeros]
  · rw [if_neg h]
    have hB2 : i - n < B.length := by rw [hB.len]; omega
    have e : (joinL A B).getD i [] = List.replicate A.length 0 ++ B[i - n] := by
      unfold joinL
      rw [List.getD_eq_getElem?_getD, List.getElem?_append_right (by rw [List.length_map, hA.len]; omega), List.length_map, hA.len, List.getElem?_map, List.getElem?_eq_getElem hB2]
      rfl
    have e2 : B.getD (i - n) [] = B[i - n] := by rw [List.getD_eq_getElem?_getD, List.getElem?_eq_getElem hB2]; rfl
    show fn ((joinL A B).getD i []) j = _
    rw [e, fn_app, List.length_replicate, hA.len]
    unfold cat
    by_cases hj : j < n
    · rw [if_pos hj, if_pos hj, fn_zeros]
    · rw [if_neg hj, if_neg hj]
      show fn B[i - n] (j - n) = fn (B.getD (i - n) []) (j - n)
      rw [e2]
/-- each of one with each of the other -/
def each {α β γ : Type} (f : α → β → γ) (a : List α) (b : List β) : List γ := (a.map fun x => b.map fun y => f x y).flatten
theorem each_len {α β γ : Type} {f : α → β → γ} {a : List α} {b : List β} : (each f a b).length = a.length * b.length := by
  unfold each
  induction a with
  | nil => simp
  | cons x a ih => rw [List.map_cons, List.flatten_cons, List.length_append, ih, List.length_map, List.length_cons, Nat.succ_mul, Nat.add_comm]
theorem each_at {α β γ : Type} {f : α → β → γ} {b : List β} : ∀ {a : List α} {i : Nat} (h : i < a.length * b.length), (each f a b)[i]? = some (f (a[i / b.length]'(Nat.div_lt_of_lt_mul (by rw [Nat.mul_comm]; exact h))) (b[i % b.length]'(Nat.mod_lt _ (by
    rcases Nat.eq_zero_or_pos b.length with e | e
    · rw [e, Nat.mul_zero] at h; omega
    · exact e))))
  | [], i, h => by simp at h
  | x :: a, i, h => by
    have hb : 0 < b.length := by
      rcases Nat.eq_zero_or_pos b.length with e | e
      · rw [e, Nat.mul_zero] at h; omega
      · exact e
    show (b.map (fun y => f x y) ++ each f a b)[i]? = _
    by_cases hi : i < b.length
    · rw [List.getElem?_append_left (by rw [List.length_map]; exact hi), List.getElem?_map, List.getElem?_eq_getElem hi]
      have e1 : i / b.length = 0 := Nat.div_eq_of_lt hi
      have e2 : i % b.length = i := Nat.mod_eq_of_lt hi
      simp [e1, e2]
    · rw [List.getElem?_append_right (by rw [List.length_map]; omega), List.length_map]
      rw [List.length_cons, Nat.succ_mul] at h
      rw [each_at (a := a) (i := i - b.length) (by omega)]
      have e1 : i / b.length = (i - b.length) / b.length + 1 := by rw [Nat.div_eq i b.length, if_pos ⟨hb, by omega⟩]
      have e2 : i % b.length = (i - b.length) % b.length := (Nat.mod_eq_sub_mod (by omega))
      simp [e1, e2]
/-- a row crossed with a row -/
def crossR (a b : List Int) : List Int := each (· * ·) a b
theorem crossR_fn {a b : List Int} {i : Nat} (h : i < a.length * b.length) : fn (crossR a b) i = prd b.length (fn a) (fn b) i := by
  have hb : 0 < b.length := by
    rcases Nat.eq_zero_or_pos b.length with e | e
    · rw [e, Nat.mul_zero] at h; omega
    · exact e
  have h1 : i / b.length < a.length := Nat.div_lt_of_lt_mul (by rw [Nat.mul_comm]; exact h)
  have h2 : i % b.length < b.length := Nat.mod_lt _ hb
  show (crossR a b).getD i 0 = a.getD (i / b.length) 0 * b.getD (i % b.length) 0
  unfold crossR
  rw [List.getD_eq_getElem?_getD, each_at h, List.getD_eq_getElem?_getD, List.getD_eq_getElem?_getD, List.getElem?_eq_getElem h1, List.getElem?_eq_getElem h2]
  rfl
/-- a square crossed with a square -/
def crossL (A B : List (List Int)) : List (List Int) := each crossR A B
theorem cross_sq {n m : Nat} {A B : List (List Int)} (hA : Sq n A) (hB : Sq m B) : Sq (n * m) (crossL A B) := ⟨by unfold crossL; rw [each_len, hA.len, hB.len], fun r hr => by
  obtain ⟨l, hl, hr⟩ := List.mem_flatten.mp hr
  obtain ⟨x, hx, rfl⟩ := List.mem_map.mp hl
  obtain ⟨y, hy, rfl⟩ := List.mem_map.mp hr
  show (each _ x y).length = _
  rw [each_len, hA.row x hx, hB.row y hy]⟩
theorem cross_at {n m : Nat} {A B : List (List Int)} (hA : Sq n A) (hB : Sq m B) (i j : Nat) (hi : i < n * m) (hj : j < n * m) : sq (crossL A B) i j = kro m (sq A) (sq B) i j := by
  have hm : 0 < m := by
    rcases Nat.eq_zero_or_pos m with e | e
    · rw [e, Nat.mul_zero] at hi; omega
    · exact e
  have h : i < A.length * B.length := by rw [hA.len, hB.len]; exact hi
  have h1 : i / m < A.length := by rw [hA.len]; exact Nat.div_lt_of_lt_mul (by rw [Nat.mul_comm]; exact hi)
  have h2 : i % m < B.length := by rw [hB.len]; exact Nat.mod_lt _ hm
  have e : (crossL A B).getD i [] = crossR A[i / m] B[i % m] := by
    unfold crossL
    rw [List.getD_eq_getElem?_getD, each_at h]
    simp [hB.len]
  have l1 : A[i / m].length = n := hA.row _ (List.getElem_mem h1)
  have l2 : B[i % m].length = m := hB.row _ (List.getElem_mem h2)
  have a1 : A.getD (i / m) [] = A[i / m] := by rw [List.getD_eq_getElem?_getD, List.getElem?_eq_getElem h1]; rfl
  have b1 : B.getD (i % m) [] = B[i % m] := by rw [List.getD_eq_getElem?_getD, List.getElem?_eq_getElem h2]; rfl
  show fn ((crossL A B).getD i []) j = (A.getD (i / m) []).getD (j / m) 0 * (B.getD (i % m) []).getD (j % m) 0
  rw [e, crossR_fn (by rw [l1, l2]; exact hj), l2, a1, b1]
  rfl
end Ty

set_option linter.all false
/-! TalW: core Lean alone. Selections with signs, squares with a number added on the line from corner to corner -/
namespace Ty
abbrev Pk := List Nat × Nat
def pstep (F : List Pk) (c : Nat) : List Pk := F.map (fun s => (s.1 ++ [c], s.2)) ++ F.map fun s => (s.1, s.2 + 1)
def picks (l : List Nat) : List Pk := l.foldl pstep [([], 0)]
theorem picks_snoc (l : List Nat) (c : Nat) : picks (l ++ [c]) = pstep (picks l) c := by
  unfold picks
  rw [List.foldl_append]
  rfl
/-- the sum over selections -/
def psum (k : Int) (F : List Pk) (g : List Nat → Int) : Int := (F.map fun s => k ^ s.2 * g s.1).sum
theorem psum_app (k : Int) (F G : List Pk) (g : List Nat → Int) : psum k (F ++ G) g = psum k F g + psum k G g := by
  unfold psum
  rw [List.map_append, List.sum_append]
theorem psum_step (k : Int) (F : List Pk) (c : Nat) (g : List Nat → Int) : psum k (pstep F c) g = psum k F (fun s => g (s ++ [c])) + k * psum k F g := by
  unfold pstep
  rw [psum_app]
  congr 1
  · unfold psum
    rw [List.map_map]
    rfl
  · unfold psum
    rw [List.map_map]
    induction F with
    | nil => exact (Int.mul_zero k).symm
    | cons s F ih =>
      rw [List.map_cons, List.map_cons, List.sum_cons, List.sum_cons, ih, Int.mul_add]
      congr 1
      show k ^ (s.2 + 1) * g s.1 = k * (k ^ s.2 * g s.1)
      rw [Int.pow_succ, Int.mul_comm (k ^ s.2) k, Int.mul_assoc]
theorem psum_S (k : Int) (n : Nat) (f : List Nat → Nat → Int) : ∀ F : List Pk, S n (fun i => psum k F fun s => f s i) = psum k F fun s => S n (f s)
  | [] => S_zero n
  | s :: F => by
    have e : S n (fun i => psum k (s :: F) fun s => f s i) = S n (fun i => k ^ s.2 * f s.1 i + psum k F fun s => f s i) := rfl
    rw [e, S_add, S_mulL, psum_S k n f F]
    rfl
theorem psum_mulR (k x : Int) (g : List Nat → Int) : ∀ F : List Pk, (psum k F g) * x = psum k F fun s => g s * x
  | [] => Int.zero_mul x
  | s :: F => by
    have e : psum k (s :: F) g = k ^ s.2 * g s.1 + psum k F g := rfl
    have e2 : psum k (s :: F) (fun s => g s * x) = k ^ s.2 * (g s.1 * x) + psum k F fun s => g s * x := rfl
    rw [e, e2, Int.add_mul, psum_mulR k x g F, Int.mul_assoc]
/-- k added from corner to corner -/
def rais (k : Int) (M : Nat → Nat → Int) : Nat → Nat → Int := fun i j => M i j + if j = i then k else 0
theorem S_delta (k : Int) (r : Nat → Int) (j : Nat) : ∀ n : Nat, S n (fun i => r i * if j = i then k else 0) = if j < n then k * r j else 0
  | 0 => rfl
  | n + 1 => by
    show S n _ + r n * (if j = n then k else 0) = _
    rw [S_delta k r j n]
    by_cases h : j < n
    · rw [if_pos h, if_neg (show ¬ j = n by omega), if_pos (show j < n + 1 by omega), Int.mul_zero, Int.add_zero]
    · rw [if_neg h]
      by_cases h2 : j = n
      · rw [if_pos h2, if_pos (show j < n + 1 by omega), h2, Int.zero_add, Int.mul_comm]
      · rw [if_neg h2, if_neg (show ¬ j < n + 1 by omega), Int.mul_zero, Int.add_zero]
theorem fv_rais (k : Int) (n : Nat) (r : Nat → Int) (M : Nat → Nat → Int) {j : Nat} (h : j < n) : fv n r (rais k M) j = fv n r M j + k * r j := by
  show S n (fun i => r i * (M i j + if j = i then k else 0)) = _
  have e : S n (fun i => r i * (M i j + if j = i then k else 0)) = S n (fun i => r i * M i j + r i * if j = i then k else 0) := S_congr fun i _ => Int.mul_add ..
  rw [e, S_add, S_delta, if_pos h]
  rfl
theorem led_rais (k : Int) (n : Nat) (r0 : Nat → Int) (M : Nat → Nat → Nat → Int) : ∀ (l : List Nat) (F : List Pk) (r : Nat → Int), (∀ j, j < n → r j = psum k F fun s => led n r0 (s.map M) j) →
    ∀ j, j < n → led n r (l.map fun c => rais k (M c)) j = psum k (l.foldl pstep F) fun s => led n r0 (s.map M) j
  | [], F, r, h => h
  | c :: l, F, r, h => by
    refine led_rais k n r0 M l (pstep F c) (fv n r (rais k (M c))) fun j hj => ?_
    rw [fv_rais k n r (M c) hj, psum_step, ← h j hj]
    congr 1
    have e : fv n r (M c) j = S n (fun i => psum k F fun s => led n r0 (s.map M) i * M c i j) := S_congr fun i hi => by rw [h i hi, psum_mulR]
    rw [e, psum_S]
    have e2 : (fun s : List Nat => S n fun i => led n r0 (s.map M) i * M c i j) = fun s => led n r0 ((s ++ [c]).map M) j := funext fun s => by
      rw [List.map_append, led_app]
      rfl
    rw [e2]
/-- the number by raised squares is the sum over selections -/
theorem num_rais (k : Int) (n : Nat) (r c : Nat → Int) (M : Nat → Nat → Nat → Int) (l : List Nat) : num n r (l.map fun x => rais k (M x)) c = psum k (picks l) fun s => num n r (s.map M) c := by
  have h := led_rais k n r M l [([], 0)] r fun j _ => by
    show r j = k ^ 0 * r j + 0
    rw [Int.pow_zero, Int.one_mul, Int.add_zero]
  show S n (fun i => led n r _ i * c i) = psum k (picks l) fun s => S n (fun i => led n r (s.map M) i * c i)
  rw [← psum_S]
  refine S_congr fun i hi => ?_
  rw [h i hi, psum_mulR]
  rfl
theorem num_eqv {p : Option Int} {n : Nat} {Ms Ms' : List (Nat → Nat → Int)} (m : MsEqv p n Ms Ms') (r c : Nat → Int) : Eqv p (num n r Ms c) (num n r Ms' c) :=
  dt_eqv (led_eqv m fun _ _ => rfl) fun _ _ => rfl
theorem psum_eqv {p : Option Int} {k : Int} {g g' : List Nat → Int} : ∀ {F : List Pk}, (∀ s ∈ F, Eqv p (g s.1) (g' s.1)) → Eqv p (psum k F g) (psum k F g')
  | [], _ => rfl
  | s :: F, h => Eqv.add (Eqv.mul (Eqv.refl p _) (h s List.mem_cons_self)) (psum_eqv fun x hx => h x (List.mem_cons_of_mem _ hx))
/-- the letters of a selection -/
theorem foldl_sub : ∀ {n0 : Nat} {A : List Nat} {F : List Pk} {l : List Nat} {s : Pk}, s ∈ l.foldl pstep F → (∀ t ∈ F, t.1.length ≤ n0 ∧ ∀ c ∈ t.1, c ∈ A) → s.1.length ≤ n0 + l.length ∧ ∀ c ∈ s.1, c ∈ A ∨ c ∈ l
  | _, _, _, [], s, h, hF => ⟨(hF s h).1, fun c hc => .inl ((hF s h).2 c hc)⟩
  | n0, A, F, x :: l, s, h, hF => by
    have := foldl_sub (n0 := n0 + 1) (A := x :: A) (F := pstep F x) (l := l) (s := s) h fun t ht => by
      rcases List.mem_append.mp ht with ht | ht
      · obtain ⟨u, hu, rfl⟩ := List.mem_map.mp ht
        have := hF u hu
        refine ⟨by rw [List.length_append, List.length_singleton]; omega, fun c hc => ?_⟩
        rcases List.mem_append.mp hc with hc | hc
        · exact List.mem_cons_of_mem _ (this.2 c hc)
        · rw [List.mem_singleton.mp hc]
          exact List.mem_cons_self
      · obtain ⟨u, hu, rfl⟩ := List.mem_map.mp ht
        have := hF u hu
        exact ⟨by show u.1.length ≤ n0 + 1; omega, fun c hc => List.mem_cons_of_mem _ (this.2 c hc)⟩
    refine ⟨by rw [List.length_cons]; omega, fun c hc => ?_⟩
    rcases this.2 c hc with z | z
    · rcases List.mem_cons.mp z with rfl | z
      · exact .inr List.mem_cons_self
      · exact .inl z
    · exact .inr (List.mem_cons_of_mem _ z)
theorem picks_sub {l : List Nat} {s : Pk} (h : s ∈ picks l) : s.1.length ≤ l.length ∧ ∀ c ∈ s.1, c ∈ l := by
  have := foldl_sub (n0 := 0) (A := []) (F := [([], 0)]) h fun t ht => by
    rw [List.mem_singleton.mp ht]
    exact ⟨Nat.le_refl _, nofun⟩
  exact ⟨by omega, fun c hc => (this.2 c hc).resolve_left nofun⟩
theorem foldl_len : ∀ (l : List Nat) (F : List Pk), (l.foldl pstep F).length = F.length * 2 ^ l.length
  | [], F => (Nat.mul_one _).symm
  | x :: l, F => by
    show (l.foldl pstep (pstep F x)).length = _
    rw [foldl_len l]
    unfold pstep
    rw [List.length_append, List.length_map, List.length_map, List.length_cons, Nat.pow_succ, ← Nat.mul_two, Nat.mul_assoc, Nat.mul_comm 2]
theorem picks_len (l : List Nat) : (picks l).length = 2 ^ l.length := by
  unfold picks
  rw [foldl_len, List.length_singleton, Nat.one_mul]
/-! ### how often a text is a selection -/
def cnt (y : List Nat) (F : List Pk) : Nat := (F.map (·.1)).count y
theorem cnt_app {y : List Nat} {c : Nat} (d : Nat) (F : List Pk) : ((F.map fun s => s.1 ++ [c])).count (y ++ [d]) = if d = c then cnt y F else 0 := by
  unfold cnt
  induction F with
  | nil => simp
  | cons s F ih =>
    rw [List.map_cons, List.count_cons, ih, List.map_cons, List.count_cons]
    by_cases h : d = c
    · subst h
      simp
    · rw [if_neg h, if_neg h]
      have : ¬ s.1 ++ [c] = y ++ [d] := fun e => h (by
        have := List.append_inj_right' e rfl
        injection this with q _
        exact q.symm)
      simp [this]
      exact fun _ e => h e.symm
theorem cnt_step (y : List Nat) (d c : Nat) (F : List Pk) : cnt (y ++ [d]) (pstep F c) = cnt (y ++ [d]) F + if d = c then cnt y F else 0 := by
  unfold pstep
  show ((F.map _ ++ F.map _).map _).count _ = _
  rw [List.map_append, List.map_map, List.map_map, List.count_append, Nat.add_comm]
  congr 1
  exact cnt_app d F
theorem cnt_nil_step (c : Nat) (F : List Pk) : cnt [] (pstep F c) = cnt [] F := by
  unfold pstep
  show ((F.map _ ++ F.map _).map _).count _ = _
  rw [List.map_append, List.map_map, List.map_map, List.count_append]
  have : (F.map ((fun x : Pk => x.1) ∘ fun s => (s.1 ++ [c], s.2))).count [] = 0 := List.count_eq_zero.mpr fun h => by
    obtain ⟨s, _, e⟩ := List.mem_map.mp h
    simp at e
  rw [this, Nat.zero_add]
  rfl
theorem cnt_nil_fold : ∀ (l : List Nat) (F : List Pk), cnt [] (l.foldl pstep F) = cnt [] F
  | [], _ => rfl
  | c :: l, F => (cnt_nil_fold l (pstep F c)).trans (cnt_nil_step c F)
theorem cnt_nil (l : List Nat) : cnt [] (picks l) = 1 := cnt_nil_fold l _
theorem neg_pow (o : Nat) : (-1 : Int) ^ o = if o % 2 = 0 then 1 else -1 := by
  induction o with
  | zero => rfl
  | succ o ih =>
    rw [Int.pow_succ, ih]
    rcases Nat.mod_two_eq_zero_or_one o with h | h
    · rw [if_pos h, if_neg (show ¬ (o + 1) % 2 = 0 by omega)]
      rfl
    · rw [if_neg (show ¬ o % 2 = 0 by omega), if_pos (show (o + 1) % 2 = 0 by omega)]
      rfl
/-- the row of how often the beginnings of b are selections -/
def crow (b : List Nat) (F : List Pk) : List Int := (List.range (b.length + 1)).map fun j => (cnt (b.take j) F : Int)
theorem crow_nil (b : List Nat) : crow b [([], 0)] = 1 :: List.replicate b.length 0 := by
  unfold crow
  rw [List.range_succ_eq_map, List.map_cons, List.map_map]
  congr 1
  refine List.ext_getElem (by simp) fun i h1 h2 => ?_
  simp only [List.getElem_map, List.getElem_range, List.getElem_replicate, Function.comp]
  have hi : i < b.length := by
    simp only [List.length_map, List.length_range] at h1
    exact h1
  show ((cnt (b.take (i + 1)) [([], 0)] : Nat) : Int) = 0
  unfold cnt
  rw [List.map_singleton, List.count_singleton]
  have : ¬ b.take (i + 1) = [] := fun e => by
    have := congrArg List.length e
    rw [List.length_take] at this
    rw [List.length_nil] at this
    omega
  simp [this, Ne.symm this]
theorem crow_step (b : List Nat) (c : Nat) (F : List Pk) (j : Nat) (h : j < b.length) : (cnt (b.take (j + 1)) (pstep F c) : Int) = (crow b F).getD (j + 1) 0 + (crow b F).getD j 0 * (if b[j] = c then 1 else 0) := by
  have e : b.take (j + 1) = b.take j ++ [b[j]] := (List.take_append_getElem h).symm
  have g : ∀ i, i ≤ b.length → (crow b F).getD i 0 = (cnt (b.take i) F : Int) := fun i hi => by
    unfold crow
    rw [List.getD_eq_getElem?_getD, List.getElem?_map, List.getElem?_range (by omega)]
    rfl
  rw [g (j + 1) (by omega), g j (by omega), e, cnt_step]
  split <;> simp
theorem group {f : List Nat → Int} : ∀ {L D : List (List Nat)}, D.Nodup → (∀ x ∈ L, x ∈ D) → (L.map f).sum = (D.map fun y => f y * (L.count y : Int)).sum
  | [], D, _, _ => by
    have : ∀ D : List (List Nat), (D.map fun y => f y * (([] : List (List Nat)).count y : Int)).sum = 0 := fun D => by
      induction D with
      | nil => rfl
      | cons y D ih =>
        rw [List.map_cons, List.sum_cons, ih]
        simp
    exact (this D).symm
  | x :: L, D, nd, h => by
    rw [List.map_cons, List.sum_cons, group (L := L) nd fun y hy => h y (List.mem_cons_of_mem _ hy)]
    have hx := h x List.mem_cons_self
    have key : ∀ D : List (List Nat), D.Nodup → (D.map fun y => f y * (((x :: L).count y : Nat) : Int)).sum = (if x ∈ D then f x else 0) + (D.map fun y => f y * (L.count y : Int)).sum := fun D => by
      induction D with
      | nil => intro _; rfl
      | cons y D ih =>
        intro nd
        rw [List.nodup_cons] at nd
        rw [List.map_cons, List.sum_cons, ih nd.2, List.map_cons, List.sum_cons, List.count_cons]
        by_cases e : x = y
        · subst e
          rw [if_neg nd.1, if_pos List.mem_cons_self]
          simp only [beq_self_eq_true, if_true]
          rw [Int.natCast_add, Int.mul_add]
          simp
          omega
        · have e2 : (x ∈ y :: D) ↔ x ∈ D := by
            rw [List.mem_cons]
            exact ⟨fun z => z.resolve_left e, .inr⟩
          simp only [e2]
          simp [e]
          omega
    rw [key D nd, if_pos hx]
theorem psum_one (F : List Pk) (g : List Nat → Int) : psum 1 F g = ((F.map (·.1)).map g).sum := by
  unfold psum
  rw [List.map_map]
  congr 1
  refine List.map_congr_left fun s _ => ?_
  show 1 ^ s.2 * g s.1 = g s.1
  rw [Int.one_pow, Int.one_mul]
end Ty

set_option linter.all false
/-! TalS: core Lean alone. Dicts from texts to numbers, selections with their numbers, weights and their sums -/
namespace Ty
abbrev SD := List (List Nat × Int)
def gtD (D : SD) (k : List Nat) : Int := ((D.find? fun s => decide (s.1 = k)).map (·.2)).getD 0
def ptD (D : SD) (k : List Nat) (v : Int) : SD := if D.any (fun s => decide (s.1 = k)) then D.map fun s => if s.1 = k then (s.1, v) else s else D ++ [(k, v)]
def adD (D : SD) (k : List Nat) (m : Int) : SD := ptD D k (gtD D k + m)
/-- the sum of f over a dict -/
def dsum (D : SD) (f : List Nat → Int) : Int := (D.map fun s => s.2 * f s.1).sum
theorem dsum_app (D E : SD) (f : List Nat → Int) : dsum (D ++ E) f = dsum D f + dsum E f := by
  unfold dsum
  rw [List.map_append, List.sum_append]
theorem ptD_keys (D : SD) (k : List Nat) (v : Int) : (ptD D k v).map (·.1) = if k ∈ D.map (·.1) then D.map (·.1) else D.map (·.1) ++ [k] := by
  unfold ptD
  by_cases h : k ∈ D.map (·.1)
  · have ha : (D.any fun s => decide (s.1 = k)) = true := by
      obtain ⟨s, hs, e⟩ := List.mem_map.mp h
      exact List.any_eq_true.mpr ⟨s, hs, decide_eq_true e⟩
    rw [if_pos ha, if_pos h, List.map_map]
    refine List.map_congr_left fun s _ => ?_
    show (if s.1 = k then (s.1, v) else s).1 = s.1
    split <;> rfl
  · have ha : (D.any fun s => decide (s.1 = k)) = false := by
      refine List.any_eq_false.mpr fun s hs => ?_
      rw [decide_eq_true_eq]
      exact fun e => h (List.mem_map.mpr ⟨s, hs, e⟩)
    rw [if_neg (by rw [ha]; decide), if_neg h, List.map_append]
    rfl
theorem ptD_nodup {D : SD} {k : List Nat} {v : Int} (h : (D.map (·.1)).Nodup) : ((ptD D k v).map (·.1)).Nodup := by
  rw [ptD_keys]
  by_cases hk : k ∈ D.map (·.1)
  · rw [if_pos hk]
    exact h
  · rw [if_neg hk]
    refine List.nodup_append.mpr ⟨h, by simp, fun a ha b hb => ?_⟩
    rw [List.mem_singleton.mp hb]
    exact fun e => hk (by rw [← e]; exact ha)
theorem gtD_cons (s : List Nat × Int) (D : SD) (k : List Nat) : gtD (s :: D) k = if s.1 = k then s.2 else gtD D k := by
  unfold gtD
  rw [List.find?_cons]
  by_cases h : s.1 = k
  · rw [decide_eq_true h, if_pos h]
    rfl
  · rw [decide_eq_false h, if_neg h]
theorem gtD_none {D : SD} {k : List Nat} (h : k ∉ D.map (·.1)) : gtD D k = 0 := by
  induction D with
  | nil => rfl
  | cons s D ih =>
    rw [List.map_cons, List.mem_cons, not_or] at h
    rw [gtD_cons, if_neg (fun e => h.1 e.symm)]
    exact ih h.2
theorem dsum_put {D : SD} {k : List Nat} {v : Int} {f : List Nat → Int} (h : (D.map (·.1)).Nodup) : dsum (ptD D k v) f = dsum D f + (v - gtD D k) * f k := by
  induction D with
  | nil =>
    show v * f k + 0 = 0 + (v - 0) * f k
    rw [Int.sub_zero]
    omega
  | cons s D ih =>
    rw [List.map_cons, List.nodup_cons] at h
    by_cases e : s.1 = k
    · have e1 : ptD (s :: D) k v = (s.1, v) :: D := by
        unfold ptD
        have ha : ((s :: D).any fun s => decide (s.1 = k)) = true := List.any_eq_true.mpr ⟨s, List.mem_cons_self, decide_eq_true e⟩
        rw [if_pos ha, List.map_cons, if_pos e]
        congr 1
        have : ∀ t ∈ D, (if t.1 = k then (t.1, v) else t) = t := fun t ht => if_neg fun z => h.1 (List.mem_map.mpr ⟨t, ht, by rw [z, e]⟩)
        exact (List.map_congr_left this).trans (List.map_id D)
      rw [e1, gtD_cons, if_pos e]
      show v * f s.1 + dsum D f = s.2 * f s.1 + dsum D f + (v - s.2) * f k
      rw [e, Int.sub_mul]
      omega
    · have e1 : ptD (s :: D) k v = s :: ptD D k v := by
        unfold ptD
        rw [List.any_cons, decide_eq_false e, Bool.false_or]
        split
        · rw [List.map_cons, if_neg e]
        · rfl
      rw [e1, gtD_cons, if_neg e]
      show s.2 * f s.1 + dsum (ptD D k v) f = s.2 * f s.1 + dsum D f + _
      rw [ih h.2]
      omega
theorem dsum_ad {D : SD} {k : List Nat} {m : Int} {f : List Nat → Int} (h : (D.map (·.1)).Nodup) : dsum (adD D k m) f = dsum D f + m * f k := by
  unfold adD
  rw [dsum_put h]
  congr 2
  omega
/-- one letter more -/
def selStep (F : SD) (c : Nat) : SD := F.foldl (fun L s => adD L (s.1 ++ [c]) s.2) F
def sels (l : List Nat) : SD := l.foldl selStep [([], 1)]
theorem fold_sum {c : Nat} {f : List Nat → Int} : ∀ {G L : SD}, (L.map (·.1)).Nodup → ((G.foldl (fun L s => adD L (s.1 ++ [c]) s.2) L).map (·.1)).Nodup ∧ dsum (G.foldl (fun L s => adD L (s.1 ++ [c]) s.2) L) f = dsum L f + dsum G fun s => f (s ++ [c])
  | [], L, h => ⟨h, by show _ = _ + (0 : Int); rw [Int.add_zero]; rfl⟩
  | s :: G, L, h => by
    have h2 : ((adD L (s.1 ++ [c]) s.2).map (·.1)).Nodup := ptD_nodup h
    obtain ⟨a, b⟩ := fold_sum (c := c) (f := f) (G := G) h2
    refine ⟨a, ?_⟩
    show dsum (G.foldl _ (adD L (s.1 ++ [c]) s.2)) f = dsum L f + (s.2 * f (s.1 ++ [c]) + dsum G fun s => f (s ++ [c]))
    rw [b, dsum_ad h]
    omega
theorem sel_sum {f : List Nat → Int} : ∀ (l : List Nat) {D : SD} {F : List Pk}, (D.map (·.1)).Nodup → (∀ f, dsum D f = psum 1 F f) → ((l.foldl selStep D).map (·.1)).Nodup ∧ dsum (l.foldl selStep D) f = psum 1 (l.foldl pstep F) f
  | [], _, _, h, k => ⟨h, k f⟩
  | c :: l, D, F, h, k => by
    have q := fun f => fold_sum (c := c) (f := f) (G := D) h
    exact sel_sum l (D := selStep D c) (F := pstep F c) (q f).1 fun f => by
      rw [psum_step, Int.one_mul, ← k f, ← k]
      have := (q f).2
      show dsum (D.foldl _ D) f = _
      rw [this, Int.add_comm]
theorem sels_sum (l : List Nat) (f : List Nat → Int) : dsum (sels l) f = psum 1 (picks l) f :=
  (sel_sum (f := f) l (D := [([], 1)]) (F := [([], 0)]) (by simp) fun f => rfl).2
theorem sels_nodup (l : List Nat) : ((sels l).map (·.1)).Nodup :=
  (sel_sum (f := fun _ => 0) l (D := [([], 1)]) (F := [([], 0)]) (by simp) fun f => rfl).1
/-- what is dropped -/
theorem fold_out {n : Nat} : ∀ {l : List Nat} {F : List Pk}, (∀ t ∈ F, t.1.length + t.2 = n) → ∀ s ∈ l.foldl pstep F, s.1.length + s.2 = n + l.length
  | [], _, h, s, hs => h s hs
  | c :: l, F, h, s, hs => by
    have := fold_out (n := n + 1) (l := l) (F := pstep F c) (fun t ht => by
      rcases List.mem_append.mp ht with ht | ht
      · obtain ⟨u, hu, rfl⟩ := List.mem_map.mp ht
        have := h u hu
        show (u.1 ++ [c]).length + u.2 = n + 1
        rw [List.length_append, List.length_singleton]
        omega
      · obtain ⟨u, hu, rfl⟩ := List.mem_map.mp ht
        have := h u hu
        show u.1.length + (u.2 + 1) = n + 1
        omega) s hs
    rw [List.length_cons]
    omega
theorem picks_out {l : List Nat} {s : Pk} (h : s ∈ picks l) : s.1.length + s.2 = l.length := by
  have := fold_out (n := 0) (l := l) (F := [([], 0)]) (fun t ht => by rw [List.mem_singleton.mp ht]; rfl) s h
  omega
theorem psum_congr {k j : Int} {g f : List Nat → Int} : ∀ {F : List Pk}, (∀ s ∈ F, k ^ s.2 * g s.1 = j ^ s.2 * f s.1) → psum k F g = psum j F f
  | [], _ => rfl
  | s :: F, h => by
    have e1 : psum k (s :: F) g = k ^ s.2 * g s.1 + psum k F g := rfl
    have e2 : psum j (s :: F) f = j ^ s.2 * f s.1 + psum j F f := rfl
    rw [e1, e2, h s List.mem_cons_self, psum_congr fun x hx => h x (List.mem_cons_of_mem _ hx)]
/-- the alternating sum over selections with their numbers -/
theorem sels_weight (l : List Nat) (f : List Nat → Int) : dsum (sels l) (fun s => (if (l.length - s.length) % 2 = 0 then 1 else -1) * f s) = psum (-1) (picks l) f := by
  rw [sels_sum]
  refine psum_congr fun s hs => ?_
  have := picks_out hs
  rw [Int.one_pow, Int.one_mul, neg_pow]
  rw [show l.length - s.1.length = s.2 by omega]
/-- weights of sums, sums of weights -/
def wt (f : List Nat → Int) (l : List Nat) : Int := psum (-1) (picks l) f
def sm1 (f : List Nat → Int) (l : List Nat) : Int := psum 1 (picks l) f
theorem psum_sub (k : Int) (f g : List Nat → Int) : ∀ F : List Pk, psum k F (fun s => f s - g s) = psum k F f - psum k F g
  | [] => rfl
  | s :: F => by
    have e : ∀ f : List Nat → Int, psum k (s :: F) f = k ^ s.2 * f s.1 + psum k F f := fun _ => rfl
    rw [e, e, e, psum_sub k f g F, Int.mul_sub]
    omega
theorem psum_add (k : Int) (f g : List Nat → Int) : ∀ F : List Pk, psum k F (fun s => f s + g s) = psum k F f + psum k F g
  | [] => rfl
  | s :: F => by
    have e : ∀ f : List Nat → Int, psum k (s :: F) f = k ^ s.2 * f s.1 + psum k F f := fun _ => rfl
    rw [e, e, e, psum_add k f g F, Int.mul_add]
    omega
theorem psum_snoc (k : Int) (l : List Nat) (c : Nat) (f : List Nat → Int) : psum k (picks (l ++ [c])) f = psum k (picks l) (fun s => f (s ++ [c])) + k * psum k (picks l) f := by
  rw [picks_snoc, psum_step]
theorem wt_snoc (f : List Nat → Int) (l : List Nat) (c : Nat) : wt f (l ++ [c]) = wt (fun s => f (s ++ [c])) l - wt f l := by
  unfold wt
  rw [psum_snoc]
  omega
theorem sm_snoc (f : List Nat → Int) (l : List Nat) (c : Nat) : sm1 f (l ++ [c]) = sm1 (fun s => f (s ++ [c])) l + sm1 f l := by
  unfold sm1
  rw [psum_snoc]
  omega
theorem rev_ind {P : List Nat → Prop} (h0 : P []) (h1 : ∀ l c, P l → P (l ++ [c])) (l : List Nat) : P l := by
  have : ∀ r : List Nat, P r.reverse := fun r => by
    induction r with
    | nil => exact h0
    | cons c r ih =>
      rw [List.reverse_cons]
      exact h1 _ c ih
  have q := this l.reverse
  rw [List.reverse_reverse] at q
  exact q
theorem sm_wt (l : List Nat) : ∀ f : List Nat → Int, sm1 (wt f) l = f l := by
  refine rev_ind (P := fun l => ∀ f : List Nat → Int, sm1 (wt f) l = f l) (fun f => ?_) (fun l c ih f => ?_) l
  · show (1 : Int) ^ 0 * ((-1 : Int) ^ 0 * f [] + 0) + 0 = f []
    simp
  · rw [sm_snoc, ih f]
    have e : (fun s => wt f (s ++ [c])) = fun s => wt (fun s => f (s ++ [c])) s - wt f s := funext fun s => wt_snoc f s c
    rw [e]
    have := psum_sub 1 (wt fun s => f (s ++ [c])) (wt f) (picks l)
    show psum 1 (picks l) _ + _ = _
    rw [this]
    have i1 := ih fun s => f (s ++ [c])
    have i2 := ih f
    unfold sm1 at i1 i2
    rw [i1, i2]
    omega
theorem wt_sm (l : List Nat) : ∀ f : List Nat → Int, wt (sm1 f) l = f l := by
  refine rev_ind (P := fun l => ∀ f : List Nat → Int, wt (sm1 f) l = f l) (fun f => ?_) (fun l c ih f => ?_) l
  · show (-1 : Int) ^ 0 * ((1 : Int) ^ 0 * f [] + 0) + 0 = f []
    simp
  · rw [wt_snoc, ih f]
    have e : (fun s => sm1 f (s ++ [c])) = fun s => sm1 (fun s => f (s ++ [c])) s + sm1 f s := funext fun s => sm_snoc f s c
    rw [e]
    have := psum_add (-1) (sm1 fun s => f (s ++ [c])) (sm1 f) (picks l)
    show psum (-1) (picks l) _ - _ = _
    rw [this]
    have i1 := ih fun s => f (s ++ [c])
    have i2 := ih f
    unfold wt at i1 i2
    rw [i1, i2]
    omega
end Ty

set_option Elab.async false
set_option linter.all false
set_option maxRecDepth 100000
set_option maxHeartbeats 3200000
/-! comprehensions, ready forms -/
namespace Lc
open PySem L2 Tx Tg Tm RZ
theorem same_upd {H : Hp} {p : Addr} {o : HO} (h : H p = none) : Same H (upd H p o) := fun b u e => by
  rw [upd_ne (fun q => by rw [q, h] at e; cases e)]
  exact e
theorem same_put {H H' : Hp} {D : Addr} {o : HO} (s : Same H H') (n : H D = none) : Same H (upd H' D o) := fun b u e => by
  rw [upd_ne (ne_of_none e n)]
  exact s b u e
theorem sqT_same {K : PySem.W.Frag} {H H' : Hp} {a : Addr} {xs : List V} (s : Same H H') (h : SqT K H a xs) : SqT K H' a xs := by
  rcases h with h | h
  · rcases h with h | ⟨o, h⟩
    · exact .inl (.inl (s _ _ h))
    · exact .inl (.inr ⟨o, s _ _ h⟩)
  · exact .inr h
section
variable {K : PySem.W.Frag} {te : TE} {σ : L2.St} {H1 : Hp} {D : Addr} {Qd : Hp → Prop} {j : Nat} {xs ys : List V} {a b : Addr}
/-- [f(x) for x in t], a value for each item -/
theorem lcTS (ha : SqT K H1 a xs) (nD : H1 D = none) (hl : xs.length = ys.length) (hz : xs.length < sizeLine) (hw : ∀ v, wipe ((wipe σ [j]).set j (some v)) [j] = wipe σ [j])
    (hs : ∀ (i : Nat) (x y : V) (H2 : Hp), xs[i]? = some x → ys[i]? = some y → Same H1 H2 → ∀ Q : VK, (∀ H3, Same H2 H3 → Q y H3) → te ((wipe σ [j]).set j (some x)) H2 Q) (hd : ∀ H2, Same H1 H2 → H2 D = some (.lst ys) → Qd H2) :
    ∃ W : Nat → Nat → Hp → Prop, (∃ m, W 0 m (upd H1 D (.lst []))) ∧ ∀ i m H, W i m H →
      ((Itt K a).stop i H ∧ Qd H) ∨ ((Itt K a).go i H ∧ ∃ Nx : Hp → Prop, (∀ H', Nx H' → ∃ m', m' < m ∧ W (i + 1) m' H') ∧ ∀ x H', (Itt K a).yld i H x H' → gName j x (wipe σ [j]) H' fun σ2 H2 => wipe σ2 [j] = wipe σ [j] ∧ tYes σ2 H2 fun b H3 =>
        if b = true then te σ2 H3 fun y H4 => ∃ acc, H4 D = some (.lst acc) ∧ acc.length < sizeLine ∧ Nx (upd H4 D (.lst (acc ++ [y]))) else Nx H3) := by
  refine lc_tup (xs := xs) (fun i H2 => Same H1 H2 ∧ H2 D = some (.lst (ys.take i))) ⟨same_upd nD, upd_same⟩ (fun i H2 _ z => sqT_same z.1 ha) ?_ ?_
  · rintro i x H2 hx ⟨s2, e2⟩
    have hi := (List.getElem?_eq_some_iff.mp hx).1
    have hy := List.getElem?_eq_getElem (l := ys) (i := i) (by omega)
    refine ⟨hw _, iteT (B := False) ?_⟩
    refine hs i x _ H2 hx hy s2 _ fun H3 s3 => ⟨_, s3 _ _ e2, ?_, same_put (s2.trans s3) nD, ?_⟩
    · rw [List.length_take]
      exact Nat.lt_of_le_of_lt (Nat.min_le_left _ _) (Nat.lt_trans hi hz)
    · rw [upd_same, List.take_add_one, hy]
      rfl
  · rintro H2 ⟨s2, e2⟩
    rw [hl, List.take_of_length_le (Nat.le_refl _)] at e2
    exact hd H2 s2 e2
/-- [f(k) for k in range(n)] -/
theorem lcRS {n : Nat} {lo : Int} (nD : H1 D = none) (hl : n = ys.length) (hz : n < sizeLine) (hw : ∀ v, wipe ((wipe σ [j]).set j (some v)) [j] = wipe σ [j])
    (hs : ∀ (i : Nat) (y : V) (H2 : Hp), i < n → ys[i]? = some y → Same H1 H2 → ∀ Q : VK, (∀ H3, Same H2 H3 → Q y H3) → te ((wipe σ [j]).set j (some (.int (lo + i)))) H2 Q) (hd : ∀ H2, Same H1 H2 → H2 D = some (.lst ys) → Qd H2) :
    ∃ W : Nat → Nat → Hp → Prop, (∃ m, W 0 m (upd H1 D (.lst []))) ∧ ∀ i m H, W i m H →
      ((Itr lo n).stop i H ∧ Qd H) ∨ ((Itr lo n).go i H ∧ ∃ Nx : Hp → Prop, (∀ H', Nx H' → ∃ m', m' < m ∧ W (i + 1) m' H') ∧ ∀ x H', (Itr lo n).yld i H x H' → gName j x (wipe σ [j]) H' fun σ2 H2 => wipe σ2 [j] = wipe σ [j] ∧ tYes σ2 H2 fun b H3 =>
        if b = true then te σ2 H3 fun y H4 => ∃ acc, H4 D = some (.lst acc) ∧ acc.length < sizeLine ∧ Nx (upd H4 D (.lst (acc ++ [y]))) else Nx H3) := by
  refine lc_range (fun i H2 => Same H1 H2 ∧ H2 D = some (.lst (ys.take i))) ⟨same_upd nD, upd_same⟩ ?_ ?_
  · rintro i H2 hi ⟨s2, e2⟩
    have hy := List.getElem?_eq_getElem (l := ys) (i := i) (by omega)
    refine ⟨hw _, iteT (B := False) ?_⟩
    refine hs i _ H2 hi hy s2 _ fun H3 s3 => ⟨_, s3 _ _ e2, ?_, same_put (s2.trans s3) nD, ?_⟩
    · rw [List.length_take]
      exact Nat.lt_of_le_of_lt (Nat.min_le_left _ _) (Nat.lt_trans hi hz)
    · rw [upd_same, List.take_add_one, hy]
      rfl
  · rintro H2 ⟨s2, e2⟩
    rw [hl, List.take_of_length_le (Nat.le_refl _)] at e2
    exact hd H2 s2 e2
/-- [draw for k in range(n)]: all else but one object stays -/
theorem lcRD {n : Nat} {lo : Int} {c : Addr} {I : Hp → Prop} {P : Nat → V → Prop} (nD : H1 D = none) (nDc : D ≠ c) (h0 : I (upd H1 D (.lst []))) (hz : n < sizeLine) (hw : ∀ v, wipe ((wipe σ [j]).set j (some v)) [j] = wipe σ [j])
    (hI : ∀ H o, I H → I (upd H D o))
    (hs : ∀ i H2, i < n → I H2 → (∀ b o, b ≠ c → H1 b = some o → H2 b = some o) → ∀ Q : VK, (∀ y H3, P i y → I H3 → (∀ b o, b ≠ c → H2 b = some o → H3 b = some o) → Q y H3) → te ((wipe σ [j]).set j (some (.int (lo + i)))) H2 Q)
    (hd : ∀ H2 zs, I H2 → (∀ b o, b ≠ c → H1 b = some o → H2 b = some o) → H2 D = some (.lst zs) → zs.length = n → (∀ i y, zs[i]? = some y → P i y) → Qd H2) :
    ∃ W : Nat → Nat → Hp → Prop, (∃ m, W 0 m (upd H1 D (.lst []))) ∧ ∀ i m H, W i m H →
      ((Itr lo n).stop i H ∧ Qd H) ∨ ((Itr lo n).go i H ∧ ∃ Nx : Hp → Prop, (∀ H', Nx H' → ∃ m', m' < m ∧ W (i + 1) m' H') ∧ ∀ x H', (Itr lo n).yld i H x H' → gName j x (wipe σ [j]) H' fun σ2 H2 => wipe σ2 [j] = wipe σ [j] ∧ tYes σ2 H2 fun b H3 =>
        if b = true then te σ2 H3 fun y H4 => ∃ acc, H4 D = some (.lst acc) ∧ acc.length < sizeLine ∧ Nx (upd H4 D (.lst (acc ++ [y]))) else Nx H3) := by
  refine lc_range (fun i H2 => I H2 ∧ (∀ b o, b ≠ c → H1 b = some o → H2 b = some o) ∧ ∃ zs, H2 D = some (.lst zs) ∧ zs.length = i ∧ ∀ k y, zs[k]? = some y → P k y) ⟨h0, fun b o _ e => same_upd nD _ _ e, [], upd_same, rfl, fun k y e => nomatch e⟩ ?_ ?_
  · rintro i H2 hi ⟨i2, b2, zs, e2, hl, hp⟩
    refine ⟨hw _, iteT (B := False) ?_⟩
    refine hs i H2 hi i2 b2 _ fun y H3 hy i3 b3 => ⟨_, b3 _ _ nDc e2, by omega, hI _ _ i3, fun b o nb e => ?_, zs ++ [y], upd_same, by rw [List.length_append, hl]; rfl, fun k z hk => ?_⟩
    · rw [upd_ne (ne_of_none e nD)]
      exact b3 _ _ nb (b2 _ _ nb e)
    · by_cases h : k < zs.length
      · rw [List.getElem?_append_left h] at hk
        exact hp k z hk
      · rw [List.getElem?_append_right (by omega)] at hk
        have hk1 := (List.getElem?_eq_some_iff.mp hk).1
        have hk0 : k - zs.length = 0 := by
          rw [List.length_singleton] at hk1
          omega
        rw [hk0] at hk
        cases hk
        have : k = i := by omega
        rw [this]
        exact hy
  · rintro H2 ⟨i2, b2, zs, e2, hl, hp⟩
    exact hd H2 zs i2 b2 e2 hl hp
end
/-- a comprehension over two rows that walk together, as far as the shorter one -/
theorem lc_zipT {K : PySem.W.Frag} {a b : Addr} {xs ys : List V} {g : TG} {tt : TT} {te : TE} {vs : List Nat} {σ : L2.St} {H1 : Hp} {D : Addr} {Qd : Hp → Prop} (hl : ys.length ≤ xs.length) (Pv : Nat → Hp → Prop) (h0 : Pv 0 (upd H1 D (.lst []))) (hq : ∀ i H, Pv i H → SqT K H a xs ∧ SqT K H b ys)
    (hs : ∀ (i : Nat) (x y : V) (T : Addr) (H : Hp), xs[i]? = some x → ys[i]? = some y → Pv i H → H T = none → g (.ref T) (wipe σ vs) (upd H T (.tup [x, y])) fun σ2 H2 => wipe σ2 vs = wipe σ vs ∧ tt σ2 H2 fun b H3 =>
      if b = true then te σ2 H3 fun y H4 => ∃ acc, H4 D = some (.lst acc) ∧ acc.length < sizeLine ∧ Pv (i + 1) (upd H4 D (.lst (acc ++ [y]))) else Pv (i + 1) H3) (hd : ∀ H, Pv ys.length H → Qd H) :
    ∃ W : Nat → Nat → Hp → Prop, (∃ m, W 0 m (upd H1 D (.lst []))) ∧ ∀ i m H, W i m H →
      ((ItzT K a b).stop i H ∧ Qd H) ∨ ((ItzT K a b).go i H ∧ ∃ Nx : Hp → Prop, (∀ H', Nx H' → ∃ m', m' < m ∧ W (i + 1) m' H') ∧ ∀ x H', (ItzT K a b).yld i H x H' → g x (wipe σ vs) H' fun σ2 H2 => wipe σ2 vs = wipe σ vs ∧ tt σ2 H2 fun b H3 =>
        if b = true then te σ2 H3 fun y H4 => ∃ acc, H4 D = some (.lst acc) ∧ acc.length < sizeLine ∧ Nx (upd H4 D (.lst (acc ++ [y]))) else Nx H3) := by
  refine ⟨fun i m H => m = ys.length - i ∧ i ≤ ys.length ∧ Pv i H, ⟨ys.length, by simp, Nat.zero_le _, h0⟩, ?_⟩
  rintro i m H ⟨rfl, hi, p⟩
  obtain ⟨qx, qy⟩ := hq i H p
  by_cases hlt : i < ys.length
  · have hx : xs[i]? = some xs[i] := List.getElem?_eq_getElem (by omega)
    have hy : ys[i]? = some ys[i] := List.getElem?_eq_getElem hlt
    refine .inr ⟨⟨xs, ys, _, _, qx, qy, hx, hy⟩, Pv (i + 1), fun H' p' => ⟨ys.length - (i + 1), by omega, rfl, hlt, p'⟩, fun v H' y => ?_⟩
    obtain ⟨T, x', y', rfl, hT, rfl, f1, f2⟩ := y
    exact hs i x' y' T H (f1 xs qx) (f2 ys qy) p hT
  · have e : i = ys.length := by omega
    subst e
    exact .inl ⟨⟨xs, ys, qx, qy, Or.inr (Nat.le_refl _)⟩, hd H p⟩
theorem lc_text {x : Str} {g : TG} {tt : TT} {te : TE} {vs : List Nat} {σ : L2.St} {H1 : Hp} {D : Addr} {Qd : Hp → Prop} (Pv : Nat → Hp → Prop) (h0 : Pv 0 (upd H1 D (.lst [])))
    (hs : ∀ i c H, (cds x)[i]? = some c → Pv i H → g (.str (one c)) (wipe σ vs) H fun σ2 H2 => wipe σ2 vs = wipe σ vs ∧ tt σ2 H2 fun b H3 =>
      if b = true then te σ2 H3 fun y H4 => ∃ acc, H4 D = some (.lst acc) ∧ acc.length < sizeLine ∧ Pv (i + 1) (upd H4 D (.lst (acc ++ [y]))) else Pv (i + 1) H3) (hd : ∀ H, Pv (cds x).length H → Qd H) :
    ∃ W : Nat → Nat → Hp → Prop, (∃ m, W 0 m (upd H1 D (.lst []))) ∧ ∀ i m H, W i m H →
      ((Its x).stop i H ∧ Qd H) ∨ ((Its x).go i H ∧ ∃ Nx : Hp → Prop, (∀ H', Nx H' → ∃ m', m' < m ∧ W (i + 1) m' H') ∧ ∀ v H', (Its x).yld i H v H' → g v (wipe σ vs) H' fun σ2 H2 => wipe σ2 vs = wipe σ vs ∧ tt σ2 H2 fun b H3 =>
        if b = true then te σ2 H3 fun y H4 => ∃ acc, H4 D = some (.lst acc) ∧ acc.length < sizeLine ∧ Nx (upd H4 D (.lst (acc ++ [y]))) else Nx H3) := by
  have hz : x.cps.size = (cds x).length := (Array.length_toList).symm
  refine ⟨fun i m H => m = (cds x).length - i ∧ i ≤ (cds x).length ∧ Pv i H, ⟨(cds x).length, by simp, Nat.zero_le _, h0⟩, ?_⟩
  rintro i m H ⟨rfl, hi, p⟩
  by_cases hlt : i < (cds x).length
  · refine .inr ⟨by show i < x.cps.size; omega, Pv (i + 1), fun H' p' => ⟨(cds x).length - (i + 1), by omega, rfl, hlt, p'⟩, ?_⟩
    rintro v H' ⟨e, c, hc, e2⟩
    subst e
    subst e2
    exact hs i c _ (by rw [Array.getElem?_toList]; exact hc) p
  · have e : i = (cds x).length := by omega
    subst e
    exact .inl ⟨by show x.cps.size ≤ _; omega, hd H p⟩
theorem for_text {x : Str} {g : TG} {tb : TS} {D : Ends} {σ : L2.St} {H : Hp} (Pv : Nat → L2.St → Hp → Prop) (h0 : Pv 0 σ H)
    (hs : ∀ i c σ H, (cds x)[i]? = some c → Pv i σ H → g (.str (one c)) σ H fun σ2 H2 => tb { D with nx := Pv (i + 1), ct := Pv (i + 1), bk := D.nx } σ2 H2) (hd : ∀ σ H, Pv (cds x).length σ H → D.nx σ H) :
    ∃ W : Nat → Nat → L2.St → Hp → Prop, (∃ m, W 0 m σ H) ∧ ∀ i m σ H, W i m σ H →
      ((Its x).stop i H ∧ D.nx σ H) ∨ ((Its x).go i H ∧ ∃ N : L2.St → Hp → Prop, (∀ σ' H', N σ' H' → ∃ m', m' < m ∧ W (i + 1) m' σ' H') ∧ ∀ v H', (Its x).yld i H v H' → g v σ H' fun σ2 H2 => tb { D with nx := N, ct := N, bk := D.nx } σ2 H2) := by
  have hz : x.cps.size = (cds x).length := (Array.length_toList).symm
  refine ⟨fun i m σ H => m = (cds x).length - i ∧ i ≤ (cds x).length ∧ Pv i σ H, ⟨(cds x).length, by simp, Nat.zero_le _, h0⟩, ?_⟩
  rintro i m σ H ⟨rfl, hi, p⟩
  by_cases hlt : i < (cds x).length
  · refine .inr ⟨by show i < x.cps.size; omega, Pv (i + 1), fun σ' H' p' => ⟨(cds x).length - (i + 1), by omega, rfl, hlt, p'⟩, ?_⟩
    rintro v H' ⟨e, c, hc, e2⟩
    subst e
    subst e2
    exact hs i c _ _ (by rw [Array.getElem?_toList]; exact hc) p
  · have e : i = (cds x).length := by omega
    subst e
    exact .inl ⟨by show x.cps.size ≤ _; omega, hd _ H p⟩
/-- {k: v for c in text} -/
theorem dc_text {x : Str} {g : TG} {tt : TT} {tk tv : TE} {vs : List Nat} {σ : L2.St} {H1 : Hp} {D : Addr} {Qd : Hp → Prop} (Pv : Nat → Hp → Prop) (h0 : Pv 0 (upd H1 D (.dK [])))
    (hs : ∀ i c H, (cds x)[i]? = some c → Pv i H → g (.str (one c)) (wipe σ vs) H fun σ2 H2 => wipe σ2 vs = wipe σ vs ∧ tt σ2 H2 fun b H3 =>
      if b = true then tk σ2 H3 fun y H4 => tv σ2 H4 fun z H5 => ∃ kvs k, y = kV k ∧ H5 D = some (.dK kvs) ∧ kvs.length < sizeLine ∧ Pv (i + 1) (upd H5 D (.dK (putK kvs k z))) else Pv (i + 1) H3) (hd : ∀ H, Pv (cds x).length H → Qd H) :
    ∃ W : Nat → Nat → Hp → Prop, (∃ m, W 0 m (upd H1 D (.dK []))) ∧ ∀ i m H, W i m H →
      ((Its x).stop i H ∧ Qd H) ∨ ((Its x).go i H ∧ ∃ Nx : Hp → Prop, (∀ H', Nx H' → ∃ m', m' < m ∧ W (i + 1) m' H') ∧ ∀ v H', (Its x).yld i H v H' → g v (wipe σ vs) H' fun σ2 H2 => wipe σ2 vs = wipe σ vs ∧ tt σ2 H2 fun b H3 =>
        if b = true then tk σ2 H3 fun y H4 => tv σ2 H4 fun z H5 => ∃ kvs k, y = kV k ∧ H5 D = some (.dK kvs) ∧ kvs.length < sizeLine ∧ Nx (upd H5 D (.dK (putK kvs k z))) else Nx H3) := by
  have hz : x.cps.size = (cds x).length := (Array.length_toList).symm
  refine ⟨fun i m H => m = (cds x).length - i ∧ i ≤ (cds x).length ∧ Pv i H, ⟨(cds x).length, by simp, Nat.zero_le _, h0⟩, ?_⟩
  rintro i m H ⟨rfl, hi, p⟩
  by_cases hlt : i < (cds x).length
  · refine .inr ⟨by show i < x.cps.size; omega, Pv (i + 1), fun H' p' => ⟨(cds x).length - (i + 1), by omega, rfl, hlt, p'⟩, ?_⟩
    rintro v H' ⟨e, c, hc, e2⟩
    subst e
    subst e2
    exact hs i c _ (by rw [Array.getElem?_toList]; exact hc) p
  · have e : i = (cds x).length := by omega
    subst e
    exact .inl ⟨by show x.cps.size ≤ _; omega, hd H p⟩
end Lc

set_option Elab.async false
set_option linter.all false
set_option maxRecDepth 100000
set_option maxHeartbeats 3200000
/-! {.. for k, v in d.items()} -/
namespace Lc
open PySem L2 Tx Tg Tm RZ
theorem dc_items {d : Addr} {o : Obj} {kvs : List (Key × V)} {g : TG} {tt : TT} {tk tv : TE} {vs : List Nat} {σ : L2.St} {H1 : Hp} {D : Addr} {Qd : Hp → Prop} (Pv : Nat → Hp → Prop) (h0 : Pv 0 (upd H1 D (.dK [])))
    (hf : ∀ i H, Pv i H → H d = some (.frz o (.dK kvs))) (hs : ∀ i k v T H, kvs[i]? = some (k, v) → Pv i H → H T = none → g (.ref T) (wipe σ vs) (upd H T (.tup [kV k, v])) fun σ2 H2 => wipe σ2 vs = wipe σ vs ∧ tt σ2 H2 fun b H3 =>
      if b = true then tk σ2 H3 fun y H4 => tv σ2 H4 fun z H5 => ∃ kvs k, y = kV k ∧ H5 D = some (.dK kvs) ∧ kvs.length < sizeLine ∧ Pv (i + 1) (upd H5 D (.dK (putK kvs k z))) else Pv (i + 1) H3) (hd : ∀ H, Pv kvs.length H → Qd H) :
    ∃ W : Nat → Nat → Hp → Prop, (∃ m, W 0 m (upd H1 D (.dK []))) ∧ ∀ i m H, W i m H →
      ((Iti d o kvs).stop i H ∧ Qd H) ∨ ((Iti d o kvs).go i H ∧ ∃ Nx : Hp → Prop, (∀ H', Nx H' → ∃ m', m' < m ∧ W (i + 1) m' H') ∧ ∀ v H', (Iti d o kvs).yld i H v H' → g v (wipe σ vs) H' fun σ2 H2 => wipe σ2 vs = wipe σ vs ∧ tt σ2 H2 fun b H3 =>
        if b = true then tk σ2 H3 fun y H4 => tv σ2 H4 fun z H5 => ∃ kvs k, y = kV k ∧ H5 D = some (.dK kvs) ∧ kvs.length < sizeLine ∧ Nx (upd H5 D (.dK (putK kvs k z))) else Nx H3) := by
  refine ⟨fun i m H => m = kvs.length - i ∧ i ≤ kvs.length ∧ Pv i H, ⟨kvs.length, by simp, Nat.zero_le _, h0⟩, ?_⟩
  rintro i m H ⟨rfl, hi, p⟩
  by_cases hlt : i < kvs.length
  · refine .inr ⟨⟨hf i H p, hlt⟩, Pv (i + 1), fun H' p' => ⟨kvs.length - (i + 1), by omega, rfl, hlt, p'⟩, fun x H' y => ?_⟩
    obtain ⟨T, k, v, e, rfl, nT, rfl⟩ := y
    exact hs i k v T H e p nT
  · have e : i = kvs.length := by omega
    subst e
    exact .inl ⟨⟨hf _ H p, Nat.le_refl _⟩, hd H p⟩
section
variable {X : Cx}
/-- name = {k: v for ..} on one line -/
theorem ps_setDc {i : Nat} {y : Str} {py : Pos} {kx vx tg iter : Expr} {ifs : List Expr} {scope : Scope} {own : List (Str × Nat)} {pos spos : Pos} {wi : TI} {g : TG} {tt : TT} {tk tv : TE} (hc : X.calm = true) (hN : X.N.Nodup) (hy : X.N[i]? = some y) (hyl : X.env.scope.names.lookup y = some .local)
    (hsw : swapsWith (.DictComp kx vx [⟨tg, iter, ifs, 0⟩] scope pos) (some (.Name y py)) spos.line X.env = pure true) (hi : PI X tg iter wi) (ok : BlkOk X.N X.env.scope scope own)
    (hg : ∀ (s : Shared) (H : Hp) (C : Addr) (cl : List (Str × Addr)) (fp : List Addr), PG (X.blk s H scope (compEnvC scope cl C X.env) fp) tg g) (ht : ∀ (s : Shared) (H : Hp) (C : Addr) (cl : List (Str × Addr)) (fp : List Addr), PTs (X.blk s H scope (compEnvC scope cl C X.env) fp) ifs tt)
    (hk : ∀ (s : Shared) (H : Hp) (C : Addr) (cl : List (Str × Addr)) (fp : List Addr), PE (X.blk s H scope (compEnvC scope cl C X.env) fp) kx tk)
    (he : ∀ (s : Shared) (H : Hp) (C : Addr) (cl : List (Str × Addr)) (fp : List Addr), PE (X.blk s H scope (compEnvC scope cl C X.env) fp) vx tv) (hs : ∀ x, foldedSetIterable iter X.env x = pure x := by intro _; rfl) :
    PS X (.Assign [.Name y py] (.DictComp kx vx [⟨tg, iter, ifs, 0⟩] scope pos) spos) (tAsg (tDc wi g tt tk tv (own.map (·.2))) (gName i)) := by
  refine ⟨fun pins s σ H D I h => ?_⟩
  rw [exec_Assign_Name_used _ _ _ _ hsw]
  refine wpAny_bind (wpAny_standAt (wpAny_bind ?_))
  show wpAny _ X.A (do let _ ← comprehension (.DictComp kx vx [⟨tg, iter, ifs, 0⟩] scope pos) scope X.env (firstIterPos [⟨tg, iter, ifs, 0⟩] pos) newDict false (eval iter X.env) (some (assign (.Name y py) X.env))) _ _ s
  have h : tDc wi g tt tk tv (own.map (·.2)) σ H (fun x H1 => gName i x σ H1 D.nx) := h
  refine wpAny_bind (thn (dc_core (Qf := fun _ s' => SP X pins D .next s') hc hN I hi ok hg ht hk he hs h fun L C s' m H' I' q hn f => ?_) fun _ s' hq => wpAny_pure (wpAny_pure hq))
  show wpAny _ _ (assign (.Name y py) X.env (.ref L)) _ _ _
  refine wpAny_assign_Name (store_ok2 (v := V.ref L) I' hN hy (.inl hyl) rfl (fun s2 I2 ⟨a, sb, ha⟩ => ?_) (.inr hyl))
  obtain ⟨f0, f1, f2, f3, f4, f5⟩ := f
  have haC : C ≠ a := by
    rcases ha with z | z
    · rw [z]; exact f1
    · exact fun e => f4 y a z e.symm
  refine ⟨m, hn.sameBut sb haC, fun h3 sb3 => ?_⟩
  exact ⟨_, H', I2.turned (t' := s2.toks) (fun b o hb e => (sb3.2 b hb).trans e) f0 f1 f3 f4 f5, q⟩
theorem sw_dict {kx vx : Expr} {gs : List Comprehension} {scope : Scope} {pos py : Pos} {y : Str} {l : Nat} {env : Env} (hk : env.scope.kind = .function) (hy : env.scope.names.lookup y = some .local) (hl : (py.line == pos.line) = true)
    (ha : (scope.names.any fun (n, k) => n == y && (k == .local || k == .cell)) = false) : swapsWith (.DictComp kx vx gs scope pos) (some (.Name y py)) l env = pure true := by
  have ky : env.kindOf y = some .local := hy
  have hb : env.blockKind = .function := by unfold Env.blockKind; rw [hk]; rfl
  unfold swapsWith
  simp only [hb, ky, ha, Expr.pos, hl]
  rfl
end
end Lc

set_option Elab.async false
set_option linter.all false
set_option maxRecDepth 100000
set_option maxHeartbeats 3200000
/-! a new dict, locked as soon as it is there (for its walk) -/
namespace Lc
open PySem L2 Tx Tg Tm RZ
def tLockV (t : TE) : TE := fun σ H Q => t σ H fun x H1 => ∃ d u, x = .ref d ∧ H1 d = some u ∧ Mut (some u) ∧ ∀ od, Q x (upd H1 d (.frz od u))
theorem pe_lockV {X : Cx} {e : Expr} {t : TE} (he : PE X e t) : PE X e (tLockV t) := by
  refine ⟨fun pins s σ H Q I h => ?_⟩
  refine thn (he.run pins s σ H _ I h) fun u s1 ⟨x, H1, I1, rx, d, o, ex, hd, mu, q⟩ => ?_
  obtain ⟨od, I2⟩ := I1.lock hd mu
  exact ⟨x, _, I2, rx, q od⟩
end Lc

set_option Elab.async false
set_option linter.all false
set_option maxRecDepth 100000
set_option maxHeartbeats 3200000
/-! for k, v in d.items() -/
namespace Lc
open PySem L2 Tx Tg Tm RZ
theorem for_items {d : Addr} {o : Obj} {kvs : List (Key × V)} {g : TG} {tb : TS} {D : Ends} {σ : L2.St} {H : Hp} (Pv : Nat → L2.St → Hp → Prop) (h0 : Pv 0 σ H) (hf : ∀ i σ H, Pv i σ H → H d = some (.frz o (.dK kvs)))
    (hs : ∀ i k v T σ H, kvs[i]? = some (k, v) → Pv i σ H → H T = none → g (.ref T) σ (upd H T (.tup [kV k, v])) fun σ2 H2 => tb { D with nx := Pv (i + 1), ct := Pv (i + 1), bk := D.nx } σ2 H2) (hd : ∀ σ H, Pv kvs.length σ H → D.nx σ H) :
    ∃ W : Nat → Nat → L2.St → Hp → Prop, (∃ m, W 0 m σ H) ∧ ∀ i m σ H, W i m σ H →
      ((Iti d o kvs).stop i H ∧ D.nx σ H) ∨ ((Iti d o kvs).go i H ∧ ∃ N : L2.St → Hp → Prop, (∀ σ' H', N σ' H' → ∃ m', m' < m ∧ W (i + 1) m' σ' H') ∧ ∀ x H', (Iti d o kvs).yld i H x H' → g x σ H' fun σ2 H2 => tb { D with nx := N, ct := N, bk := D.nx } σ2 H2) := by
  refine ⟨fun i m σ H => m = kvs.length - i ∧ i ≤ kvs.length ∧ Pv i σ H, ⟨kvs.length, by simp, Nat.zero_le _, h0⟩, ?_⟩
  rintro i m σ H ⟨rfl, hi, p⟩
  by_cases hlt : i < kvs.length
  · refine .inr ⟨⟨hf i σ H p, hlt⟩, Pv (i + 1), fun σ' H' p' => ⟨kvs.length - (i + 1), by omega, rfl, hlt, p'⟩, fun x H' y => ?_⟩
    obtain ⟨T, k, v, e, rfl, nT, rfl⟩ := y
    exact hs i k v T σ H e p nT
  · have e : i = kvs.length := by omega
    subst e
    exact .inl ⟨⟨hf _ σ H p, Nat.le_refl _⟩, hd σ H p⟩
end Lc

set_option Elab.async false
set_option linter.all false
set_option maxRecDepth 100000
set_option maxHeartbeats 6400000
namespace K6
open PySem L2 Tx Tg Tm Da RZ Lc
/-! ### selections with their numbers, alternating sums -/
abbrev kvS (D : Ty.SD) : List (Key × V) := D.map fun s => ((Sum.inr (tx s.1) : Key), V.int s.2)
theorem tx_inj {a b : List Nat} (h : tx a = tx b) : a = b := by
  have : cds (tx a) = cds (tx b) := by rw [h]
  exact this
theorem key_tx {a b : List Nat} : (Sum.inr (tx a) : Key) = Sum.inr (tx b) ↔ a = b := ⟨fun e => tx_inj (by injection e), fun e => by rw [e]⟩
theorem val_kvS : ∀ (D : Ty.SD) (k : List Nat), valV (kvS D) (Sum.inr (tx k) : Key) = (D.find? fun s => decide (s.1 = k)).map fun s => V.int s.2
  | [], _ => rfl
  | s :: D, k => by
    rw [List.find?_cons]
    by_cases e : s.1 = k
    · rw [decide_eq_true e]
      exact valV_pos (key_tx.mpr e)
    · rw [decide_eq_false e]
      show valV ((_, _) :: kvS D) _ = _
      rw [valV_neg (fun z => e (key_tx.mp z))]
      exact val_kvS D k
theorem put_kvS (D : Ty.SD) (k : List Nat) (v : Int) : putK (kvS D) (Sum.inr (tx k)) (V.int v) = kvS (Ty.ptD D k v) := by
  have ea : ((kvS D).any fun kv => decide (kv.1 = (Sum.inr (tx k) : Key))) = D.any fun s => decide (s.1 = k) := by
    rw [List.any_map]
    congr 1
    funext s
    exact decide_eq_decide.mpr key_tx
  unfold putK Ty.ptD
  rw [ea]
  split
  · show List.map _ (List.map _ D) = List.map _ (List.map _ D)
    rw [List.map_map, List.map_map]
    refine List.map_congr_left fun s _ => ?_
    show (if (Sum.inr (tx s.1) : Key) = Sum.inr (tx k) then _ else _) = ((Sum.inr (tx (if s.1 = k then (s.1, v) else s).1) : Key), V.int (if s.1 = k then (s.1, v) else s).2)
    by_cases e : s.1 = k
    · rw [if_pos (key_tx.mpr e), if_pos e]
    · rw [if_neg (fun z => e (key_tx.mp z)), if_neg e]
  · show _ = List.map _ (D ++ [(k, v)])
    rw [List.map_append]
    rfl
theorem valV_get (D : Ty.SD) (k : List Nat) : (valV (kvS D) (Sum.inr (tx k) : Key)).getD (V.int 0) = V.int (Ty.gtD D k) := by
  rw [val_kvS]
  unfold Ty.gtD
  cases D.find? fun s => decide (s.1 = k) with
  | none => rfl
  | some s => rfl
/-- how many selections there are at most -/
theorem ptD_len (D : Ty.SD) (k : List Nat) (v : Int) : (Ty.ptD D k v).length ≤ D.length + 1 := by
  unfold Ty.ptD
  split
  · rw [List.length_map]
    omega
  · rw [List.length_append]
    exact Nat.le_refl _
theorem fold_lenS {c : Nat} : ∀ {G L : Ty.SD}, (G.foldl (fun L s => Ty.adD L (s.1 ++ [c]) s.2) L).length ≤ L.length + G.length
  | [], _ => Nat.le_refl _
  | s :: G, L => by
    have h1 := fold_lenS (c := c) (G := G) (L := Ty.adD L (s.1 ++ [c]) s.2)
    have h2 := ptD_len L (s.1 ++ [c]) (Ty.gtD L (s.1 ++ [c]) + s.2)
    rw [List.length_cons]
    exact Nat.le_trans h1 (Nat.le_trans (Nat.add_le_add_right h2 _) (by omega))
theorem sel_len : ∀ (l : List Nat) (D : Ty.SD), (l.foldl Ty.selStep D).length ≤ D.length * 2 ^ l.length
  | [], D => by
    show D.length ≤ D.length * 1
    omega
  | c :: l, D => by
    have h1 := sel_len l (Ty.selStep D c)
    have h2 : (Ty.selStep D c).length ≤ D.length + D.length := fold_lenS
    rw [List.length_cons, Nat.pow_succ]
    refine Nat.le_trans h1 (Nat.le_trans (Nat.mul_le_mul_right _ h2) ?_)
    rw [← Nat.two_mul, Nat.mul_comm 2, Nat.mul_assoc, Nat.mul_comm 2]
    exact Nat.le_refl _
theorem sels_len (l : List Nat) : (Ty.sels l).length ≤ 2 ^ l.length := by
  have := sel_len l [([], 1)]
  rw [List.length_singleton, Nat.one_mul] at this
  exact this
theorem ad_keys {D : Ty.SD} {k : List Nat} {m : Int} {P : List Nat → Prop} (h : ∀ s ∈ D, P s.1) (hk : P k) : ∀ s ∈ Ty.adD D k m, P s.1 := fun s hs => by
  have e : s.1 ∈ (Ty.ptD D k (Ty.gtD D k + m)).map (·.1) := List.mem_map.mpr ⟨s, hs, rfl⟩
  rw [Ty.ptD_keys] at e
  have old : ∀ x ∈ D.map (·.1), P x := fun x hx => by
    obtain ⟨u, hu, rfl⟩ := List.mem_map.mp hx
    exact h u hu
  split at e
  · exact old _ e
  · rcases List.mem_append.mp e with e | e
    · exact old _ e
    · rw [List.mem_singleton.mp e]
      exact hk
theorem fold_keys {c : Nat} {P : List Nat → Prop} : ∀ {G L : Ty.SD}, (∀ s ∈ L, P s.1) → (∀ s ∈ G, P (s.1 ++ [c])) → ∀ s ∈ G.foldl (fun L s => Ty.adD L (s.1 ++ [c]) s.2) L, P s.1
  | [], _, h, _ => h
  | t :: G, L, h, k => fold_keys (G := G) (L := Ty.adD L (t.1 ++ [c]) t.2) (ad_keys h (k t List.mem_cons_self)) fun s hs => k s (List.mem_cons_of_mem _ hs)
theorem sel_keys {A : List Nat} : ∀ (l : List Nat) (D : Ty.SD) (n : Nat), (∀ s ∈ D, s.1.length ≤ n ∧ ∀ c ∈ s.1, c ∈ A) → (∀ c ∈ l, c ∈ A) → ∀ s ∈ l.foldl Ty.selStep D, s.1.length ≤ n + l.length ∧ ∀ c ∈ s.1, c ∈ A
  | [], _, _, h, _ => h
  | x :: l, D, n, h, hA => fun s hs => by
    have := sel_keys l (Ty.selStep D x) (n + 1) (fold_keys (P := fun t => t.length ≤ n + 1 ∧ ∀ c ∈ t, c ∈ A) (fun t ht => ⟨Nat.le_succ_of_le (h t ht).1, (h t ht).2⟩) fun t ht => ⟨by rw [List.length_append, List.length_singleton]; exact Nat.add_le_add_right (h t ht).1 1, fun c hc => by
      rcases List.mem_append.mp hc with hc | hc
      · exact (h t ht).2 c hc
      · rw [List.mem_singleton.mp hc]
        exact hA x List.mem_cons_self⟩) (fun c hc => hA c (List.mem_cons_of_mem _ hc)) s hs
    exact ⟨by rw [List.length_cons]; omega, this.2⟩
theorem sels_sub {l : List Nat} : ∀ s ∈ Ty.sels l, s.1.length ≤ l.length ∧ ∀ c ∈ s.1, c ∈ l := fun s hs => by
  have := sel_keys (A := l) l [([], 1)] 0 (fun t ht => by rw [List.mem_singleton.mp ht]; exact ⟨Nat.le_refl _, nofun⟩) (fun _ h => h) s hs
  exact ⟨by omega, this.2⟩
theorem sels_snoc (l : List Nat) (c : Nat) : Ty.sels (l ++ [c]) = Ty.selStep (Ty.sels l) c := by
  unfold Ty.sels
  rw [List.foldl_append]
  rfl
section
variable {P : Program} {w : World} {K : PySem.W.Frag} {mg : Str → Option Value} {base : Heap} {fS : Addr} {dS : FuncData}
abbrev nSel : List Str := ["text", "found", "letter", "longer", "chosen", "many"]
theorem scSel : FnScope nSel ["text"] (defScope sSelections) := ⟨rfl, rfl, rfl, by decide +kernel, rfl, by decide +kernel, by decide +kernel⟩
def spSel : Sp := fun vs H Q _ => ∃ (z : Str), vs = [.str z] ∧ z.length ≤ 12 ∧ ∀ D H', Same H H' → H D = none → H' D = some (.dK (kvS (Ty.sels (cds z)))) → Q (.ref D) H'
theorem ok_sel {f : Addr} {fd : FuncData} (F : Fun K "selections" "selections" sSelections f fd) (T : Txt K mg) : FnOk P w K mg base CX0 1 f fd ["text"] spSel := by
  refine F.ok scSel (fun vs H Q E h => ?_) (fun cdv A outer s H vs Q E hr h => ?_)
  · obtain ⟨z, rfl, _⟩ := h
    rfl
  · obtain ⟨z, rfl, hz, q⟩ := h
    have hu := hu_of hr
    refine ⟨_, (pss_cons (ps_set (i := 1) scSel.nd rfl (Or.inl rfl) (pe_disp (pps_cons pe_str pe_int pps_nil) (by rfl) (by rfl) (fun z => by cases z) (by decide)))
    (pss_cons (ps_for PassesOwn.never rfl (pi_str (pv 0)) (pg_name (i := 2) scSel.nd rfl (Or.inl rfl))
      (pss_cons (ps_set (i := 3) scSel.nd rfl (Or.inl rfl) (pe_callTy call_dictD (by rfl) T.dict (by decide +kernel) (pa_cons (pv 1) pa_nil)))
      (pss_cons (ps_for PassesOwn.never rfl (pi_items (Lc.pe_lockV (pv 1))) (pg_tup rfl (pgs_cons (pg_name (i := 4) scSel.nd rfl (Or.inl rfl)) (pgs_cons (pg_name (i := 5) scSel.nd rfl (Or.inl rfl)) pgs_nil)))
        (pss_one (ps_dput hu (pv 3) (pe_op op_add_str (pv 4) (pv 2)) (pe_op op_add (pe_dget2 hu (pv 3) (pe_op op_add_str (pv 4) (pv 2)) pe_int ⟨rfl, rfl, rfl, rfl⟩) (pv 5)) rfl)))
      (pss_one (ps_set (i := 1) scSel.nd rfl (Or.inl rfl) (pv 3))))))
    (pss_one (ps_ret (pv 1))))), ?_⟩
    have hzl : (cds z).length ≤ 12 := hz
    have line : ∀ n : Nat, n ≤ 4096 → n < sizeLine := fun n hn => Nat.lt_of_le_of_lt hn (by decide)
    refine fun D0 n0 => ⟨upd_same, [((Sum.inr "" : Key), V.int 1)], rfl, (by show 1 ≤ 15; decide), ?_⟩
    have s0 : Same H (upd (upd H D0 (.dK [])) D0 (.dK (mergeK [] [((Sum.inr "" : Key), V.int 1)]))) := fun b o e => by
      rw [upd_ne (ne_of_none e n0), upd_ne (ne_of_none e n0)]
      exact e
    have e0 : (upd (upd H D0 (.dK [])) D0 (.dK (mergeK [] [((Sum.inr "" : Key), V.int 1)]))) D0 = some (.dK (kvS (Ty.sels []))) := upd_same
    generalize upd (upd H D0 (.dK [])) D0 (.dK (mergeK [] [((Sum.inr "" : Key), V.int 1)])) = H0 at s0 e0 ⊢
    dsimp only [tSeq, gName]
    refine ⟨_, rfl, z, rfl, ?_⟩
    refine Lc.for_text (fun i σ H1 => ∃ (u2 u3 u4 u5 : Option V) (D : Addr), σ = [some (.str z), some (.ref D), u2, u3, u4, u5] ∧ Same H H1 ∧ H D = none ∧ H1 D = some (.dK (kvS (Ty.sels ((cds z).take i))))) ⟨none, none, none, none, D0, rfl, s0, n0, e0⟩ ?_ ?_
    · rintro i c σ H1 hc ⟨u2, u3, u4, u5, D, rfl, s1, nD, e1⟩
      have hi := (List.getElem?_eq_some_iff.mp hc).1
      have ef : Ty.sels ((cds z).take (i + 1)) = Ty.selStep (Ty.sels ((cds z).take i)) c := by
        rw [List.take_add_one, hc]
        exact sels_snoc _ _
      have few : (Ty.sels ((cds z).take i)).length ≤ 2048 := Nat.le_trans (sels_len _) (by
        rw [List.length_take]
        exact Nat.pow_le_pow_right (n := 2) (j := 11) (by decide) (by omega))
      have slen : ∀ s ∈ Ty.sels ((cds z).take i), s.1.length ≤ 12 := fun s hs => by
        have := (sels_sub s hs).1
        rw [List.length_take] at this
        omega
      rw [ef]
      generalize Ty.sels ((cds z).take i) = G at e1 few slen ⊢
      dsimp only [tSeq, gName]
      refine ⟨_, rfl, D, kvS G, rfl, .inl e1, fun L nL => ?_⟩
      have LD : L ≠ D := (ne_of_none e1 nL).symm
      have nHL := free_none s1 nL
      refine ⟨_, rfl, D, _, rfl, by rw [upd_ne LD.symm]; exact e1, (by unfold Mut; simp), fun od => ⟨D, od, kvS G, rfl, upd_same, ?_⟩⟩
      have s3 : Same H (upd (upd H1 L (.dK (kvS G))) D (.frz od (.dK (kvS G)))) := fun b o e => by
        rw [upd_ne (ne_of_none e nD), upd_ne (ne_of_none e nHL)]
        exact s1 _ _ e
      have eD : (upd (upd H1 L (.dK (kvS G))) D (.frz od (.dK (kvS G)))) D = some (.frz od (.dK (kvS G))) := upd_same
      have eL : (upd (upd H1 L (.dK (kvS G))) D (.frz od (.dK (kvS G)))) L = some (.dK (kvS G)) := by rw [upd_ne LD]; exact upd_same
      generalize upd (upd H1 L (.dK (kvS G))) D (.frz od (.dK (kvS G))) = H3 at s3 eD eL ⊢
      refine Lc.for_items (fun j σ H4 => ∃ u4 u5 : Option V, σ = [some (.str z), some (.ref D), some (.str (one c)), some (.ref L), u4, u5] ∧ Same H H4 ∧ H4 D = some (.frz od (.dK (kvS G))) ∧ H4 L = some (.dK (kvS ((G.take j).foldl (fun L s => Ty.adD L (s.1 ++ [c]) s.2) G)))) ⟨u4, u5, rfl, s3, eD, eL⟩ (fun j σ H4 h => by obtain ⟨_, _, _, _, e, _⟩ := h; exact e) ?_ ?_
      · rintro j k' v T σ H4 hk ⟨v4, v5, rfl, s4, eD4, eL4⟩ nT
        have hj := (List.getElem?_eq_some_iff.mp hk).1
        rw [List.length_map] at hj
        rw [List.getElem?_map, List.getElem?_eq_getElem hj] at hk
        cases hk
        have sT := same_upd (o := .tup [kV (Sum.inr (tx G[j].1)), V.int G[j].2]) nT
        refine ⟨T, _, rfl, SqT.of upd_same, rfl, _, _, rfl, _, _, rfl, rfl, ?_⟩
        have eL5 := sT _ _ eL4
        have eD5 := sT _ _ eD4
        have s5 := s4.trans sT
        generalize upd H4 T (.tup [kV (Sum.inr (tx G[j].1)), V.int G[j].2]) = H5 at eL5 eD5 s5 ⊢
        have sl := slen _ (List.getElem_mem hj)
        have ll : (tx G[j].1).length + (one c).length ≤ sizeLine := by
          rw [tx_len]
          exact Nat.le_trans (show _ + 1 ≤ 13 by omega) (by decide)
        have ek : tx G[j].1 ++ one c = tx (G[j].1 ++ [c]) := tx_app _ _
        have fl := fold_lenS (c := c) (G := G.take j) (L := G)
        rw [List.length_take] at fl
        have et : (G.take (j + 1)).foldl (fun L s => Ty.adD L (s.1 ++ [c]) s.2) G = Ty.adD ((G.take j).foldl (fun L s => Ty.adD L (s.1 ++ [c]) s.2) G) (G[j].1 ++ [c]) G[j].2 := by
          rw [List.take_add_one, List.getElem?_eq_getElem hj, List.foldl_append]
          rfl
        rw [et]
        generalize (G.take j).foldl (fun L s => Ty.adD L (s.1 ++ [c]) s.2) G = M at eL5 fl ⊢
        refine ⟨_, rfl, L, rfl, .inl ⟨_, .inl eL5⟩, _, rfl, _, rfl, _, _, rfl, rfl, ll, ?_⟩
        have hval : (valV (kvS M) (Sum.inr (tx G[j].1 ++ one c) : Key)).getD (V.int 0) = V.int (Ty.gtD M (G[j].1 ++ [c])) := by
          rw [ek]
          exact valV_get _ _
        refine ⟨_, DGet.k (k := (Sum.inr (tx G[j].1 ++ one c) : Key)) eL5, _, rfl, _, _, hval, rfl, _, rfl, _, rfl, _, rfl, _, _, rfl, rfl, ll, L, _, rfl, DPut.k (k := (Sum.inr (tx G[j].1 ++ one c) : Key)) eL5 ?_, some (.str (tx G[j].1)), some (.int G[j].2), rfl, fun b o e => by rw [upd_ne (ne_of_none e nHL)]; exact s5 _ _ e, by rw [upd_ne LD.symm]; exact eD5, ?_⟩
        · rw [List.length_map]
          exact line _ (by omega)
        · rw [upd_same, ek, put_kvS]
          rfl
      · rintro σ H4 ⟨v4, v5, rfl, s4, eD4, eL4⟩
        rw [List.length_map, List.take_of_length_le (Nat.le_refl _)] at eL4
        exact ⟨_, rfl, _, _, _, _, L, rfl, s4, nHL, eL4⟩
    · rintro σ H1 ⟨u2, u3, u4, u5, D, rfl, s1, nD, e1⟩
      rw [List.take_of_length_le (Nat.le_refl _)] at e1
      exact ⟨_, rfl, q D H1 s1 nD e1⟩
/-- the alternating sum -/
abbrev nAlt : List Str := ["pattern", "numbers", "total", "chosen", "many", "sign"]
theorem scAlt : FnScope nAlt ["pattern", "numbers"] (defScope sAlter) := ⟨rfl, rfl, rfl, by decide +kernel, rfl, by decide +kernel, by decide +kernel⟩
/-- a dict that has the number f y at each text y of ys -/
def NumAt (H : Hp) (d : Addr) (ys : List Nat → Prop) (f : List Nat → Int) : Prop := ∃ kvs : List (Key × V), H d = some (.dK kvs) ∧ ∀ y, ys y → valV kvs (Sum.inr (tx y) : Key) = some (.int (f y)) ∧ -(2 ^ 64) < f y ∧ f y < 2 ^ 64
def spAlt : Sp := fun vs H Q _ => ∃ (z : Str) (d : Addr) (f : List Nat → Int), vs = [.str z, .ref d] ∧ z.length ≤ 12 ∧ NumAt H d (fun y => y ∈ (Ty.sels (cds z)).map (·.1)) f ∧ ∀ H', Same H H' → Q (.int (Ty.wt f (cds z))) H'
theorem ok_alt {f : Addr} {fd : FuncData} (F : Fun K "alternating_sum" "alternating_sum" sAlter f fd) (T : Txt K mg) (DS : Df K mg "selections" sSelections ["text"] fS dS) : FnOk P w K mg base CX0 2 f fd ["pattern", "numbers"] spAlt := by
  have GS := ok_sel (P := P) (w := w) (base := base) DS.F T
  refine F.ok scAlt (fun vs H Q E h => ?_) (fun cdv A outer s H vs Q E hr h => ?_)
  · obtain ⟨z, d, g, rfl, _⟩ := h
    rfl
  · obtain ⟨z, d, g, rfl, hz, ⟨kvs, ed, hk⟩, q⟩ := h
    have hu := hu_of hr
    refine ⟨_, (pss_cons (ps_set (i := 2) scAlt.nd rfl (Or.inl rfl) pe_int)
    (pss_cons (ps_for PassesOwn.never rfl (pi_items (Lc.pe_lockV (pe_call GS (hr.mono (by decide)) (by rfl) DS.m DS.F.kp DS.b .nil pass0 (pa_cons (pv 0) pa_nil)))) (pg_tup rfl (pgs_cons (pg_name (i := 3) scAlt.nd rfl (Or.inl rfl)) (pgs_cons (pg_name (i := 4) scAlt.nd rfl (Or.inl rfl)) pgs_nil)))
      (pss_cons (ps_set (i := 5) scAlt.nd rfl (Or.inl rfl) (pe_ifExp (pt_cmpR op_eq (pe_op op_modN (pe_op op_sub (pe_callB call_len_str (by rfl) T.len PySem.boot_len (pa_cons (pv 0) pa_nil)) (pe_callB call_len_str (by rfl) T.len PySem.boot_len (pa_cons (pv 3) pa_nil))) pe_int) pe_int (nomark _)) pe_int (pe_un un_neg pe_int)))
      (pss_one (ps_set (i := 2) scAlt.nd rfl (Or.inl rfl) (pe_op op_add (pv 2) (pe_op op_mul (pe_op op_mul (pv 5) (pv 4)) (pe_dget hu (pv 1) (pv 3) (fun _ _ => rfl))))))))
    (pss_one (ps_ret (pv 2))))), ?_⟩
    dsimp only [tSeq, gName]
    refine ⟨_, rfl, z, rfl, hz, fun D H1 s1 nD e1 => ⟨D, _, rfl, e1, (by unfold Mut; simp), fun od => ⟨D, od, _, rfl, upd_same, ?_⟩⟩⟩
    have s2 : Same H (upd H1 D (.frz od (.dK (kvS (Ty.sels (cds z)))))) := fun b o e => by
      rw [upd_ne (ne_of_none e nD)]
      exact s1 _ _ e
    have eD : (upd H1 D (.frz od (.dK (kvS (Ty.sels (cds z)))))) D = some (.frz od (.dK (kvS (Ty.sels (cds z))))) := upd_same
    generalize upd H1 D (.frz od (.dK (kvS (Ty.sels (cds z))))) = H2 at s2 eD ⊢
    have sub := sels_sub (l := cds z)
    have ew := Ty.sels_weight (cds z) g
    generalize Ty.sels (cds z) = G at eD sub ew hk ⊢
    refine Lc.for_items (fun j σ H4 => ∃ u3 u4 u5 : Option V, σ = [some (.str z), some (.ref d), some (.int (Ty.dsum (G.take j) fun s => (if ((cds z).length - s.length) % 2 = 0 then 1 else -1) * g s)), u3, u4, u5] ∧ Same H H4 ∧ H4 D = some (.frz od (.dK (kvS G)))) ⟨none, none, none, rfl, s2, eD⟩ (fun j σ H4 h => by obtain ⟨_, _, _, _, _, e⟩ := h; exact e) ?_ ?_
    · rintro j k' v T' σ H4 hkk ⟨v3, v4, v5, rfl, s4, eD4⟩ nT
      have hj := (List.getElem?_eq_some_iff.mp hkk).1
      rw [List.length_map] at hj
      rw [List.getElem?_map, List.getElem?_eq_getElem hj] at hkk
      cases hkk
      have sT := same_upd (o := .tup [kV (Sum.inr (tx G[j].1)), V.int G[j].2]) nT
      refine ⟨T', _, rfl, SqT.of upd_same, rfl, _, _, rfl, _, _, rfl, rfl, ?_⟩
      have eD5 := sT _ _ eD4
      have s5 := s4.trans sT
      generalize upd H4 T' (.tup [kV (Sum.inr (tx G[j].1)), V.int G[j].2]) = H5 at eD5 s5 ⊢
      have hs := sub _ (List.getElem_mem hj)
      obtain ⟨hv, hb1, hb2⟩ := hk G[j].1 (List.mem_map.mpr ⟨_, List.getElem_mem hj, rfl⟩)
      have G1 := DGet.k (k := (Sum.inr (tx G[j].1) : Key)) (s5 _ _ ed)
      rw [hv] at G1
      have et : Ty.dsum (G.take (j + 1)) (fun s => (if ((cds z).length - s.length) % 2 = 0 then 1 else -1) * g s) = Ty.dsum (G.take j) (fun s => (if ((cds z).length - s.length) % 2 = 0 then 1 else -1) * g s) + G[j].2 * ((if ((cds z).length - G[j].1.length) % 2 = 0 then 1 else -1) * g G[j].1) := by
        rw [List.take_add_one, List.getElem?_eq_getElem hj, Ty.dsum_app]
        show _ + (_ + 0) = _
        rw [Int.add_zero]
      have em : Int.fmod ((z.length : Int) - ((tx G[j].1).length : Int)) 2 = ((((cds z).length - G[j].1.length) % 2 : Nat) : Int) := by
        have e1 : (cds z).length = z.length := cds_len z
        have hs1 := hs.1
        rw [tx_len, Int.fmod_eq_emod_of_nonneg _ (by decide), e1]
        omega
      have l1 : z.length ≤ sizeLine := Nat.le_trans hz (by decide)
      have l2 : (tx G[j].1).length ≤ sizeLine := by rw [tx_len]; exact Nat.le_trans (Nat.le_trans hs.1 hz) (by decide)
      refine ⟨_, rfl, z, rfl, l1, _, rfl, _, rfl, l2, _, _, rfl, rfl, _, _, rfl, rfl, (show (2 : Int) ≠ 0 by decide), rfl, _, rfl, ?_⟩
      rcases Nat.mod_two_eq_zero_or_one ((cds z).length - G[j].1.length) with e | e
      · rw [if_pos e] at et
        dsimp only
        rw [decide_eq_true (show V.int (Int.fmod ((z.length : Int) - ((tx G[j].1).length : Int)) 2) = V.int 0 by rw [em, e]; rfl)]
        refine iteT ?_
        refine ⟨_, rfl, _, rfl, _, rfl, _, _, rfl, rfl, .inl ⟨by decide, by decide⟩, _, rfl, _, rfl, d, _, rfl, G1, _, _, rfl, rfl, .inr ⟨hb1, hb2⟩, _, _, rfl, rfl, some (.str (tx G[j].1)), some (.int G[j].2), some (.int 1), ?_, s5, eD5⟩
        rw [et, ← Int.mul_assoc, Int.mul_comm G[j].2 1]
        rfl
      · rw [if_neg (by omega)] at et
        dsimp only
        rw [decide_eq_false (show ¬ V.int (Int.fmod ((z.length : Int) - ((tx G[j].1).length : Int)) 2) = V.int 0 from fun y => by rw [em, e] at y; cases y)]
        refine iteF ?_
        refine ⟨1, rfl, _, rfl, _, rfl, _, rfl, _, _, rfl, rfl, .inl ⟨by decide, by decide⟩, _, rfl, _, rfl, d, _, rfl, G1, _, _, rfl, rfl, .inr ⟨hb1, hb2⟩, _, _, rfl, rfl, some (.str (tx G[j].1)), some (.int G[j].2), some (.int (-1)), ?_, s5, eD5⟩
        rw [et, ← Int.mul_assoc, Int.mul_comm G[j].2 (-1)]
        rfl
    · rintro σ H4 ⟨v3, v4, v5, rfl, s4, _⟩
      rw [List.length_map, List.take_of_length_le (Nat.le_refl _), ew]
      exact ⟨_, rfl, q H4 s4⟩
end
end K6

set_option Elab.async false
set_option linter.all false
set_option maxRecDepth 100000
set_option maxHeartbeats 3200000
/-! {k: .. for k in d}, {x: .. for x in a tuple} with all keys new -/
namespace Lc
open PySem L2 Tx Tg Tm RZ
theorem dc_keys {d : Addr} {o : Obj} {kvs : List (Key × V)} {g : TG} {tt : TT} {tk tv : TE} {vs : List Nat} {σ : L2.St} {H1 : Hp} {D : Addr} {Qd : Hp → Prop} (Pv : Nat → Hp → Prop) (h0 : Pv 0 (upd H1 D (.dK [])))
    (hf : ∀ i H, Pv i H → H d = some (.frz o (.dK kvs))) (hs : ∀ i k v H, kvs[i]? = some (k, v) → Pv i H → g (kV k) (wipe σ vs) H fun σ2 H2 => wipe σ2 vs = wipe σ vs ∧ tt σ2 H2 fun b H3 =>
      if b = true then tk σ2 H3 fun y H4 => tv σ2 H4 fun z H5 => ∃ kvs k, y = kV k ∧ H5 D = some (.dK kvs) ∧ kvs.length < sizeLine ∧ Pv (i + 1) (upd H5 D (.dK (putK kvs k z))) else Pv (i + 1) H3) (hd : ∀ H, Pv kvs.length H → Qd H) :
    ∃ W : Nat → Nat → Hp → Prop, (∃ m, W 0 m (upd H1 D (.dK []))) ∧ ∀ i m H, W i m H →
      ((Itk d o kvs).stop i H ∧ Qd H) ∨ ((Itk d o kvs).go i H ∧ ∃ Nx : Hp → Prop, (∀ H', Nx H' → ∃ m', m' < m ∧ W (i + 1) m' H') ∧ ∀ v H', (Itk d o kvs).yld i H v H' → g v (wipe σ vs) H' fun σ2 H2 => wipe σ2 vs = wipe σ vs ∧ tt σ2 H2 fun b H3 =>
        if b = true then tk σ2 H3 fun y H4 => tv σ2 H4 fun z H5 => ∃ kvs k, y = kV k ∧ H5 D = some (.dK kvs) ∧ kvs.length < sizeLine ∧ Nx (upd H5 D (.dK (putK kvs k z))) else Nx H3) := by
  refine ⟨fun i m H => m = kvs.length - i ∧ i ≤ kvs.length ∧ Pv i H, ⟨kvs.length, by simp, Nat.zero_le _, h0⟩, ?_⟩
  rintro i m H ⟨rfl, hi, p⟩
  by_cases hlt : i < kvs.length
  · refine .inr ⟨⟨hf i H p, hlt⟩, Pv (i + 1), fun H' p' => ⟨kvs.length - (i + 1), by omega, rfl, hlt, p'⟩, fun x H' y => ?_⟩
    obtain ⟨rfl, k, v, e, rfl⟩ := y
    exact hs i k v _ e p
  · have e : i = kvs.length := by omega
    subst e
    exact .inl ⟨⟨hf _ H p, Nat.le_refl _⟩, hd H p⟩
theorem putK_app {kvs : List (Key × V)} {k : Key} {v : V} (h : k ∉ kvs.map (·.1)) : putK kvs k v = kvs ++ [(k, v)] := by
  unfold putK
  rw [if_neg]
  intro z
  obtain ⟨kv, hk, e⟩ := List.any_eq_true.mp z
  exact h (List.mem_map.mpr ⟨kv, hk, of_decide_eq_true e⟩)
/-- each key of a dict with a new value -/
theorem dcK {d : Addr} {o : Obj} {kvs : List (Key × V)} {j : Nat} {tv : TE} {σ : L2.St} {H1 : Hp} {D : Addr} {Qd : Hp → Prop} {F : Key → V} (ed : H1 d = some (.frz o (.dK kvs))) (nd : (kvs.map (·.1)).Nodup) (nD : H1 D = none) (hz : kvs.length < sizeLine)
    (hw : ∀ v, wipe ((wipe σ [j]).set j (some v)) [j] = wipe σ [j]) (hj : ∀ v, ((wipe σ [j]).set j (some v))[j]? = some (some v))
    (hs : ∀ (i : Nat) (k : Key) (v : V) (H2 : Hp), kvs[i]? = some (k, v) → Same H1 H2 → ∀ Q : VK, (∀ H3, Same H2 H3 → Q (F k) H3) → tv ((wipe σ [j]).set j (some (kV k))) H2 Q) (hd : ∀ H2, Same H1 H2 → H2 D = some (.dK (kvs.map fun kv => (kv.1, F kv.1))) → Qd H2) :
    ∃ W : Nat → Nat → Hp → Prop, (∃ m, W 0 m (upd H1 D (.dK []))) ∧ ∀ i m H, W i m H →
      ((Itk d o kvs).stop i H ∧ Qd H) ∨ ((Itk d o kvs).go i H ∧ ∃ Nx : Hp → Prop, (∀ H', Nx H' → ∃ m', m' < m ∧ W (i + 1) m' H') ∧ ∀ v H', (Itk d o kvs).yld i H v H' → gName j v (wipe σ [j]) H' fun σ2 H2 => wipe σ2 [j] = wipe σ [j] ∧ tYes σ2 H2 fun b H3 =>
        if b = true then tVar j σ2 H3 fun y H4 => tv σ2 H4 fun z H5 => ∃ kvs k, y = kV k ∧ H5 D = some (.dK kvs) ∧ kvs.length < sizeLine ∧ Nx (upd H5 D (.dK (putK kvs k z))) else Nx H3) := by
  refine dc_keys (fun i H2 => Same H1 H2 ∧ H2 D = some (.dK ((kvs.take i).map fun kv => (kv.1, F kv.1)))) ⟨same_upd nD, upd_same⟩ (fun i H2 z => z.1 _ _ ed) ?_ ?_
  · rintro i k v H2 hk ⟨s2, e2⟩
    have hi := (List.getElem?_eq_some_iff.mp hk).1
    refine ⟨hw _, iteT (B := False) ?_⟩
    refine ⟨_, hj _, hs i k v H2 hk s2 _ fun H3 s3 => ⟨_, k, rfl, s3 _ _ e2, ?_, same_put (s2.trans s3) nD, ?_⟩⟩
    · rw [List.length_map, List.length_take]
      omega
    · rw [upd_same, putK_app, List.take_add_one, hk]
      · rw [List.map_append]
        rfl
      · rw [List.map_map]
        intro hm
        obtain ⟨kv, h1, e1⟩ := List.mem_map.mp hm
        obtain ⟨m, hm⟩ := List.mem_iff_getElem?.mp h1
        have hm1 := (List.getElem?_eq_some_iff.mp hm).1
        rw [List.length_take] at hm1
        rw [List.getElem?_take, if_pos (by omega)] at hm
        have a1 : (kvs.map (·.1))[m]? = some kv.1 := by rw [List.getElem?_map, hm]; rfl
        have a2 : (kvs.map (·.1))[i]? = some k := by rw [List.getElem?_map, hk]; rfl
        have e1 : kv.1 = k := e1
        rw [e1] at a1
        have := (List.getElem?_inj (by rw [List.length_map]; omega) nd).mp (a1.trans a2.symm)
        omega
  · rintro H2 ⟨s2, e2⟩
    rw [List.take_of_length_le (Nat.le_refl _)] at e2
    exact hd H2 s2 e2
/-- each item of a tuple of unlike texts with a value -/
theorem dcT {K : PySem.W.Frag} {a : Addr} {ts : List Str} {j : Nat} {tv : TE} {σ : L2.St} {H1 : Hp} {D : Addr} {Qd : Hp → Prop} {F : Str → V} (ea : SqT K H1 a (ts.map V.str)) (nd : ts.Nodup) (nD : H1 D = none) (hz : ts.length < sizeLine)
    (hw : ∀ v, wipe ((wipe σ [j]).set j (some v)) [j] = wipe σ [j]) (hj : ∀ v, ((wipe σ [j]).set j (some v))[j]? = some (some v))
    (hs : ∀ (i : Nat) (t : Str) (H2 : Hp), ts[i]? = some t → Same H1 H2 → ∀ Q : VK, (∀ H3, Same H2 H3 → Q (F t) H3) → tv ((wipe σ [j]).set j (some (.str t))) H2 Q) (hd : ∀ H2, Same H1 H2 → H2 D = some (.dK (ts.map fun t => ((Sum.inr t : Key), F t))) → Qd H2) :
    ∃ W : Nat → Nat → Hp → Prop, (∃ m, W 0 m (upd H1 D (.dK []))) ∧ ∀ i m H, W i m H →
      ((Itt K a).stop i H ∧ Qd H) ∨ ((Itt K a).go i H ∧ ∃ Nx : Hp → Prop, (∀ H', Nx H' → ∃ m', m' < m ∧ W (i + 1) m' H') ∧ ∀ v H', (Itt K a).yld i H v H' → gName j v (wipe σ [j]) H' fun σ2 H2 => wipe σ2 [j] = wipe σ [j] ∧ tYes σ2 H2 fun b H3 =>
        if b = true then tVar j σ2 H3 fun y H4 => tv σ2 H4 fun z H5 => ∃ kvs k, y = kV k ∧ H5 D = some (.dK kvs) ∧ kvs.length < sizeLine ∧ Nx (upd H5 D (.dK (putK kvs k z))) else Nx H3) := by
  have key : ∀ i H, i ≤ ts.length ∧ (Same H1 H ∧ H D = some (.dK ((ts.take i).map fun t => ((Sum.inr t : Key), F t)))) → SqT K H a (ts.map V.str) := fun i H h => sqT_same h.2.1 ea
  refine ⟨fun i m H => m = ts.length - i ∧ i ≤ ts.length ∧ (Same H1 H ∧ H D = some (.dK ((ts.take i).map fun t => ((Sum.inr t : Key), F t)))), ⟨ts.length, by simp, Nat.zero_le _, same_upd nD, upd_same⟩, ?_⟩
  rintro i m H ⟨rfl, hi, s2, e2⟩
  have ea2 := key i H ⟨hi, s2, e2⟩
  by_cases hlt : i < ts.length
  · have hx : (ts.map V.str)[i]? = some (V.str ts[i]) := by rw [List.getElem?_map, List.getElem?_eq_getElem hlt]; rfl
    refine .inr ⟨⟨_, _, ea2, hx⟩, fun H' => i + 1 ≤ ts.length ∧ (Same H1 H' ∧ H' D = some (.dK ((ts.take (i + 1)).map fun t => ((Sum.inr t : Key), F t)))), fun H' p' => ⟨ts.length - (i + 1), by omega, rfl, p'⟩, fun v H' y => ?_⟩
    obtain ⟨rfl, hv⟩ := y
    have ev := hv _ ea2
    rw [hx] at ev
    cases ev
    refine ⟨hw _, iteT (B := False) ?_⟩
    refine ⟨_, hj _, hs i ts[i] H' (List.getElem?_eq_getElem hlt) s2 _ fun H3 s3 => ⟨_, Sum.inr ts[i], rfl, s3 _ _ e2, ?_, hlt, same_put (s2.trans s3) nD, ?_⟩⟩
    · rw [List.length_map, List.length_take]
      omega
    · rw [upd_same, putK_app, List.take_add_one, List.getElem?_eq_getElem hlt]
      · rw [List.map_append]
        rfl
      · rw [List.map_map]
        intro hm
        obtain ⟨t, h1, e1⟩ := List.mem_map.mp hm
        have e1 : t = ts[i] := by injection e1
        obtain ⟨m, hm⟩ := List.mem_iff_getElem?.mp h1
        have hm1 := (List.getElem?_eq_some_iff.mp hm).1
        rw [List.length_take] at hm1
        rw [List.getElem?_take, if_pos (by omega), e1] at hm
        have := (List.getElem?_inj (by omega) nd).mp (hm.trans (List.getElem?_eq_getElem hlt).symm)
        omega
  · have e : i = ts.length := by omega
    subst e
    rw [List.take_of_length_le (Nat.le_refl _)] at e2
    exact .inl ⟨⟨_, ea2, by rw [List.length_map]; exact Nat.le_refl _⟩, hd H s2 e2⟩
end Lc

set_option Elab.async false
set_option linter.all false
set_option maxRecDepth 100000
set_option maxHeartbeats 3200000
/-! lambdas with one parameter as values: made, handed on, called -/
namespace Lp
open PySem PySem.Spec PyProof.Rows L2 LamX
/-! ### pinned objects -/
/-- an object that stays just as it is -/
abbrev PinO (o : Obj) : HO := .frz o (.ext fun _ => True)
abbrev Pins := List (Addr × Obj)
def pin (L : Pins) (H : Hp) : Hp := fun b => match L.lookup b with
  | some o => some (PinO o)
  | none => H b
def unp (L : Pins) (H : Hp) : Hp := fun b => match L.lookup b with
  | some _ => none
  | none => H b
def Pinned (L : Pins) (H : Hp) : Prop := ∀ b o, L.lookup b = some o → H b = some (PinO o)
def Clear (L : Pins) (H : Hp) : Prop := ∀ b o, L.lookup b = some o → H b = none
section
variable {L : Pins} {H H' : Hp} {b : Addr} {o : Obj} {u : HO}
theorem pin_at (h : L.lookup b = some o) : pin L H b = some (PinO o) := by unfold pin; rw [h]
theorem pin_off (h : L.lookup b = none) : pin L H b = H b := by unfold pin; rw [h]
theorem unp_at (h : L.lookup b = some o) : unp L H b = none := by unfold unp; rw [h]
theorem unp_off (h : L.lookup b = none) : unp L H b = H b := by unfold unp; rw [h]
theorem pinned_pin : Pinned L (pin L H) := fun b o h => pin_at h
theorem clear_unp : Clear L (unp L H) := fun b o h => unp_at h
theorem pin_unp (h : Pinned L H) : pin L (unp L H) = H := funext fun b => by
  cases q : L.lookup b with
  | some o => rw [pin_at q, h b o q]
  | none => rw [pin_off q, unp_off q]
theorem unp_pin (h : Clear L H) : unp L (pin L H) = H := funext fun b => by
  cases q : L.lookup b with
  | some o => rw [unp_at q, h b o q]
  | none => rw [unp_off q, pin_off q]
theorem off_c (h : Clear L H) (e : H b = some u) : L.lookup b = none := by
  cases q : L.lookup b with
  | none => rfl
  | some o =>
    rw [h b o q] at e
    cases e
theorem off_p (h : Pinned L H) (e : H b = some u) (n : ∀ o, u ≠ PinO o) : L.lookup b = none := by
  cases q : L.lookup b with
  | none => rfl
  | some o =>
    rw [h b o q] at e
    exact absurd (Option.some.inj e).symm (n o)
theorem pin_some (h : Clear L H) (e : H b = some u) : pin L H b = some u := by rw [pin_off (off_c h e), e]
theorem unp_some (h : Pinned L H) (e : H b = some u) (n : ∀ o, u ≠ PinO o) : unp L H b = some u := by rw [unp_off (off_p h e n), e]
theorem Pinned.same (s : ∀ b o, H b = some o → H' b = some o) (h : Pinned L H) : Pinned L H' := fun b o q => s _ _ (h b o q)
/-- what stays, seen without the pins -/
theorem same_unp (hc : Clear L H) (s : ∀ b o, pin L H b = some o → H' b = some o) : ∀ b o, H b = some o → unp L H' b = some o := fun b o e => by
  have q := off_c hc e
  rw [unp_off q]
  exact s b o (by rw [pin_off q, e])
end
section
variable {P : Program} {w : World} {K : PySem.W.Frag} {mg : Str → Option Value} {base : Heap} {A : Around} {outer : List Env} {s s' : Shared} {L : Pins} {H : Hp} {h : Heap}
theorem hok_pin (ok : HOk P w H h) (hc : Clear L H) (he : ∀ b o, L.lookup b = some o → h.get? b = some o) : HOk P w (pin L H) h := fun a u e => by
  cases q : L.lookup a with
  | some o =>
    rw [pin_at q] at e
    cases e
    exact ⟨he a o q, trivial, ⟨o, he a o q⟩, fun _ _ _ _ => trivial⟩
  | none =>
    rw [pin_off q] at e
    exact (ok a u e).stay (fun _ _ _ z => z) (fun b z => pin_some hc z) fun b xs z => pin_some hc z
theorem hok_unp (ok : HOk P w H h) (hp : Pinned L H) : HOk P w (unp L H) h := fun a u e => by
  cases q : L.lookup a with
  | some o =>
    rw [unp_at q] at e
    cases e
  | none =>
    rw [unp_off q] at e
    exact (ok a u e).stay (fun _ _ _ z => z) (fun b z => unp_some hp z fun o y => by cases y) fun b xs z => unp_some hp z fun o y => by cases y
theorem pinned_get (ok : HOk P w H h) (hp : Pinned L H) : ∀ b o, L.lookup b = some o → h.get? b = some o := fun b o q => (ok b _ (hp b o q)).1
theorem env_pin (e : Env0 P w K mg base A outer s H) (hc : Clear L H) (he : ∀ b o, L.lookup b = some o → s.heap.get? b = some o) (hf : ∀ b o, L.lookup b = some o → b ∉ frs outer) (hb : ∀ b o, L.lookup b = some o → base.get? b = none) : Env0 P w K mg base A outer s (pin L H) where
  frames := e.frames
  mod := e.mod
  bs := fun b o q => by
    refine ⟨(e.bs b o q).1, ?_⟩
    cases z : L.lookup b with
    | none => rw [pin_off z, (e.bs b o q).2]
    | some o' =>
      rw [hb b o' z] at q
      cases q
  bsz := e.bsz
  funs := e.funs
  frf := fun b q => by
    cases z : L.lookup b with
    | none => rw [pin_off z, e.frf b q]
    | some o' => exact absurd q (hf b o' z)
  hok := hok_pin e.hok hc he
  bare := e.bare
theorem env_unp (e : Env0 P w K mg base A outer s H) (hp : Pinned L H) : Env0 P w K mg base A outer s (unp L H) where
  frames := e.frames
  mod := e.mod
  bs := fun b o q => by
    refine ⟨(e.bs b o q).1, ?_⟩
    cases z : L.lookup b with
    | none => rw [unp_off z, (e.bs b o q).2]
    | some o' => exact unp_at z
  bsz := e.bsz
  funs := e.funs
  frf := fun b q => by
    cases z : L.lookup b with
    | none => rw [unp_off z, e.frf b q]
    | some o' => exact unp_at z
  hok := hok_unp e.hok hp
  bare := e.bare
/-- a call's end, the pins taken off -/
theorem ce_out {Q : VK} {u : Value} (hc : Clear L H) (he : ∀ b o, L.lookup b = some o → s.heap.get? b = some o) (h : CE outer P w (pin L H) s (fun v H2 => Q v (unp L H2)) u s') : CE outer P w H s Q u s' := by
  obtain ⟨v, H2, os, bare, un, ok, rv, q⟩ := h
  have hp : Pinned L H2 := fun b o z => un.frzs b o _ (pin_at z)
  have hg := pinned_get ok hp
  refine ⟨v, unp L H2, os, bare, ⟨fun b o e n hf hx => ?_, fun b o e n hf hx => ?_, fun b o e n hx => ?_, un.there, fun b xs e => ?_, fun b o u e => ?_, fun b ps e => ?_⟩, hok_unp ok hp, rv, q⟩
  · cases z : L.lookup b with
    | some o' =>
      rw [he b o' z] at e
      cases e
      exact hg b _ z
    | none => exact un.keep b o e (by rw [pin_off z]; exact n) hf hx
  · cases z : L.lookup b with
    | some o' =>
      rw [he b o' z] at e
      cases e
      exact ⟨o.slots, hg b _ z⟩
    | none => exact un.slot b o e (by rw [pin_off z]; exact n) hf hx
  · cases z : L.lookup b with
    | some o' => exact unp_at z
    | none => rw [unp_off z]; exact un.free b o e (by rw [pin_off z]; exact n) hx
  · have z := off_c hc e
    rw [unp_off z]
    exact un.tups b xs (by rw [pin_off z]; exact e)
  · have z := off_c hc e
    rw [unp_off z]
    exact un.frzs b o u (by rw [pin_off z]; exact e)
  · have z := off_c hc e
    obtain ⟨more, y⟩ := un.tbls b ps (by rw [pin_off z]; exact e)
    exact ⟨more, by rw [unp_off z]; exact y⟩
/-- a call's end, the pins put on again -/
theorem ce_in {Q : VK} {u : Value} (hp : Pinned L H) (ok0 : HOk P w H s.heap) (hf : ∀ b o, L.lookup b = some o → b ∉ frs outer) (h : CE outer P w (unp L H) s (fun v H2 => Q v (pin L H2)) u s') : CE outer P w H s Q u s' := by
  obtain ⟨v, H2, os, bare, un, ok, rv, q⟩ := h
  have hg0 := pinned_get ok0 hp
  have hc : Clear L H2 := fun b o z => un.free b o (hg0 b o z) (unp_at z) (by simp)
  have hg : ∀ b o, L.lookup b = some o → s'.heap.get? b = some o := fun b o z => un.keep b o (hg0 b o z) (unp_at z) (hf b o z) (by simp)
  refine ⟨v, pin L H2, os, bare, ⟨fun b o e n hf hx => ?_, fun b o e n hf hx => ?_, fun b o e n hx => ?_, un.there, fun b xs e => ?_, fun b o u e => ?_, fun b ps e => ?_⟩, hok_pin ok hc hg, rv, q⟩
  · have z : L.lookup b = none := by
      cases z : L.lookup b with
      | none => rfl
      | some o' => rw [hp b o' z] at n; cases n
    exact un.keep b o e (by rw [unp_off z]; exact n) hf hx
  · have z : L.lookup b = none := by
      cases z : L.lookup b with
      | none => rfl
      | some o' => rw [hp b o' z] at n; cases n
    exact un.slot b o e (by rw [unp_off z]; exact n) hf hx
  · have z : L.lookup b = none := by
      cases z : L.lookup b with
      | none => rfl
      | some o' => rw [hp b o' z] at n; cases n
    rw [pin_off z]
    exact un.free b o e (by rw [unp_off z]; exact n) hx
  · have z := off_p hp e fun o y => by cases y
    rw [pin_off z]
    exact un.tups b xs (by rw [unp_off z]; exact e)
  · cases z : L.lookup b with
    | some o' =>
      rw [hp b o' z] at e
      rw [pin_at z, ← e]
    | none =>
      rw [pin_off z]
      exact un.frzs b o u (by rw [unp_off z]; exact e)
  · have z := off_p hp e fun o y => by cases y
    obtain ⟨more, y⟩ := un.tbls b ps (by rw [unp_off z]; exact e)
    exact ⟨more, by rw [pin_off z]; exact y⟩
end
/-! ### a lambda that can be called -/
/-- f, a lambda whose objects are pinned, keeps the promise -/
structure LamOk (P : Program) (w : World) (K : PySem.W.Frag) (mg : Str → Option Value) (base : Heap) (k : Nat) (f : Addr) (L : Pins) (c' : Addr) (q : Str) (sp : Sp) : Prop where
  fn : ∃ fo, L.lookup f = some fo ∧ ∀ h : Heap, h.get? f = some fo → PySem.W.FnAt f h
  run : ∀ (A : Around) (outer : List Env) (s : Shared) (H : Hp) (us : List Value) (vs : List V) (Q : VK), Room k A → Env0 P w K mg base A outer s H → Pinned L H → H c' = some (CodeO c' q) → Vals vs us → sp vs (unp L H) (fun v H' => Q v (pin L H')) E0 →
    codeAny (model P w) A (.call (.ref f) ⟨us, []⟩) (CR CX0 outer P w H s Q E0) s
/-- ready: the pins, and the code object -/
structure LamRdy (L : Pins) (c' : Addr) (q : Str) (H : Hp) : Prop where
  pn : Pinned L H
  co : H c' = some (CodeO c' q)
theorem LamRdy.same {L : Pins} {c' : Addr} {q : Str} {H H' : Hp} (s : ∀ b o, H b = some o → H' b = some o) (h : LamRdy L c' q H) : LamRdy L c' q H' := ⟨h.pn.same s, s _ _ h.co⟩
def tLamCall (i : Nat) (f : Addr) (L : Pins) (c' : Addr) (q : Str) (sp : Sp) (t : TA) : TE := fun σ H Q => σ[i]? = some (some (.ref f)) ∧ LamRdy L c' q H ∧ t σ H fun vs H1 => LamRdy L c' q H1 ∧ sp vs (unp L H1) (fun v H' => Q v (pin L H')) E0
section
variable {X : Cx} {k i : Nat} {f c' : Addr} {L : Pins} {q : Str} {sp : Sp} {x : Str} {p pos : Pos} {e : Expr} {es : List Expr} {t : TA}
/-- a(e, ..), a a local that holds a lambda -/
theorem pe_lamc (F : LamOk X.prog X.w X.K X.mg X.base k f L c' q sp) (hr : Room k X.A) (hN : X.N[i]? = some x) (hv : Vis X.env.scope x) (ha : PA X (e :: es) t)
    (hd : (x == ("__debug__" : Str)) = false := by decide) (hcd : (x == ("__classdict__" : Str)) = false := by decide)
    (he : starEach (e :: es) X.env = (false, eval e X.env) :: starEach es X.env := by rfl) (hpl : (backTo pos (starEach es X.env)).any (·.1) = false := by rfl) :
    PE X (.Call (.Name x p) (e :: es) [] pos) (tLamCall i f L c' q sp t) := by
  refine ⟨fun pins s σ H Q I h => ?_⟩
  obtain ⟨hs, hR, ht⟩ := h
  obtain ⟨fo, hfo, at_⟩ := F.fn
  refine wpAny_Call_Name_kw (thn ((pe_var (pos := p) (i := i) hN hv hd hcd).run pins s σ H (fun v H1 => v = .ref f ∧ H1 = H) I ⟨.ref f, hs, rfl, rfl⟩) fun u s1 ⟨v, H1, I1, r1, q1⟩ => ?_)
  obtain ⟨ev, eH⟩ := q1
  subst ev
  subst eH
  obtain rfl : u = Value.ref f := r1
  refine PySem.W.callWith_F (at_ _ (pinned_get I1.hok hR.pn f fo hfo)) (thn (ha.run pos pins s1 σ H1 _ I1 ht) fun us s2 ⟨vs, H2, I2, r2, hR2, q2⟩ => ⟨at_ _ (pinned_get I2.hok hR2.pn f fo hfo), ?_⟩) he hpl
  refine wpAny_call (codeAny_mono (F.run X.A X.stack s2 H2 us vs Q hr I2.env0 hR2.pn hR2.co r2 q2) fun r s' hq => ?_)
  cases r with
  | error e => exact (show False from hq).elim
  | ok fl =>
    cases fl with
    | ret u => exact I2.after hq
    | next => exact False.elim hq
    | brk => exact False.elim hq
    | cont => exact False.elim hq
end
/-! ### the lambda's frame -/
/-- one parameter a; all other names captured or global -/
structure LamS1 (sc scope : Scope) (a : Str) : Prop where
  kind : scope.kind = .function
  co : scope.isCoroutine = false
  gen : scope.isGenerator = false
  par : scope.names.lookup a = some .local
  own : ∀ y ∈ scope.names, y.2 ≠ .cell ∧ (y.2 = .local → y.1 = a)
  free : ∀ y ∈ scope.names, y.2 = .free → sc.names.lookup y.1 = some .cell ∨ sc.names.lookup y.1 = some .free
def lamSB1 (sc scope : Scope) (a : Str) : Bool :=
  decide (scope.kind = .function) && (!scope.isCoroutine && (!scope.isGenerator && (decide (scope.names.lookup a = some .local) && scope.names.all fun y => !decide (y.2 = .cell) && ((!decide (y.2 = .local) || decide (y.1 = a)) && (!decide (y.2 = .free) || (decide (sc.names.lookup y.1 = some .cell) || decide (sc.names.lookup y.1 = some .free)))))))
theorem lamS1_by {sc scope : Scope} {a : Str} (h : lamSB1 sc scope a = true) : LamS1 sc scope a := by
  unfold lamSB1 at h
  simp only [Bool.and_eq_true, Bool.or_eq_true, Bool.not_eq_true', decide_eq_true_eq, decide_eq_false_iff_not, List.all_eq_true] at h
  obtain ⟨h1, h2, h3, h4, h5⟩ := h
  exact ⟨h1, h2, h3, h4, fun y hy => ⟨(h5 y hy).1, fun e => (h5 y hy).2.1.resolve_left fun n => n e⟩, fun y hy e => (h5 y hy).2.2.resolve_left fun n => n e⟩
/-- a captured name's cell is the maker's -/
theorem clo_cell {cells : List (Str × Addr)} {names : List (Str × NameKind)} (hfree : ∀ y ∈ names, y.2 = .free → ∃ c, cells.lookup y.1 = some c) {y : Str} {c : Addr} (e : (cloFrom cells names []).lookup y = some c) : cells.lookup y = some c ∧ (y, NameKind.free) ∈ names := by
  rcases cloFrom_mem (PySem.mem_of_lookup e) with z | ⟨h1, h2⟩
  · cases z
  · obtain ⟨c1, hc⟩ := hfree _ h1 rfl
    have hc : cells.lookup y = some c1 := hc
    refine ⟨?_, h1⟩
    rw [h2, hc]
    rfl
section
variable {X : Cx} {pins : List (Addr × Obj)} {σ : L2.St} {H Hc : Hp} {s s1 : Shared} {A : Around} {outer : List Env} {E : XK} {scope : Scope} {a : Str} {f c' : Addr} {L : Pins}
theorem LamS1.has (S : LamS1 X.env.scope scope a) (ok : X.Ok) : ∀ y ∈ scope.names, y.2 = .free → ∃ c, X.env.cells.lookup y.1 = some c := fun y hy e => by
  rcases S.free y hy e with z | z
  · exact ok.has _ (.inl z)
  · exact ok.has _ (.inr z)
theorem lam_inv {j : Nat} {v0 : V} {u0 : Value} {h1 : Heap} {tk : Nat} (I : Inv X pins σ H s) (S : LamS1 X.env.scope scope a) (hL : ∀ b o, L.lookup b = some o → s.heap.get? b = some o) (hcell : ∀ y c, X.env.cells.lookup y = some c → ∃ o, L.lookup c = some o)
    (nd : X.N.Nodup) (hj : X.N[j]? = some a) (rv : RelV v0 u0) (e0 : Env0 X.prog X.w X.K X.mg X.base A outer s1 Hc) (hp : Pinned L Hc) (hd : A.handled = none) (hns : h1.Ns s1.heap.objs.size fun y => [(a, u0)].reverse.lookup y) (kp : ∀ b o, s1.heap.get? b = some o → h1.get? b = some o) :
    Inv (lamCx X A outer s1 (unp L Hc) E scope f c') [] (σ.set j (some v0)) (unp L Hc) { s1 with heap := h1, toks := tk } := by
  have hfree := S.has I.ok
  have eU := env_unp e0 hp
  have hg1 := pinned_get e0.hok hp
  have cm := @clo_cell X.env.cells scope.names hfree
  have nc : ∀ y c, (lamEnv X scope s1.heap.objs.size f c').cells.lookup y = some c → ∃ o, L.lookup c = some o ∧ s.heap.get? c = some o ∧ h1.get? c = some o := fun y c e => by
    obtain ⟨o, ho⟩ := hcell y c (cm e).1
    exact ⟨o, ho, hL c o ho, kp _ _ (hg1 c o ho)⟩
  have noA : ∀ b : Addr, b ∈ (lamCx X A outer s1 (unp L Hc) E scope f c').ex → False := fun b z => nomatch (show b ∈ ([] : List Addr) from z)
  refine { ok := { mod := e0.mod, kind := S.kind, glob := rfl, blt := rfl, above := Nat.le_refl _, inj := fun y z c e1 e2 => I.ok.inj y z c (cm e1).1 (cm e2).1, has := fun y hy => ?_, cab := fun y c z _ => (nomatch (show false = true from z)), hd := fun _ => hd, frames := Around.frames_deeper e0.frames,
                   stk := .inr ⟨rfl, rfl⟩, exf := fun b z => (noA b z).elim, bs := eU.bs, bsz := eU.bsz, noex := fun b _ _ z => noA b z, exfs := fun b z => (noA b z).elim, funs := eU.funs, frf := eU.frf }
           os := rfl, bare := eU.bare, base := Un.kept kp, loc := ⟨_, hns, fun i y v e1 e2 e3 => ?_⟩, cell := fun y c e => ?_, free := eU.hok.fresh (Nat.le_refl _), freeC := fun y c e => ?_, pin := fun q hq => (nomatch (show q ∈ ([] : List (Addr × Obj)) ++ [] from hq)), hok := eU.hok.kept kp, len := ?_ }
  · have hy : scope.names.lookup y = some .cell ∨ scope.names.lookup y = some .free := hy
    rcases hy with hy | hy
    · exact absurd rfl (S.own _ (PySem.mem_of_lookup hy)).1
    · exact mem_lookup (cloFrom_has (cells := X.env.cells) (acc := []) (PySem.mem_of_lookup hy))
  · have e1 : X.N[i]? = some y := e1
    have e3 : Vis scope y := e3
    have hi := (List.getElem?_eq_some_iff.mp e1).1
    have hj' := (List.getElem?_eq_some_iff.mp hj).1
    by_cases ya : y = a
    · subst ya
      have hij : i = j := (List.getElem?_inj hi nd).mp (e1.trans hj.symm)
      subst hij
      rw [List.getElem?_set_self (by rw [I.len]; exact hi)] at e2
      cases e2
      refine ⟨u0, rv, .inl ⟨S.par, ?_⟩⟩
      show List.lookup y [(y, u0)] = some u0
      rw [List.lookup_cons, beq_self_eq_true]
    · have hk : scope.names.lookup y = some .free := by
        rcases e3 with z | z | z
        · exact absurd ((S.own _ (PySem.mem_of_lookup z)).2 rfl) ya
        · exact absurd rfl (S.own _ (PySem.mem_of_lookup z)).1
        · exact z
      have hij : j ≠ i := fun z => ya (Option.some.inj (e1.symm.trans (by rw [← z]; exact hj)))
      rw [List.getElem?_set_ne hij] at e2
      obtain ⟨m, hn, hl⟩ := I.loc
      have hvis : Vis X.env.scope y := (S.free _ (PySem.mem_of_lookup hk) rfl).elim (fun z => .inr (.inl z)) fun z => .inr (.inr z)
      obtain ⟨u, r, lk⟩ := hl i y v e1 e2 hvis
      obtain ⟨c2, h2⟩ := mem_lookup (cloFrom_has (cells := X.env.cells) (acc := []) (PySem.mem_of_lookup hk))
      obtain ⟨o, _, ho1, ho2⟩ := nc y c2 h2
      refine ⟨u, r, .inr ⟨.inr hk, c2, h2, ?_⟩⟩
      rcases lk with ⟨kl, _⟩ | ⟨_, c3, e', z⟩
      · have kl : X.env.scope.names.lookup y = some .local := kl
        rcases S.free _ (PySem.mem_of_lookup hk) rfl with k2 | k2 <;> rw [show X.env.scope.names.lookup y = _ from k2] at kl <;> cases kl
      · rw [(cm h2).1] at e'
        cases e'
        obtain ⟨o2, q1, q2⟩ := z
        rw [ho1] at q1
        cases q1
        exact ⟨o, ho2, q2⟩
  · obtain ⟨o, _, ho1, ho2⟩ := nc y c e
    obtain ⟨v, o2, q1, q2⟩ := I.cell y c (cm e).1
    rw [ho1] at q1
    cases q1
    exact ⟨v, o, ho2, q2⟩
  · obtain ⟨o, ho, _⟩ := nc y c e
    exact unp_at ho
  · rw [List.length_set]
    exact I.len
/-- what a lambda is, by its text and the maker's cells -/
def IsLam (X : Cx) (params : Arguments) (body : Expr) (scope : Scope) (c' : Addr) (fo : Obj) : Prop :=
  ∃ pm ctv : Value, fo = PySem.W.kla_obj "<lambda>" (X.env.qual ++ "<lambda>") params body scope (cloFrom X.env.cells scope.names []) pm c' ctv
/-- the maker's cells and the lambda, pinned -/
structure CellsAt (X : Cx) (σ : L2.St) (f : Addr) (fo : Obj) (L : Pins) : Prop where
  lam : L.lookup f = some fo
  st : ∃ (pins : List (Addr × Obj)) (H : Hp) (s : Shared), Inv X pins σ H s ∧ ∀ b o, L.lookup b = some o → s.heap.get? b = some o
  cell : ∀ y c, X.env.cells.lookup y = some c → ∃ o, L.lookup c = some o
theorem lam_ok {j k : Nat} {fo : Obj} {params : Arguments} {body : Expr} {tb : TE} (C : CellsAt X σ f fo L) (hl : IsLam X params body scope c' fo) (S : LamS1 X.env.scope scope a) (nd : X.N.Nodup) (hj : X.N[j]? = some a)
    (hbind : ∀ (q : Str) (cl : List (Str × Addr)) (pm cv ctv u : Value), bindArgs (PySem.W.kla_fn "<lambda>" q params body scope cl pm cv ctv) ⟨[u], []⟩ = pure [(a, u)])
    (hbody : ∀ (A : Around) (outer : List Env) (s : Shared) (H : Hp), Room k (A.deeper (lamEnv X scope s.heap.objs.size f c')) → PE (lamCx X A outer s H E0 scope f c') body tb) :
    LamOk X.prog X.w X.K X.mg X.base (k + 1) f L c' (X.env.qual ++ "<lambda>") (fun vs H Q _ => ∃ v, vs = [v] ∧ tb (σ.set j (some v)) H Q) := by
  obtain ⟨hfo, ⟨pins, H, s, I, hL⟩, hcell⟩ := C
  obtain ⟨pm, ctv, rfl⟩ := hl
  refine ⟨⟨_, hfo, fun h e => ⟨_, _, _, _, e⟩⟩, fun A outer s1 Hc us vs Q hr e0 hp hco rv hsp => ?_⟩
  obtain ⟨v, rfl, ht⟩ := hsp
  obtain ⟨u, rfl, r1⟩ : ∃ u, us = [u] ∧ RelV v u := by
    cases rv with
    | cons a b => cases b; exact ⟨_, rfl, a⟩
  obtain ⟨⟨oc, ds, t, hoc, hdc, hvc⟩, _, _⟩ := e0.hok c' _ hco
  have hof := pinned_get e0.hok hp f _ hfo
  have hfr : ∀ b o, L.lookup b = some o → b ∉ frs outer := fun b o z q => by
    have := e0.frf b q
    rw [hp b o z] at this
    cases this
  refine PySem.W.kla_callFunE hr.depth hof rfl S.co S.gen rfl ⟨c', oc, ds, t, rfl, hoc, hdc, hvc⟩ ?_
  rw [hbind]
  refine wpAny_pure (wpAny_newFunctionEnv (fun y hy => (S.own y hy).1) (fun y hy => by rw [List.mem_singleton.mp hy]; exact S.par) (fun h1 hns hsb => ⟨(e0.mod.nolimit.keeps fun b o e => (e0.bs b o e).1).fresh _ hsb, ?_⟩) S.kind)
  have kp : ∀ b o, s1.heap.get? b = some o → h1.get? b = some o := fun b o e => hsb.extBut b o (Nat.ne_of_lt (Heap.lt_size e)) (Heap.get?_push_of_some _ e)
  have J : Inv (lamCx X A outer s1 (unp L Hc) E0 scope f c') [] (σ.set j (some v)) (unp L Hc) { s1 with heap := h1, toks := s1.toks + [(a, u)].length } :=
    lam_inv I S hL hcell nd hj r1 e0 hp hr.hd hns kp
  show codeAny _ _ (.expr body (lamEnv X scope s1.heap.objs.size f c')) _ _
  refine PySem.W.kla_codeExpr (wpAny_mono ((hbody _ _ s1 (unp L Hc) (hr.deeper _)).run [] _ _ (unp L Hc) _ J ht) (fun x s' hq => ?_) fun e s' hq => ?_)
  · obtain ⟨w', H', J', rv', q⟩ := hq
    exact ce_in (Q := Q) hp e0.hok hfr ⟨w', H', J'.os, J'.bare, J'.base, J'.hok, rv', q⟩
  · have hq : wpAny (model X.prog X.w) (A.deeper (lamEnv X scope s1.heap.objs.size f c')) (leaving (lamEnv X scope s1.heap.objs.size f c') e) (fun _ s'' => L2.CX X.prog X.w outer (unp L Hc) s1 E0 e s'') (fun e' s'' => L2.CX X.prog X.w outer (unp L Hc) s1 E0 e' s'') s' := hq
    refine wpAny_mono hq (fun _ s'' z => ?_) fun e' s'' z => ?_
    · obtain ⟨_, _, _, _, _, _, _, _, _, _, _, _, z⟩ := z
      exact z.elim
    · obtain ⟨_, _, _, _, _, _, _, _, _, _, _, _, z⟩ := z
      exact z.elim
end
end Lp

set_option Elab.async false
set_option linter.all false
set_option maxRecDepth 100000
set_option maxHeartbeats 3200000
/-! lambdas with one parameter: made, and handed to a def -/
namespace Lp
open PySem PySem.Spec PyProof.Rows L2 LamX
section
variable {X : Cx} {pins : List (Addr × Obj)} {σ : L2.St} {H H0 : Hp} {s s0 : Shared}
/-- a new object, pinned from now on -/
theorem inv_track {f : Addr} {fo : Obj} (I0 : Inv X pins σ H0 s0) (hf : s0.heap.objs.size ≤ f) (I : Inv X pins σ H s) (n : H f = none) (g : s.heap.get? f = some fo) : Inv X pins σ (upd H f (PinO fo)) s := by
  have old : ∀ {b : Addr} {o : Obj}, s0.heap.get? b = some o → b ≠ f := fun e z => by
    rw [z] at e
    exact Nat.lt_irrefl _ (Nat.lt_of_lt_of_le (Heap.lt_size e) hf)
  have lo : X.env.locals ≠ f := fun z => Nat.lt_irrefl _ (Nat.lt_of_lt_of_le (by rw [← z]; exact I0.lt) hf)
  have was : ∀ {b : Addr} {u : HO}, H b = some u → b ≠ f := fun e => ne_of_none e n
  refine { ok := I.ok, os := I.os, bare := I.bare, loc := I.loc, cell := I.cell, len := I.len
           base := { keep := I.base.keep, slot := I.base.slot, there := I.base.there, free := fun b o e nb hx => ?_, tups := fun b xs e => ?_, frzs := fun b o u e => ?_, tbls := fun b ps e => ?_ }
           free := ?_, freeC := fun y c e => ?_, pin := fun q hq => ?_, hok := fun b u e => ?_ }
  · have : b ≠ f := fun z => Nat.lt_irrefl _ (Nat.lt_of_lt_of_le (Heap.lt_size e) (by rw [z]; exact Nat.le_trans I0.sz hf))
    rw [upd_ne this]
    exact I.base.free b o e nb hx
  · have q := I.base.tups b xs e
    rw [upd_ne (was q), q]
  · have q := I.base.frzs b o u e
    rw [upd_ne (was q), q]
  · obtain ⟨more, q⟩ := I.base.tbls b ps e
    exact ⟨more, by rw [upd_ne (was q), q]⟩
  · rw [upd_ne lo]
    exact I.free
  · obtain ⟨v, o, ho, _⟩ := I0.cell y c e
    rw [upd_ne (old ho)]
    exact I.freeC y c e
  · obtain ⟨q1, q2, q3⟩ := I.pin q hq
    refine ⟨q1, ?_, q3⟩
    rw [upd_ne (old (I0.pin q hq).1)]
    exact q2
  · by_cases hb : b = f
    · subst hb
      rw [upd_same] at e
      cases e
      exact ⟨g, trivial, ⟨fo, g⟩, fun _ _ _ _ => trivial⟩
    · rw [upd_ne hb] at e
      exact (I.hok b u e).stay (fun _ _ _ z => z) (fun d z => by rw [upd_ne (was z)]; exact z) fun d xs z => by rw [upd_ne (was z)]; exact z
/-- the lambda's value -/
def tLamV (T : List (Addr × Str)) (q : Str) (is : Addr → Obj → Prop) : TE := fun σ H Q => Tabs T H ∧ ∀ H1, ExtN H H1 → Tabs T H1 → ∀ f fo c', H1 f = none → H f = none → is c' fo → H1 c' = some (CodeO c' q) → Q (.ref f) (upd H1 f (PinO fo))
theorem pe_lam {T : List (Addr × Str)} {c P : Addr} {params : Arguments} {body : Expr} {scope : Scope} {pos : Pos} {a : Str} (S : LamS1 X.env.scope scope a) (TB : TabB X.base X.mg c P) (hcode : X.env.code = .ref c) (hm : (P, X.env.qual ++ "<lambda>") ∈ T) (hu : ∀ p ∈ T, p.1 = P → p.2 = X.env.qual ++ "<lambda>")
    (hdef : defaultsOf params X.env = ([], []) := by rfl) : PE X (.Lambda params body scope pos) (tLamV T (X.env.qual ++ "<lambda>") (IsLam X params body scope)) := by
  refine ⟨fun pins s σ H Q I h => ?_⟩
  obtain ⟨hT, h⟩ := h
  obtain ⟨ps, hP, tri, known⟩ := hT _ hm
  have hP' : s.heap.get? P = some { cls := .none, data := .fields ps } := I.hok P _ hP
  have clo := closure_ok (env := X.env) (scope := scope) (S.has I.ok)
  have bP : s.heap.BuiltinsAt X.mg P := TB.bm.keeps I.bk
  refine PySem.W.kla_eval hdef ?_
  cases hc : codeAmong pos ps.toList with
  | some cv =>
    obtain ⟨c', e, hco⟩ := known pos cv hc
    subst e
    refine PySem.W.kla_makeFunctionHit (mg := X.mg) clo I.ok.glob (I.mod.glob.keeps I.bk) hcode (TB.code.keeps I.bk) hP' tri hc bP fun ctv h' tk hx hsz => ?_
    have n : H h'.objs.size = none := I.hok.fresh hsz
    have g : (h'.push (PySem.W.kla_obj "<lambda>" (X.env.qual ++ "<lambda>") params body scope (cloFrom X.env.cells scope.names []) ((X.mg "__name__").getD .none) c' ctv)).get? h'.objs.size = some (PySem.W.kla_obj "<lambda>" (X.env.qual ++ "<lambda>") params body scope (cloFrom X.env.cells scope.names []) ((X.mg "__name__").getD .none) c' ctv) := Heap.get?_push_size _ rfl
    have I1 : Inv X pins σ H { s with heap := h'.push (PySem.W.kla_obj "<lambda>" (X.env.qual ++ "<lambda>") params body scope (cloFrom X.env.cells scope.names []) ((X.mg "__name__").getD .none) c' ctv), toks := tk } := I.kept fun b o e => Heap.get?_push_of_some _ (hx b o e)
    exact ⟨.ref h'.objs.size, _, inv_track I hsz I1 n g, rfl, h H (ExtN.refl H) hT _ _ c' n n ⟨_, ctv, rfl⟩ hco⟩
  | none =>
    refine PySem.W.kla_makeFunction (mg := X.mg) clo I.ok.glob (I.mod.glob.keeps I.bk) hcode (TB.code.keeps I.bk) hP' tri hc TB.gP bP fun c' ctv h' tk hx hge hlt hrec htb => ?_
    obtain ⟨c2, oc, ds, t, e2, hoc, hd, hv⟩ := hrec
    cases e2
    have hsz : s.heap.objs.size ≤ h'.objs.size := Nat.le_trans hge (Nat.le_of_lt hlt)
    have nC : H c' = none := I.hok.fresh hge
    have nF : H h'.objs.size = none := I.hok.fresh hsz
    have g : (h'.push (PySem.W.kla_obj "<lambda>" (X.env.qual ++ "<lambda>") params body scope (cloFrom X.env.cells scope.names []) ((X.mg "__name__").getD .none) c' ctv)).get? h'.objs.size = some (PySem.W.kla_obj "<lambda>" (X.env.qual ++ "<lambda>") params body scope (cloFrom X.env.cells scope.names []) ((X.mg "__name__").getD .none) c' ctv) := Heap.get?_push_size _ rfl
    have I1 := inv_table (t' := tk) (more := #[rawInt pos.line, rawInt pos.col, .ref c']) (h' := h'.push (PySem.W.kla_obj "<lambda>" (X.env.qual ++ "<lambda>") params body scope (cloFrom X.env.cells scope.names []) ((X.mg "__name__").getD .none) c' ctv)) I hP
      (fun b o hb e => Heap.get?_push_of_some _ (hx b o hb e)) (Heap.get?_push_of_some _ htb) hge ⟨oc, ds, t, Heap.get?_push_of_some _ hoc, hd, hv⟩
    have nPc : P ≠ c' := ne_of_none hP nC
    have nFc : h'.objs.size ≠ c' := Nat.ne_of_gt hlt
    have nFP : h'.objs.size ≠ P := (ne_of_none hP nF).symm
    have hE : ExtN H (upd (upd H P (.tbl (ps ++ #[rawInt pos.line, rawInt pos.col, .ref c']))) c' (CodeO c' (X.env.qual ++ "<lambda>"))) := fun b o e nt => by
      have b1 : b ≠ c' := ne_of_none e nC
      have b2 : b ≠ P := fun z => by
        rw [z, hP] at e
        exact nt ps (Option.some.inj e).symm
      rw [upd_ne b1, upd_ne b2, e]
    have n1 : (upd (upd H P (.tbl (ps ++ #[rawInt pos.line, rawInt pos.col, .ref c']))) c' (CodeO c' (X.env.qual ++ "<lambda>"))) h'.objs.size = none := by
      rw [upd_ne nFc, upd_ne nFP, nF]
    have hT1 : Tabs T (upd (upd H P (.tbl (ps ++ #[rawInt pos.line, rawInt pos.col, .ref c']))) c' (CodeO c' (X.env.qual ++ "<lambda>"))) := fun p hp => by
      by_cases hb : p.1 = P
      · rw [hu p hp hb, hb]
        have eL : (ps ++ #[rawInt pos.line, rawInt pos.col, Value.ref c']).toList = ps.toList ++ [rawInt pos.line, rawInt pos.col, .ref c'] := by simp
        refine ⟨ps ++ #[rawInt pos.line, rawInt pos.col, .ref c'], by rw [upd_ne nPc, upd_same], ?_, fun p' cv hcv => ?_⟩
        · rw [eL]
          exact PySem.TriplesOk_snoc _ _ _ _ tri
        · rw [eL] at hcv
          rcases among_app _ tri hcv with z | z
          · obtain ⟨c0, e1, e2⟩ := known p' cv z
            exact ⟨c0, e1, hE _ _ e2 codeO_ne⟩
          · exact ⟨c', z, upd_same⟩
      · obtain ⟨ps', a1, a2, a3⟩ := hT p hp
        have a4 : p.1 ≠ c' := ne_of_none a1 nC
        refine ⟨ps', by rw [upd_ne a4, upd_ne hb, a1], a2, fun p' cv hcv => ?_⟩
        obtain ⟨c0, e1, e2⟩ := a3 p' cv hcv
        exact ⟨c0, e1, hE _ _ e2 codeO_ne⟩
    exact ⟨.ref h'.objs.size, _, inv_track I hsz I1 n1 g, rfl, h _ hE hT1 _ _ c' n1 nF ⟨_, ctv, rfl⟩ upd_same⟩
end
end Lp

set_option Elab.async false
set_option linter.all false
set_option maxRecDepth 100000
set_option maxHeartbeats 3200000
/-! lambdas with one parameter: made, and handed to a def -/
namespace Lp
open PySem PySem.Spec PyProof.Rows L2 LamX
section
variable {X : Cx} {pins : List (Addr × Obj)} {σ : L2.St} {H H0 : Hp} {s s0 : Shared}
/-! ### a def called with the maker's cells pinned -/
def cellsOf (h : Heap) (all l : List (Str × Addr)) : Pins := l.filterMap fun y => if all.lookup y.1 = some y.2 then (h.get? y.2).map fun o => (y.2, o) else none
theorem look_mem : ∀ {L : Pins} {b : Addr} {o : Obj}, L.lookup b = some o → (b, o) ∈ L
  | (c, o') :: L, b, o, e => by
    rw [List.lookup_cons] at e
    cases hb : b == c with
    | true =>
      rw [hb] at e
      rw [eq_of_beq hb, ← Option.some.inj e]
      exact List.mem_cons_self
    | false =>
      rw [hb] at e
      exact List.mem_cons_of_mem _ (look_mem e)
  | [], _, _, e => nomatch e
theorem mem_look : ∀ {L : Pins} {b : Addr} {o : Obj}, (b, o) ∈ L → ∃ o', L.lookup b = some o'
  | (c, o') :: L, b, o, hm => by
    rw [List.lookup_cons]
    cases hb : b == c with
    | true => exact ⟨o', rfl⟩
    | false =>
      rcases List.mem_cons.mp hm with e | hm
      · have e1 : b = c := congrArg Prod.fst e
        rw [e1, beq_self_eq_true] at hb
        cases hb
      · exact mem_look hm
  | [], _, _, hm => nomatch hm
theorem cellsOf_get {h : Heap} {all l : List (Str × Addr)} {b : Addr} {o : Obj} (e : (cellsOf h all l).lookup b = some o) : h.get? b = some o ∧ ∃ y, all.lookup y = some b := by
  obtain ⟨⟨y, c⟩, _, e1⟩ := List.mem_filterMap.mp (look_mem e)
  dsimp only at e1
  by_cases hy : all.lookup y = some c
  · rw [if_pos hy] at e1
    obtain ⟨o', h1, h2⟩ := Option.map_eq_some_iff.mp e1
    have e2 : c = b := congrArg Prod.fst h2
    have e3 : o' = o := congrArg Prod.snd h2
    rw [e2, e3] at h1
    rw [e2] at hy
    exact ⟨h1, y, hy⟩
  · rw [if_neg hy] at e1
    exact nomatch e1
theorem cellsOf_has {h : Heap} {all l : List (Str × Addr)} {y : Str} {c : Addr} {o : Obj} (hm : (y, c) ∈ l) (hy : all.lookup y = some c) (ho : h.get? c = some o) : ∃ o', (cellsOf h all l).lookup c = some o' := by
  refine mem_look (o := o) (List.mem_filterMap.mpr ⟨(y, c), hm, ?_⟩)
  dsimp only
  rw [if_pos hy, ho]
  rfl
end
end Lp

set_option Elab.async false
set_option linter.all false
set_option maxRecDepth 100000
set_option maxHeartbeats 3200000
/-! lambdas with one parameter: made, and handed to a def -/
namespace Lp
open PySem PySem.Spec PyProof.Rows L2 LamX
section
variable {X : Cx} {pins : List (Addr × Obj)} {σ : L2.St} {H H0 : Hp} {s s0 : Shared}
/-- the maker's state at the call, its cells known -/
structure StAt (X : Cx) (σ : L2.St) (H : Hp) (L : Pins) : Prop where
  st : ∃ (pins : List (Addr × Obj)) (s : Shared), Inv X pins σ H s ∧ ∀ b o, L.lookup b = some o → s.heap.get? b = some o
  cell : ∀ y c, X.env.cells.lookup y = some c → ∃ o, L.lookup c = some o
  clear : Clear L H
theorem StAt.at {f : Addr} {fo : Obj} {L : Pins} (S : StAt X σ H L) (hf : H f = some (PinO fo)) : CellsAt X σ f fo ((f, fo) :: L) := by
  obtain ⟨⟨pins, s, I, hg⟩, hc, cl⟩ := S
  have look : ∀ {b : Addr} {o : Obj}, ((f, fo) :: L).lookup b = some o → (b = f ∧ o = fo) ∨ (b ≠ f ∧ L.lookup b = some o) := fun {b o} e => by
    rw [List.lookup_cons] at e
    cases hb : b == f with
    | true =>
      rw [hb] at e
      cases e
      exact .inl ⟨eq_of_beq hb, rfl⟩
    | false =>
      rw [hb] at e
      exact .inr ⟨fun z => (by rw [z, beq_self_eq_true] at hb; cases hb), e⟩
  refine ⟨by rw [List.lookup_cons, beq_self_eq_true], ⟨pins, H, s, I, fun b o e => ?_⟩, fun y c e => ?_⟩
  · rcases look e with ⟨rfl, rfl⟩ | ⟨_, e⟩
    · exact (I.hok _ _ hf).1
    · exact hg b o e
  · obtain ⟨o, ho⟩ := hc y c e
    rw [List.lookup_cons]
    cases hb : c == f with
    | true => exact ⟨_, rfl⟩
    | false => exact ⟨o, ho⟩
theorem pinned_cons {f : Addr} {fo : Obj} {L : Pins} (cl : Clear L H) (hf : H f = some (PinO fo)) : Pinned ((f, fo) :: L) (pin L H) := fun b o e => by
  rw [List.lookup_cons] at e
  cases hb : b == f with
  | true =>
    rw [hb] at e
    cases e
    rw [eq_of_beq hb]
    exact pin_some cl hf
  | false =>
    rw [hb] at e
    exact pin_at e
variable {k : Nat} {f : Addr} {fd : FuncData} {ps : List Str} {sp : Sp} {x : Str} {p pos : Pos} {e : Expr} {es : List Expr} {t : TA}
def tCallP (X : Cx) (sp : Sp) (t : TA) : TE := fun σ H Q => t σ H fun vs H1 => ∀ L, StAt X σ H1 L → sp vs (pin L H1) (fun v H2 => Q v (unp L H2)) E0
theorem pe_callp (F : FnOk X.prog X.w X.K X.mg X.base CX0 k f fd ps sp) (hr : Room k X.A) (hg : Gl X x) (hm : X.mg x = some (.ref f)) (hk : PySem.W.keepIn X.K (.ref f) = true) (hb : Binds X.K fd ps []) (hfn : ∀ y, X.fn y = true)
    (ha : PA X (e :: es) t) (hdb : (x == ("__debug__" : Str)) = false := by decide) (he : starEach (e :: es) X.env = (false, eval e X.env) :: starEach es X.env := by rfl) (hpl : (backTo pos (starEach es X.env)).any (·.1) = false := by rfl) :
    PE X (.Call (.Name x p) (e :: es) [] pos) (tCallP X sp t) := by
  refine ⟨fun pins s σ H Q I h => ?_⟩
  refine wpAny_Call_Name_kw (ld_glob I hg hm ?_ hdb)
  refine PySem.W.callWith_K (h₀ := X.base) I.ok.mod.kin hk (thn (ha.run pos pins s σ H _ I h) fun us s1 ⟨vs, H1, I1, r, q⟩ => ⟨I1.kIn, ?_⟩) he hpl
  have hget : ∀ b o, (cellsOf s1.heap X.env.cells X.env.cells).lookup b = some o → s1.heap.get? b = some o ∧ ∃ y, X.env.cells.lookup y = some b := fun b o z => cellsOf_get z
  have hcl : Clear (cellsOf s1.heap X.env.cells X.env.cells) H1 := fun b o z => by
    obtain ⟨_, y, hy⟩ := hget b o z
    exact I1.freeC y b hy
  have hst : StAt X σ H1 (cellsOf s1.heap X.env.cells X.env.cells) := ⟨⟨pins, s1, I1, fun b o z => (hget b o z).1⟩, fun y c z => by
    obtain ⟨v, o, ho, _⟩ := I1.cell y c z
    exact cellsOf_has (PySem.mem_of_lookup z) z ho, hcl⟩
  have new : ∀ b o, (cellsOf s1.heap X.env.cells X.env.cells).lookup b = some o → X.s_0.heap.objs.size ≤ b := fun b o z => by
    obtain ⟨_, y, hy⟩ := hget b o z
    exact I1.ok.cab y b (hfn y) hy
  generalize cellsOf s1.heap X.env.cells X.env.cells = L at hget hcl hst new
  have he1 : ∀ b o, L.lookup b = some o → s1.heap.get? b = some o := fun b o z => (hget b o z).1
  have e0 : Env0 X.prog X.w X.K X.mg X.base X.A X.stack s1 (pin L H1) := env_pin I1.env0 hcl he1 (fun b o z hb => by
    obtain ⟨_, y, hy⟩ := hget b o z
    rcases List.mem_cons.mp (I1.stkSub b hb) with e | hb
    · exact I1.cne y b hy e
    · obtain ⟨_, o', ho', _⟩ := I1.ok.funs.mem hb
      exact Nat.lt_irrefl _ (Nat.lt_of_lt_of_le (Heap.lt_size ho') (new b o z))) fun b o z => Heap.get?_none_of_le (Nat.le_trans I1.ok.bsz (new b o z))
  have hq := q L hst
  have r2 : us.length = ps.length := by
    rw [← r.length]
    exact F.len _ _ _ _ hq
  have bd := hb s1 us I1.kIn (by rw [List.append_nil]; exact r2)
  rw [List.append_nil] at bd
  refine wpAny_call (codeAny_mono (F.run X.A X.stack s1 (pin L H1) ⟨us, []⟩ us vs _ _ hr e0 bd r hq) fun r s' hq => ?_)
  cases r with
  | error e => exact (show False from hq).elim
  | ok fl =>
    cases fl with
    | ret u => exact I1.after (ce_out (Q := Q) hcl he1 hq)
    | next => exact False.elim hq
    | brk => exact False.elim hq
    | cont => exact False.elim hq
end
end Lp

set_option Elab.async false
set_option linter.all false
set_option maxRecDepth 100000
set_option maxHeartbeats 3200000
/-! a def that makes lambdas: its code, its table, the head; repr of an int without guards; small lemmas -/
namespace Lp
open PySem PySem.Spec PyProof.Rows L2 LamX
/-- repr(i), i an int: nothing need be known of what is being shown -/
def rShowI : List V → Hp → VK → Prop := fun xs H Q => ∃ i : Int, xs = [.int i] ∧ (PyData.int i).showable = true ∧ Q (.str (PyData.shown (.int i))) H
theorem cr_reprI {X : Cx} : CallR X (.builtin "repr") rShowI := by
  intro pins s σ H xs us Q I r h
  obtain ⟨i, rfl, h1, q⟩ := h
  obtain ⟨t, rfl⟩ : ∃ t, us = [Value.int i t] := by
    cases r with
    | cons a b =>
      cases b
      obtain ⟨t, rfl⟩ := a
      exact ⟨t, rfl⟩
  exact P.repr_of_int (of_decide_eq_true h1) ⟨.str (PyData.shown (.int i)), H, I.tok _, ⟨_, rfl⟩, q⟩
/-- the code of a def, as the frag tells it -/
theorem tab_code {K : PySem.W.Frag} {x q : Str} {f c P : Addr} {oc kV doc pm cdv ct : Value} {od an : Option Addr} {osl : Array (Option Value)} {st : Stmt} (a : PySem.W.nsIn K mainGlobals x = some (some (.ref f)))
    (l : K.lookup f = some ⟨oc, od, .func (PySem.W.fnOf x q (defArgs st) (defBody st) (defScope st) .none kV doc pm an cdv ct), osl⟩) (t : PySem.W.tabIn K x = some (c, P)) : cdv = .ref c := by
  unfold PySem.W.tabIn at t
  rw [a] at t
  dsimp only at t
  rw [l] at t
  dsimp only at t
  split at t
  · rename_i c2
    split at t
    · split at t
      · cases t
        rfl
      · cases t
    · cases t
  · cases t
theorem tab_mk {K : PySem.W.Frag} {x q : Str} {f c P : Addr} {oc kV doc pm cdv ct : Value} {od an : Option Addr} {osl : Array (Option Value)} {st : Stmt} {oK : Value} {dK : Option Addr} {vs : Array Value} {sK : Array (Option Value)} (a : PySem.W.nsIn K mainGlobals x = some (some (.ref f)))
    (l : K.lookup f = some ⟨oc, od, .func (PySem.W.fnOf x q (defArgs st) (defBody st) (defScope st) .none kV doc pm an cdv ct), osl⟩) (e : cdv = .ref c) (k : K.lookup c = some ⟨oK, dK, .fields vs, sK⟩) (v : (vs[11]? : Option Value) = some (.ref P)) : PySem.W.tabIn K x = some (c, P) := by
  subst e
  unfold PySem.W.tabIn
  rw [a]
  dsimp only
  rw [l]
  dsimp only
  show (match K.lookup c with
    | some ⟨_, _, .fields vs, _⟩ => (match (vs[11]? : Option Value) with
      | some (.ref P) => some (c, P)
      | _ => none)
    | _ => none) = _
  rw [k]
  dsimp only
  rw [v]
section
variable {P : Program} {w : World} {K : PySem.W.Frag} {mg : Str → Option Value} {base : Heap}
/-- a def whose code is known -/
structure FunC (K : PySem.W.Frag) (x : Str) (st : Stmt) (f : Addr) (fd : FuncData) (c : Addr) : Prop where
  ex : ∃ (oc : Value) (od : Option Addr) (kV doc pm : Value) (an : Option Addr) (ct : Value) (osl : Array (Option Value)),
    fd = PySem.W.fnOf x x (defArgs st) (defBody st) (defScope st) .none kV doc pm an (.ref c) ct ∧ K.lookup f = some ⟨oc, od, .func fd, osl⟩ ∧ PySem.W.codeIn K (.ref c) x = true
theorem FunC.ok {x : Str} {st : Stmt} {f c : Addr} {fd : FuncData} {N ps : List Str} {k : Nat} {sp : Sp} (F : FunC K x st f fd c) (S : FnScope N ps (defScope st)) (len : ∀ vs H Q E, sp vs H Q E → vs.length = ps.length)
    (hbody : ∀ (A : Around) (outer : List Env) (s : Shared) (H : Hp) (vs : List V) (Q : VK) (E : XK), Room k (A.deeper (envOfC x (defScope st) s.heap.objs.size f (.ref c))) → sp vs H Q E →
      ∃ t, PSs (cxOf CX0 P w K mg base N x (defScope st) f (.ref c) A outer s H E).nox (defBody st) t ∧ t { nx := fun _ H' => Q .non H', rt := Q } (start N vs) H) : FnOk P w K mg base CX0 (k + 1) f fd ps sp := by
  obtain ⟨oc, od, kV, doc, pm, an, ct, osl, rfl, lk, hcd⟩ := F.ex
  refine fn_of lk hcd S len fun A outer s H vs Q E hr hsp => ?_
  obtain ⟨t, h, q⟩ := hbody A outer s H vs Q E hr hsp
  exact ⟨t, h.nox, q⟩
theorem FunC.of {x : Str} {st : Stmt} {f c Pt : Addr} {oc : Value} {od an : Option Addr} {osl : Array (Option Value)} {kV doc pm cdv ct : Value} (a : PySem.W.nsIn K mainGlobals x = some (some (.ref f)))
    (l : K.lookup f = some ⟨oc, od, .func (PySem.W.fnOf x x (defArgs st) (defBody st) (defScope st) .none kV doc pm an cdv ct), osl⟩) (cd : PySem.W.codeIn K cdv x = true) (t : PySem.W.tabIn K x = some (c, Pt)) :
    FunC K x st f (PySem.W.fnOf x x (defArgs st) (defBody st) (defScope st) .none kV doc pm an cdv ct) c := by
  have e := tab_code a l t
  subst e
  exact ⟨oc, od, kV, doc, pm, an, ct, osl, rfl, l, cd⟩
end
theorem same_pin {L : Pins} {H H' : Hp} (hp : Pinned L H) (s : ∀ b o, unp L H b = some o → H' b = some o) : ∀ b o, H b = some o → pin L H' b = some o := fun b o e => by
  cases hb : L.lookup b with
  | some u =>
    rw [pin_at hb, ← hp b u hb, e]
  | none =>
    rw [pin_off hb]
    refine s b o ?_
    rw [unp_off hb, e]
/-- the head: a law with one def that makes lambdas -/
theorem walkT {l : PySem.W.OpenLaw} {n k : Nat} {q : Program} {loose : List Str} {XP : (Str → Option Value) → Heap → Prop} {YP : World → Heap → Prop} {d : DefRec} {K : Params → PySem.W.Frag} {cx : World → CXT} {x y : Str}
    (hn : l.most = some n) (hn2 : n ≤ sizeLine) (hdf : d.params.defaults = []) (hr : Room k callerA) (hY : ∀ (w : World) (h : Heap), YP w h → (K w.params).In h) (hrec : ((recsOf q).find? fun e => e.name == y).isSome = true)
    (F : ∀ (w : World) (mg : Str → Option Value) (fa : Addr) (h : Heap), (K w.params).In h → h.Ns mainGlobals mg → mg d.name = some (.ref fa) → XP mg h →
      ∃ (fd : FuncData) (c Pt : Addr) (sp : Sp), PySem.W.tabIn (K w.params) y = some (c, Pt) ∧ (K w.params).lookup Pt = none ∧ (∀ (s : Shared) (u : Value), BindsTo s fd ⟨[u], []⟩ [(x, u)]) ∧
        (∀ (H : Hp) (a : Addr) (ns : List Int), ns.length ≤ n → H Pt = some (.tbl #[]) → SqL (K w.params) H a (ns.map V.int) → sp [.ref a] H (fun v _ => v = .bl true) fun _ _ _ => False) ∧
        ∀ base : Heap, (K w.params).In base → base.Ns mainGlobals mg → TabB base mg c Pt → FnOk l.prog w (K w.params) mg base (cx w) k fa fd [x] sp)
    (hcx : ∀ (w : World) (H : Hp) (s : Shared) (e : Value) (s' : Shared), cx w [] H s (fun _ _ _ => False) e s' → False) :
    PySem.W.WalkO q loose XP YP l.row.toRowW d [] (fun f vs => PySem.call f vs) := by
  refine Att.attach_callB hn hdf fun w s₀ s₁ mg mb fa o pm cd doc a vs ns G Y ho hd hcd hmg hobj hints hlen hbits hg => ?_
  have KX := hY w _ Y
  obtain ⟨fd, c, Pt, sp, ht, nP, hb, hsp, hF⟩ := F w mg fa _ KX G.T.g hmg G.X
  obtain ⟨dd, hdd⟩ := Option.isSome_iff_exists.mp hrec
  obtain ⟨hC, hP⟩ := PySem.W.tab_of G.T KX hdd ht
  exact law_callTs (cs := [(c, Pt)]) KX G.T.g G.T.b G.T.builtins G.T.nolimit hg (fun p hp => by rw [List.mem_singleton.mp hp]; exact hP) (fun p hp => by rw [List.mem_singleton.mp hp]; exact nP) (fun p hp => by rw [List.mem_singleton.mp hp]; exact hC) G.T.bmain hobj hints (Nat.le_trans hlen hn2) hr
    (fun base h1 h2 h3 => hF base h1 h2 (h3 _ (List.mem_singleton.mpr rfl))) hb (fun H hH hS => hsp H a ns hlen (hH _ (List.mem_singleton.mpr rfl)) hS) fun H e s' => hcx w H s₁ e s'
end Lp

set_option Elab.async false
set_option linter.all false
set_option maxRecDepth 100000
set_option maxHeartbeats 3200000
/-! the head: a law with several defs that make lambdas (the law itself may be one) -/
namespace Lp
open PySem PySem.Spec PyProof.Rows L2 LamX
theorem each_of_mem {α β : Type} {R : α → β → Prop} : ∀ {as : List α} {bs : List β}, PySem.W.EachIs R as bs → ∀ a ∈ as, ∃ b ∈ bs, R a b
  | _, _, .nil, _, h => nomatch h
  | _, _, .cons r t, a, h => by
    rcases List.mem_cons.mp h with rfl | h
    · exact ⟨_, List.mem_cons_self, r⟩
    · obtain ⟨b, hb, q⟩ := each_of_mem t a h
      exact ⟨b, List.mem_cons_of_mem _ hb, q⟩
theorem walkTs {l : PySem.W.OpenLaw} {n k : Nat} {q : Program} {loose : List Str} {XP : (Str → Option Value) → Heap → Prop} {YP : World → Heap → Prop} {d : DefRec} {K : Params → PySem.W.Frag} {cx : World → CXT} {x : Str} {ys : List Str}
    (hn : l.most = some n) (hn2 : n ≤ sizeLine) (hdf : d.params.defaults = []) (hr : Room k callerA) (hY : ∀ (w : World) (h : Heap), YP w h → (K w.params).In h) (hrec : (ys.all fun y => ((recsOf q).find? fun e => e.name == y).isSome) = true)
    (F : ∀ (w : World) (mg : Str → Option Value) (fa : Addr) (h : Heap), (K w.params).In h → h.Ns mainGlobals mg → mg d.name = some (.ref fa) → XP mg h →
      ∃ (fd : FuncData) (cs : List (Addr × Addr)) (sp : Sp), PySem.W.EachIs (fun (p : Addr × Addr) (y : Str) => PySem.W.tabIn (K w.params) y = some p ∧ (K w.params).lookup p.2 = none) cs ys ∧ (∀ (s : Shared) (u : Value), BindsTo s fd ⟨[u], []⟩ [(x, u)]) ∧
        (∀ (H : Hp) (a : Addr) (ns : List Int), ns.length ≤ n → (∀ p ∈ cs, H p.2 = some (.tbl #[])) → SqL (K w.params) H a (ns.map V.int) → sp [.ref a] H (fun v _ => v = .bl true) fun _ _ _ => False) ∧
        ∀ base : Heap, (K w.params).In base → base.Ns mainGlobals mg → (∀ p ∈ cs, TabB base mg p.1 p.2) → FnOk l.prog w (K w.params) mg base (cx w) k fa fd [x] sp)
    (hcx : ∀ (w : World) (H : Hp) (s : Shared) (e : Value) (s' : Shared), cx w [] H s (fun _ _ _ => False) e s' → False) :
    PySem.W.WalkO q loose XP YP l.row.toRowW d [] (fun f vs => PySem.call f vs) := by
  refine Att.attach_callB hn hdf fun w s₀ s₁ mg mb fa o pm cd doc a vs ns G Y ho hd hcd hmg hobj hints hlen hbits hg => ?_
  have KX := hY w _ Y
  obtain ⟨fd, cs, sp, ht, hb, hsp, hF⟩ := F w mg fa _ KX G.T.g hmg G.X
  have each : ∀ p ∈ cs, (PySem.W.CodeHd s₁.heap p.1 p.2 ∧ s₁.heap.get? p.2 = some { cls := .none, data := .fields #[] }) ∧ (K w.params).lookup p.2 = none := fun p hp => by
    obtain ⟨y, hy, e1, e2⟩ := each_of_mem ht p hp
    obtain ⟨dd, hdd⟩ := Option.isSome_iff_exists.mp (List.all_eq_true.mp hrec y hy)
    exact ⟨PySem.W.tab_of G.T KX hdd e1, e2⟩
  exact law_callTs (cs := cs) KX G.T.g G.T.b G.T.builtins G.T.nolimit hg (fun p hp => (each p hp).1.2) (fun p hp => (each p hp).2) (fun p hp => (each p hp).1.1) G.T.bmain hobj hints (Nat.le_trans hlen hn2) hr
    hF hb (fun H hH hS => hsp H a ns hlen hH hS) fun H e s' => hcx w H s₁ e s'
end Lp

set_option Elab.async false
set_option linter.all false
set_option maxRecDepth 100000
set_option maxHeartbeats 6400000
namespace K6
open PySem L2 Tx Tg Tm Da RZ Lc
/-! ### the limits that let pass; a function that is handed in; weight -/
section
variable {P : Program} {w : World} {K : PySem.W.Frag} {mg : Str → Option Value} {base : Heap} {fI fH fL fC fT fM fA fS fCP : Addr} {dI dH dL dC dT dM dA dS dCP : FuncData}
def spBetw : Sp := fun vs H Q _ => ∃ (n a b : Int), vs = [.int n, .int a, .int b] ∧ isInt (.int n) = true ∧ a ≤ n ∧ n ≤ b ∧ Q .non H
theorem scBetw : FnScope ["value", "least", "most"] ["value", "least", "most"] (defScope sCBetween) := ⟨rfl, rfl, rfl, by decide +kernel, rfl, by decide +kernel, by decide +kernel⟩
theorem ok_betw {f : Addr} {fd : FuncData} (F : Fun K "check_between" "check_between" sCBetween f fd) (T : Txt K mg) (DI : Df K mg "is_integer" sInt ["value"] fI dI) : FnOk P w K mg base CX0 2 f fd ["value", "least", "most"] spBetw := by
  have GI := ok_int (P := P) (w := w) (base := base) DI.F T
  refine F.ok scBetw (fun vs H Q E h => ?_) (fun cdv A outer s H vs Q E hr h => ?_)
  · obtain ⟨n, a, b, rfl, _⟩ := h
    rfl
  · obtain ⟨n, a, b, rfl, hn, ha, hb, q⟩ := h
    refine ⟨_, (pss_one (ps_if (PW.pt (pw_or (pt_not (pt_val (pe_call GI (hr.mono (by decide)) (by rfl) DI.m DI.F.kp DI.b .nil pass0 (pa_cons (pv 0) pa_nil)))) (pw_or (pt_cmpR op_lt (pv 0) (pv 1) (nomark _)) (pw_or1 (pt_cmpR op_gt (pv 0) (pv 2) (nomark _)))))) (pss_one ps_never) pss_nil)), ?_⟩
    refine ⟨_, rfl, .int n, .int n, rfl, .int n, ?_⟩
    rw [hn]
    refine ⟨_, rfl, iteF ?_⟩
    refine ⟨_, rfl, _, rfl, _, _, rfl, rfl, _, rfl, ?_⟩
    rw [decide_eq_false (show ¬ n < a by omega)]
    refine iteF ?_
    refine ⟨_, rfl, _, rfl, _, _, rfl, rfl, _, rfl, ?_⟩
    rw [decide_eq_false (show ¬ b < n by omega)]
    exact iteF q
def spMost : Sp := fun vs H Q _ => ∃ (n m : Int), vs = [.int n, .int m] ∧ n ≤ m ∧ Q .non H
theorem scMost : FnScope ["many", "limit"] ["many", "limit"] (defScope sCMost) := ⟨rfl, rfl, rfl, by decide +kernel, rfl, by decide +kernel, by decide +kernel⟩
theorem ok_most {f : Addr} {fd : FuncData} (F : Fun K "check_most" "check_most" sCMost f fd) : FnOk P w K mg base CX0 1 f fd ["many", "limit"] spMost := by
  refine F.ok scMost (fun vs H Q E h => ?_) (fun cdv A outer s H vs Q E hr h => ?_)
  · obtain ⟨n, m, rfl, _⟩ := h
    rfl
  · obtain ⟨n, m, rfl, hn, q⟩ := h
    refine ⟨_, (pss_one (ps_if (pt_cmpR op_gt (pv 0) (pv 1) (nomark _)) (pss_one ps_never) pss_nil)), ?_⟩
    refine ⟨_, rfl, _, rfl, _, _, rfl, rfl, _, rfl, ?_⟩
    rw [decide_eq_false (show ¬ m < n by omega)]
    exact iteF q
/-- at f stands a function that gives g y at each text y of ys -/
def GivAt (P : Program) (w : World) (K : PySem.W.Frag) (mg : Str → Option Value) (base : Heap) (H : Hp) (f : Addr) (ys : List Nat → Prop) (g : List Nat → Int) : Prop := ∃ (L : Lp.Pins) (c' : Addr) (q : Str) (spl : Sp),
  Lp.LamOk P w K mg base 4 f L c' q spl ∧ Lp.LamRdy L c' q H ∧ ∀ (y : Str) (H1 : Hp) (QQ : VK), Same H H1 → ys (cds y) → (∀ H2, Same (Lp.unp L H1) H2 → QQ (.int (g (cds y))) H2) → spl [.str y] (Lp.unp L H1) QQ E0
abbrev nWt : List Str := ["letters", "pattern", "call", "chosen"]
theorem scWt : FnScope nWt ["letters", "pattern", "call"] (defScope sWeight) := ⟨rfl, rfl, rfl, by decide +kernel, rfl, by decide +kernel, by decide +kernel⟩
abbrev subs (z : Str) : List Nat → Prop := fun y => y ∈ (Ty.sels (cds z)).map (·.1)
/-- a key's number -/
def numK (g : List Nat → Int) : Key → V
  | .inr t => .int (g (cds t))
  | .inl _ => .non
theorem val_num {G : Ty.SD} {g : List Nat → Int} {y : List Nat} (h : y ∈ G.map (·.1)) : valV ((kvS G).map fun kv => (kv.1, numK g kv.1)) (Sum.inr (tx y) : Key) = some (.int (g y)) := by
  have e : ((kvS G).map fun kv => (kv.1, numK g kv.1)) = kvS (G.map fun s => (s.1, g s.1)) := by
    show List.map _ (List.map _ G) = List.map _ (List.map _ G)
    rw [List.map_map, List.map_map]
    rfl
  rw [e, val_kvS]
  induction G with
  | nil => nomatch h
  | cons s G ih =>
    rw [List.map_cons, List.find?_cons]
    by_cases es : s.1 = y
    · rw [decide_eq_true es, ← es]
      rfl
    · rw [decide_eq_false es]
      rw [List.map_cons, List.mem_cons] at h
      refine ih (h.resolve_left fun z => es z.symm) ?_
      show List.map _ (List.map _ G) = List.map _ (List.map _ G)
      rw [List.map_map, List.map_map]
      rfl
def spWt (P : Program) (w : World) (K : PySem.W.Frag) (mg : Str → Option Value) (base : Heap) : Sp := fun vs H Q _ => ∃ (sg z : Str) (f : Addr) (g : List Nat → Int), vs = [.str sg, .str z, .ref f] ∧ Signs sg ∧ Over sg z ∧ z.length ≤ 12 ∧ GivAt P w K mg base H f (subs z) g ∧
  (∀ y, subs z y → -(2 ^ 64) < g y ∧ g y < 2 ^ 64) ∧ ∀ H', Same H H' → Q (.int (Ty.wt g (cds z))) H'
theorem ok_wt {f : Addr} {fd : FuncData} (F : Fun K "weight" "weight" sWeight f fd) (T : Txt K mg) (G : Low K mg fI fH fL fC fT dI dH dL dC dT) (DCP : Df K mg "check_pattern" sCPattern ["letters", "value"] fCP dCP) (DM : Df K mg "check_most" sCMost ["many", "limit"] fM dM) (DS : Df K mg "selections" sSelections ["text"] fS dS) (DA : Df K mg "alternating_sum" sAlter ["pattern", "numbers"] fA dA) :
    FnOk P w K mg base CX0 6 f fd ["letters", "pattern", "call"] (spWt P w K mg base) := by
  have GC := ok_ctext (P := P) (w := w) (base := base) DCP.F T G
  have GM := ok_most (P := P) (w := w) (mg := mg) (base := base) DM.F
  have GS := ok_sel (P := P) (w := w) (base := base) DS.F T
  have GA := ok_alt (P := P) (w := w) (base := base) DA.F T DS
  refine F.ok scWt (fun vs H Q E h => ?_) (fun cdv A outer s H vs Q E hr h => ?_)
  · obtain ⟨sg, z, f, g, rfl, _⟩ := h
    rfl
  · obtain ⟨sg, z, fl, g, rfl, hsg, hz, lz, ⟨L, cl, qn, spl, LK, hR, hc⟩, hb, q⟩ := h
    obtain ⟨tW, hW⟩ := T.mWei
    refine ⟨_, (pss_cons (ps_expr (pe_call GC (hr.mono (by decide)) (by rfl) DCP.m DCP.F.kp DCP.b .nil pass0 (pa_cons (pv 0) (pa_cons (pv 1) pa_nil))))
    (pss_cons (ps_expr (pe_call GM (hr.mono (by decide)) (by rfl) DM.m DM.F.kp DM.b .nil pass0 (pa_cons (pe_callB call_len_str (by rfl) T.len PySem.boot_len (pa_cons (pv 1) pa_nil)) (pa_cons (pe_glob (v := .int 12) rfl hW ⟨_, rfl⟩) pa_nil))))
    (pss_one (ps_ret (pe_call GA (hr.mono (by decide)) (by rfl) DA.m DA.F.kp DA.b .nil pass0 (pa_cons (pv 1) (pa_cons (pe_dc (own := [("chosen", 3)]) (g := (gName 3)) (tt := tYes) (tk := tVar 3) (tv := Lp.tLamCall 2 fl L cl qn spl (tCons (tVar 3) tNil)) rfl scWt.nd (pi_keys (Lc.pe_lockV (pe_call GS (hr.mono (by decide)) (by rfl) DS.m DS.F.kp DS.b .nil pass0 (pa_cons (pv 1) pa_nil)))) (blkOk_by (own := [("chosen", 3)]) (N := nWt) (sc := defScope sWeight) (by decide +kernel)) (fun _ _ _ _ _ => (pg_name (i := 3) scWt.nd rfl (Or.inl rfl))) (fun _ _ _ _ _ => pts_nil) (fun _ _ _ _ _ => (pv 3)) (fun _ _ _ _ _ => (Lp.pe_lamc (i := 2) LK (hr.mono (by decide)) rfl (by first | exact Or.inl rfl | exact Or.inr (Or.inl rfl) | exact Or.inr (Or.inr rfl)) (pa_cons (pv 3) pa_nil)))) pa_nil))))))), ?_⟩
    refine ⟨_, rfl, _, rfl, sg, z, rfl, hsg, hz, by omega, fun H1 s1 => ?_⟩
    refine ⟨_, rfl, z, rfl, Nat.le_trans lz (by decide), (z.length : Int), 12, rfl, by omega, ?_⟩
    refine ⟨_, rfl, _, rfl, z, rfl, lz, fun D H2 s2 nD e2 => ⟨D, _, rfl, e2, (by unfold Mut; simp), fun od => ⟨D, od, rfl, .inl ⟨_, upd_same, fun D2 nD2 => ?_⟩⟩⟩⟩
    have s3 : Same H (upd H2 D (.frz od (.dK (kvS (Ty.sels (cds z)))))) := fun b o e => by
      rw [upd_ne (ne_of_none (s1 _ _ e) nD)]
      exact s2 _ _ (s1 _ _ e)
    have eD : (upd H2 D (.frz od (.dK (kvS (Ty.sels (cds z)))))) D = some (.frz od (.dK (kvS (Ty.sels (cds z))))) := upd_same
    generalize upd H2 D (.frz od (.dK (kvS (Ty.sels (cds z))))) = H3 at s3 eD nD2 ⊢
    have few : (Ty.sels (cds z)).length ≤ 4096 := Nat.le_trans (sels_len _) (Nat.pow_le_pow_right (n := 2) (j := 12) (by decide) lz)
    have nd : ((kvS (Ty.sels (cds z))).map (·.1)).Nodup := by
      show (List.map _ (List.map _ (Ty.sels (cds z)))).Nodup
      rw [List.map_map]
      have := Ty.sels_nodup (cds z)
      have e : (Ty.sels (cds z)).map ((·.1) ∘ fun s => ((Sum.inr (tx s.1) : Key), V.int s.2)) = ((Ty.sels (cds z)).map (·.1)).map fun y => (Sum.inr (tx y) : Key) := by
        rw [List.map_map]
        rfl
      rw [e]
      exact List.Pairwise.map _ (fun a b n e => n (key_tx.mp e)) this
    refine Lc.dcK (F := numK g) eD nd nD2 (by rw [List.length_map]; exact Nat.lt_of_le_of_lt few (by decide)) (fun _ => rfl) (fun _ => rfl) ?_ ?_
    · intro i k v H4 hk s4 Q' q'
      have hi := (List.getElem?_eq_some_iff.mp hk).1
      rw [List.length_map] at hi
      rw [List.getElem?_map, List.getElem?_eq_getElem hi] at hk
      cases hk
      have s04 := s3.trans s4
      have hR4 := hR.same s04
      exact ⟨rfl, hR4, _, rfl, hR4, hc (tx (Ty.sels (cds z))[i].1) H4 _ s04 (List.mem_map.mpr ⟨_, List.getElem_mem hi, rfl⟩) fun H5 s5 => q' _ (Lp.same_pin hR4.pn s5)⟩
    · intro H4 s4 e4
      exact ⟨z, D2, g, rfl, lz, ⟨_, e4, fun y hy => ⟨val_num hy, (hb y hy).1, (hb y hy).2⟩⟩, fun H5 s5 => q H5 ((s3.trans s4).trans s5)⟩
end
end K6

set_option Elab.async false
set_option linter.all false
set_option maxRecDepth 100000
set_option maxHeartbeats 6400000
namespace K6
open PySem L2 Tx Tg Tm Da RZ Lc
/-! ### weights up to a depth -/
def okB (sg : Str) (n : Nat) : Bool := (decide (n ≤ 3) && (decide (sg.length < 3) || decide (n ≤ 2))) || (decide (sg.length = 1) && decide (n ≤ 4))
theorem all_nd {sg : Str} (h : Signs sg) {n : Nat} (hn : okB sg n = true) : (allT sg n).Nodup ∧ (allT sg n).length ≤ 20 := by
  have go : ∀ z ∈ (["ab", "xy", "a", "abc", "b"] : List Str), ∀ n ∈ List.range 5, okB z n = true → (allT z n).Nodup ∧ (allT z n).length ≤ 20 := by decide +kernel
  have h5 : n < 5 := by
    unfold okB at hn
    simp only [Bool.or_eq_true, Bool.and_eq_true, decide_eq_true_eq] at hn
    omega
  refine go sg ?_ n (List.mem_range.mpr h5) hn
  rcases h with rfl | rfl | rfl | rfl | rfl <;> simp
theorem lay_in (sg : Str) : ∀ n : Nat, (∀ t ∈ (lays sg n).1, t.length ≤ n ∧ Over sg t) ∧ ∀ t ∈ (lays sg n).2, t.length ≤ n ∧ Over sg t
  | 0 => ⟨fun t ht => by rw [List.mem_singleton.mp ht]; exact ⟨Nat.le_refl _, fun c hc => nomatch hc⟩, fun t ht => by rw [List.mem_singleton.mp ht]; exact ⟨Nat.le_refl _, fun c hc => nomatch hc⟩⟩
  | n + 1 => by
    obtain ⟨a, b⟩ := lay_in sg n
    have g : ∀ t ∈ growL sg (lays sg n).2, t.length ≤ n + 1 ∧ Over sg t := fun t ht => by
      obtain ⟨u, hu, ht⟩ := List.mem_flatMap.mp ht
      obtain ⟨c, hc, rfl⟩ := List.mem_map.mp ht
      obtain ⟨l, o⟩ := b u hu
      refine ⟨by rw [str_len]; exact Nat.add_le_add_right l 1, fun d hd => ?_⟩
      rw [cds_app] at hd
      rcases List.mem_append.mp hd with hd | hd
      · exact o d hd
      · rw [List.mem_singleton.mp (show d ∈ [c] from hd)]
        exact hc
    refine ⟨fun t ht => ?_, g⟩
    rcases List.mem_append.mp (show t ∈ (lays sg n).1 ++ growL sg (lays sg n).2 from ht) with ht | ht
    · exact ⟨Nat.le_succ_of_le (a t ht).1, (a t ht).2⟩
    · exact g t ht
theorem laysAll {sg : Str} : ∀ (n : Nat) (y : List Nat), (∀ c ∈ y, c ∈ cds sg) → (y.length ≤ n → tx y ∈ (lays sg n).1) ∧ (y.length = n → tx y ∈ (lays sg n).2)
  | 0, y, h => by
    have e : y.length ≤ 0 → y = [] := fun z => List.length_eq_zero_iff.mp (Nat.le_zero.mp z)
    refine ⟨fun z => ?_, fun z => ?_⟩
    · rw [e z]
      exact List.mem_singleton.mpr rfl
    · rw [e (Nat.le_of_eq z)]
      exact List.mem_singleton.mpr rfl
  | n + 1, y, h => by
    have g : y.length = n + 1 → tx y ∈ growL sg (lays sg n).2 := fun z => by
      have ne : y ≠ [] := fun e => by rw [e] at z; cases z
      have ey := List.dropLast_concat_getLast ne
      have hd : ∀ c ∈ y.dropLast, c ∈ cds sg := fun c hc => h c (List.dropLast_subset y hc)
      have q := (laysAll n y.dropLast hd).2 (by rw [List.length_dropLast, z]; rfl)
      refine List.mem_flatMap.mpr ⟨_, q, List.mem_map.mpr ⟨y.getLast ne, h _ (List.getLast_mem ne), ?_⟩⟩
      have : tx y.dropLast ++ one (y.getLast ne) = tx (y.dropLast ++ [y.getLast ne]) := tx_app _ _
      rw [this, ey]
    refine ⟨fun z => ?_, g⟩
    show tx y ∈ (lays sg n).1 ++ growL sg (lays sg n).2
    rcases Nat.lt_or_ge n y.length with l | l
    · exact List.mem_append_right _ (g (by omega))
    · exact List.mem_append_left _ ((laysAll n y h).1 l)
def wtsD (g : List Nat → Int) (sg : Str) (n : Nat) : Ty.SD := (((allT sg n).map cds).map fun y => (y, Ty.wt g y)).filter fun s => !decide (s.2 = 0)
abbrev upTo (sg : Str) (n : Nat) : List Nat → Prop := fun y => y.length ≤ n ∧ ∀ c ∈ y, c ∈ cds sg
theorem val_txt {ts : List Str} {g : List Nat → Int} {y : List Nat} (h : tx y ∈ ts) : valV (ts.map fun t => ((Sum.inr t : Key), V.int (g (cds t)))) (Sum.inr (tx y) : Key) = some (.int (g y)) := by
  induction ts with
  | nil => nomatch h
  | cons t ts ih =>
    rw [List.map_cons]
    by_cases e : t = tx y
    · subst e
      exact valV_pos rfl
    · rw [valV_neg (fun z => e (by injection z))]
      exact ih ((List.mem_cons.mp h).resolve_left fun z => e z.symm)
section
variable {P : Program} {w : World} {K : PySem.W.Frag} {mg : Str → Option Value} {base : Heap} {fI fH fL fC fT fB fX fA fS : Addr} {dI dH dL dC dT dB dX dA dS : FuncData}
abbrev nWts : List Str := ["letters", "depth", "call", "patterns", "numbers", "weights", "text", "pattern", "number"]
theorem scWts : FnScope nWts ["letters", "depth", "call"] (defScope sWeights) := ⟨rfl, rfl, rfl, by decide +kernel, rfl, by decide +kernel, by decide +kernel⟩
def spWts (P : Program) (w : World) (K : PySem.W.Frag) (mg : Str → Option Value) (base : Heap) : Sp := fun vs H Q _ => ∃ (sg : Str) (n : Nat) (f : Addr) (g : List Nat → Int), vs = [.str sg, .int n, .ref f] ∧ Signs sg ∧ okB sg n = true ∧ GivAt P w K mg base H f (upTo sg n) g ∧
  (∀ y, upTo sg n y → -(2 ^ 64) < g y ∧ g y < 2 ^ 64) ∧ ∀ D H', Same H H' → H D = none → H' D = some (.dK (kvS (wtsD g sg n))) → Q (.ref D) H'
theorem ok_wts {f : Addr} {fd : FuncData} (F : Fun K "weights_up_to" "weights_up_to" sWeights f fd) (T : Txt K mg) (G : Low K mg fI fH fL fC fT dI dH dL dC dT) (DB : Df K mg "check_between" sCBetween ["value", "least", "most"] fB dB) (DX : Df K mg "all_texts" sAllT ["letters", "size"] fX dX) (DS : Df K mg "selections" sSelections ["text"] fS dS) (DA : Df K mg "alternating_sum" sAlter ["pattern", "numbers"] fA dA) :
    FnOk P w K mg base CX0 6 f fd ["letters", "depth", "call"] (spWts P w K mg base) := by
  have GC := ok_passL (P := P) (w := w) (base := base) G.DC.F T G.DH G.DL
  have GB := ok_betw (P := P) (w := w) (base := base) DB.F T G.DI
  have GX := ok_texts (P := P) (w := w) (base := base) DX.F T
  have GA := ok_alt (P := P) (w := w) (base := base) DA.F T DS
  refine F.ok scWts (fun vs H Q E h => ?_) (fun cdv A outer s H vs Q E hr h => ?_)
  · obtain ⟨sg, n, f, g, rfl, _⟩ := h
    rfl
  · obtain ⟨sg, n, fl, g, rfl, hsg, hn, ⟨L, cl, qn, spl, LK, hR, hc⟩, hb, q⟩ := h
    obtain ⟨tD, hD⟩ := T.mDep
    refine ⟨_, (pss_cons (ps_expr (pe_call GC (hr.mono (by decide)) (by rfl) G.DC.m G.DC.F.kp G.DC.b .nil pass0 (pa_cons (pv 0) pa_nil)))
    (pss_cons (ps_expr (pe_call GB (hr.mono (by decide)) (by rfl) DB.m DB.F.kp DB.b .nil pass0 (pa_cons (pv 1) (pa_cons pe_int (pa_cons (pe_glob (v := .int 5) rfl hD ⟨_, rfl⟩) pa_nil)))))
    (pss_cons (ps_set (i := 3) scWts.nd rfl (Or.inl rfl) (pe_call GX (hr.mono (by decide)) (by rfl) DX.m DX.F.kp DX.b .nil pass0 (pa_cons (pv 0) (pa_cons (pv 1) pa_nil))))
    (pss_cons (ps_set (i := 4) scWts.nd rfl (Or.inr rfl) (pe_dc (own := [("text", 6)]) (g := (gName 6)) (tt := tYes) (tk := tVar 6) (tv := Lp.tLamCall 2 fl L cl qn spl (tCons (tVar 6) tNil)) rfl scWts.nd (pi_tup (pv 3)) (blkOk_by (own := [("text", 6)]) (N := nWts) (sc := defScope sWeights) (by decide +kernel)) (fun _ _ _ _ _ => (pg_name (i := 6) scWts.nd rfl (Or.inl rfl))) (fun _ _ _ _ _ => pts_nil) (fun _ _ _ _ _ => (pv 6)) (fun _ _ _ _ _ => (Lp.pe_lamc (i := 2) LK (hr.mono (by decide)) rfl (by first | exact Or.inl rfl | exact Or.inr (Or.inl rfl) | exact Or.inr (Or.inr rfl)) (pa_cons (pv 6) pa_nil)))))
    (pss_cons ((Lc.ps_setDc (i := 5) (own := [("pattern", 7)]) (g := (gName 7)) (tt := tYes) (tk := tVar 7) (tv := tCall spAlt [] E0 (tCons (tVar 7) (tCons (tVar 4) tNil))) rfl scWts.nd rfl rfl (Lc.sw_dict rfl rfl rfl (by decide +kernel)) (pi_tup (pv 3)) (blkOk_by (own := [("pattern", 7)]) (N := nWts) (sc := defScope sWeights) (by decide +kernel)) (fun _ _ _ _ _ => (pg_name (i := 7) scWts.nd rfl (Or.inl rfl))) (fun _ _ _ _ _ => pts_nil) (fun _ _ _ _ _ => (pv 7)) (fun _ _ _ _ _ => (pe_call GA (hr.mono (by decide)) (by rfl) DA.m DA.F.kp DA.b .nil pass0 (pa_cons (pv 7) (pa_cons (pv 4) pa_nil))))))
    (pss_one (ps_ret (pe_dc (own := [("pattern", 7), ("number", 8)]) (g := (gTup K 2 (gCons (gName 7) (gCons (gName 8) gNil))))   rfl scWts.nd (pi_items (Lc.pe_lockV (pv 5))) (blkOk_by (own := [("pattern", 7), ("number", 8)]) (N := nWts) (sc := defScope sWeights) (by decide +kernel)) (fun _ _ _ _ _ => (pg_tup rfl (pgs_cons (pg_name (i := 7) scWts.nd rfl (Or.inl rfl)) (pgs_cons (pg_name (i := 8) scWts.nd rfl (Or.inl rfl)) pgs_nil)))) (fun _ _ _ _ _ => pts_one (pt_cmpR op_ne (pv 8) pe_int (nomark _))) (fun _ _ _ _ _ => (pv 7)) (fun _ _ _ _ _ => (pv 8)))))))))), ?_⟩
    obtain ⟨nd, ln⟩ := all_nd hsg hn
    have n5 : n ≤ 5 := by
      unfold okB at hn
      simp only [Bool.or_eq_true, Bool.and_eq_true, decide_eq_true_eq] at hn
      omega
    have hin := (lay_in sg n).1
    have hall := fun y (h : upTo sg n y) => (laysAll n y h.2).1 h.1
    have hin' : ∀ t ∈ allT sg n, upTo sg n (cds t) := fun t ht => ⟨by rw [cds_len]; exact (hin t ht).1, (hin t ht).2⟩
    have hall' : ∀ y, upTo sg n y → tx y ∈ allT sg n := hall
    refine ⟨_, rfl, sg, rfl, hsg, fun H1 s1 => ?_⟩
    refine ⟨_, rfl, (n : Int), 0, 5, rfl, nat_isInt (Nat.lt_of_le_of_lt n5 (by decide)), by omega, by omega, ?_⟩
    refine ⟨_, rfl, _, rfl, sg, n, rfl, hsg, n5, fun a H2 na s2 ha => ?_⟩
    dsimp only [gName]
    have ha : H2 a = some (.tup ((allT sg n).map V.str)) := ha
    have s02 := s1.trans s2
    have line : (allT sg n).length < sizeLine := Nat.lt_of_le_of_lt ln (by decide)
    refine ⟨_, rfl, a, rfl, ⟨_, SqT.of ha⟩, fun D1 n1 => ?_⟩
    refine Lc.dcT (F := fun t => V.int (g (cds t))) (SqT.of ha) nd n1 line (fun _ => rfl) (fun _ => rfl) ?_ ?_
    · intro i t H3 ht s3 Q' q'
      have hR3 := hR.same (s02.trans s3)
      exact ⟨rfl, hR3, _, rfl, hR3, hc t H3 _ (s02.trans s3) (hin' t (List.mem_of_getElem? ht)) fun H4 s4 => q' _ (Lp.same_pin hR3.pn s4)⟩
    intro H3 s3 e3
    have s03 := s02.trans s3
    have ha3 := s3 _ _ ha
    dsimp only [gName]
    refine ⟨_, rfl, a, rfl, ⟨_, SqT.of ha3⟩, fun D2 n2 => ?_⟩
    refine Lc.dcT (F := fun t => V.int (Ty.wt g (cds t))) (SqT.of ha3) nd n2 line (fun _ => rfl) (fun _ => rfl) ?_ ?_
    · intro i t H4 ht s4 Q' q'
      have hu := hin' t (List.mem_of_getElem? ht)
      refine ⟨_, rfl, _, rfl, t, D1, g, rfl, ?_, ⟨_, s4 _ _ e3, fun y hy => ?_⟩, fun H5 s5 => q' H5 s5⟩
      · have := hu.1
        rw [cds_len] at this
        omega
      · obtain ⟨s, hs, rfl⟩ := List.mem_map.mp hy
        obtain ⟨l1, l2⟩ := sels_sub s hs
        have hy2 : upTo sg n s.1 := ⟨Nat.le_trans l1 hu.1, fun c hc => hu.2 c (l2 c hc)⟩
        exact ⟨val_txt (hall' _ hy2), hb _ hy2⟩
    intro H4 s4 e4
    have s04 := s03.trans s4
    dsimp only [gName]
    have nH2 := free_none s03 n2
    have ek : ((allT sg n).map fun t => ((Sum.inr t : Key), V.int (Ty.wt g (cds t)))) = kvS (((allT sg n).map cds).map fun y => (y, Ty.wt g y)) := by
      show _ = List.map _ (List.map _ (List.map _ _))
      rw [List.map_map, List.map_map]
      refine List.map_congr_left fun t _ => ?_
      show _ = ((Sum.inr (tx (cds t)) : Key), _)
      rw [tx_cds]
    rw [ek] at e4
    have ndk : ((((allT sg n).map cds).map fun y => (y, Ty.wt g y)).map (·.1)).Nodup := by
      rw [List.map_map]
      show (List.map (fun y => y) _).Nodup
      rw [List.map_id']
      exact List.Pairwise.map cds (fun a b n e => n (cds_ext e)) nd
    have lw : (((allT sg n).map cds).map fun y => (y, Ty.wt g y)).length ≤ 20 := by rw [List.length_map, List.length_map]; exact ln
    have qf : ∀ D H', Same H H' → H D = none → H' D = some (.dK (kvS ((((allT sg n).map cds).map fun y => (y, Ty.wt g y)).filter fun s => !decide (s.2 = 0)))) → Q (.ref D) H' := q
    generalize (((allT sg n).map cds).map fun y => (y, Ty.wt g y)) = W at e4 ndk lw qf
    refine ⟨_, rfl, D2, _, rfl, e4, (by unfold Mut; simp), fun od => ⟨D2, od, _, rfl, upd_same, fun D3 n3 => ?_⟩⟩
    have s05 : Same H (upd H4 D2 (.frz od (.dK (kvS W)))) := fun b o e => by
      rw [upd_ne (ne_of_none e nH2)]
      exact s04 _ _ e
    have e5 : (upd H4 D2 (.frz od (.dK (kvS W)))) D2 = some (.frz od (.dK (kvS W))) := upd_same
    generalize upd H4 D2 (.frz od (.dK (kvS W))) = H5 at s05 e5 n3 ⊢
    refine Lc.dc_items (fun i H6 => Same H5 H6 ∧ H6 D3 = some (.dK (kvS ((W.take i).filter fun s => !decide (s.2 = 0))))) ⟨same_upd n3, upd_same⟩ (fun i H6 z => z.1 _ _ e5) ?_ ?_
    · rintro i k v tp H6 hk ⟨s6, e6⟩ nt
      have hi := (List.getElem?_eq_some_iff.mp hk).1
      rw [List.length_map] at hi
      rw [List.getElem?_map, List.getElem?_eq_getElem hi] at hk
      cases hk
      have sT := same_upd (o := .tup [kV (Sum.inr (tx W[i].1)), V.int W[i].2]) nt
      refine ⟨tp, _, rfl, SqT.of upd_same, rfl, _, _, rfl, _, _, rfl, rfl, rfl, ?_⟩
      have e7 := sT _ _ e6
      have s7 := s6.trans sT
      generalize upd H6 tp (.tup [kV (Sum.inr (tx W[i].1)), V.int W[i].2]) = H7 at e7 s7 ⊢
      have et : (W.take (i + 1)).filter (fun s => !decide (s.2 = 0)) = (W.take i).filter (fun s => !decide (s.2 = 0)) ++ if W[i].2 = 0 then [] else [W[i]] := by
        rw [List.take_add_one, List.getElem?_eq_getElem hi, List.filter_append]
        congr 1
        show List.filter _ [W[i]] = _
        by_cases e : W[i].2 = 0
        · simp [e]
        · simp [e]
      refine ⟨_, rfl, rfl, _, rfl, ?_⟩
      by_cases e : W[i].2 = 0
      · rw [decide_eq_true (show V.int W[i].2 = V.int 0 by rw [e])]
        refine iteF ?_
        refine ⟨s7, ?_⟩
        rw [et, if_pos e, List.append_nil]
        exact e7
      · rw [decide_eq_false (show ¬ V.int W[i].2 = V.int 0 from fun z => e (by injection z))]
        refine iteT ?_
        refine ⟨_, rfl, _, rfl, _, (Sum.inr (tx W[i].1) : Key), rfl, e7, ?_, same_put s7 n3, ?_⟩
        · rw [List.length_map]
          refine Nat.lt_of_le_of_lt (List.length_filter_le _ _) ?_
          rw [List.length_take]
          exact Nat.lt_of_le_of_lt (show _ ≤ 20 by omega) (by decide)
        · rw [upd_same, et, if_neg e, putK_app]
          · show some (HO.dK (List.map _ _ ++ _)) = some (HO.dK (List.map _ (_ ++ _)))
            rw [List.map_append]
            rfl
          · intro hm
            obtain ⟨kv, h1, e1⟩ := List.mem_map.mp hm
            obtain ⟨s, h2, rfl⟩ := List.mem_map.mp h1
            have e1 : s.1 = W[i].1 := key_tx.mp e1
            obtain ⟨m, hm⟩ := List.mem_iff_getElem?.mp (List.mem_filter.mp h2).1
            have hm1 := (List.getElem?_eq_some_iff.mp hm).1
            rw [List.length_take] at hm1
            rw [List.getElem?_take, if_pos (by omega)] at hm
            have a1 : (W.map (·.1))[m]? = some s.1 := by rw [List.getElem?_map, hm]; rfl
            have a2 : (W.map (·.1))[i]? = some W[i].1 := by rw [List.getElem?_map, List.getElem?_eq_getElem hi]; rfl
            rw [e1] at a1
            have := (List.getElem?_inj (by rw [List.length_map]; omega) ndk).mp (a1.trans a2.symm)
            omega
    · rintro H6 ⟨s6, e6⟩
      rw [List.length_map, List.take_of_length_le (Nat.le_refl _)] at e6
      exact qf D3 H6 (s05.trans s6) (free_none s05 n3) e6
end
end K6

set_option Elab.async false
set_option linter.all false
set_option maxRecDepth 100000
set_option maxHeartbeats 4000000
/-! rules for tuples of numbers: enumerate(t), sorted(t), t.index(n) -/
namespace Ur
open PySem PySem.Spec PyProof.Rows L2
open Sem (wp)
open AutoSeq1 (wpAny_loadPart')
theorem meets_enumerate_newT (l : Addr) (items : Array Value) (n : Nat) (dct : Option Addr) (sl : Array (Option Value)) :
    Meets (Builtin.«enumerate.__new__» ⟨[.type "enumerate", .ref l], []⟩) (fun _ R s => s.heap.get? l = some { cls := .type "tuple", dict := dct, data := .seq items n, slots := sl } ∧
      R (.ok (.ret (.ref (s.heap.push { cls := .type "tuple_iterator", data := .fields #[.ref l, .int 0 0] }).objs.size)))
        { s with heap := (s.heap.push { cls := .type "tuple_iterator", data := .fields #[.ref l, .int 0 0] }).push { cls := .type "enumerate", data := .fields #[.none, .bool false, .ref s.heap.objs.size, rawInt 0, .none, .none] } }) :=
  .of_wp fun prog w A R s h => by
    obtain ⟨hp, g, d, tk, os⟩ := s; obtain ⟨hl, h⟩ := h
    have hsub := sub_enumerate
    have hL : Heap.IsTuple (Shared.heap ⟨hp, g, d, tk, os⟩) l items := ⟨_, hl, rfl, n, rfl⟩
    wp_walk using wpAny_loadPart' hl
    refine wpAny_stack_any fun st => wpAny_pure ?_
    split
    · rename_i c _ _ _ _ _
      cases (c == Value.type "enumerate")
      · wp_walk using wpAny_loadPart' hl, wpAny_pyIter_tuple hL
        exact ⟨_, rfl, h⟩
      · wp_walk using wpAny_loadPart' hl, wpAny_pyIter_tuple hL
        exact ⟨_, rfl, h⟩
    · wp_walk using wpAny_loadPart' hl, wpAny_pyIter_tuple hL
      exact ⟨_, rfl, h⟩
section
variable {prog : Program} {w : World} {A : Around} {E : Value → Shared → Prop} {s : Shared}
theorem call_enumerate_tuple {l : Addr} {items : Array Value} {Q : Value → Shared → Prop} (hL : s.heap.IsTuple l items)
    (h : ∀ h', IsEnum h' (s.heap.objs.size + 1) s.heap.objs.size 0 .none → h'.IsTupleIter s.heap.objs.size l 0 → h'.objs.size = s.heap.objs.size + 2 →
      (∀ b o, s.heap.get? b = some o → h'.get? b = some o) → Q (.ref (s.heap.objs.size + 1)) { s with heap := h' }) :
    wpAny (model prog w) A (call (.type "enumerate") [.ref l]) Q E s := by
  obtain ⟨⟨c, dct, dt, sl⟩, hl, hc, n, hd⟩ := hL
  replace hc : c = .type "tuple" := hc
  replace hd : dt = .seq items n := hd
  subst hc hd
  refine callType_new F.called_enumerate (by decide) (F.typeCall_enumerate_1 _) (F.newCall_enumerate_1 _) (fun obj => F.args_object_init_2 obj _) F.entry_enumerate_new
    (meets_enumerate_newT l items n dct sl) ⟨hl, ?_⟩
  have hz : (s.heap.push { cls := .type "tuple_iterator", data := .fields #[.ref l, .int 0 0] }).objs.size = s.heap.objs.size + 1 := Heap.size_push ..
  show _ ∧ _
  rw [hz]
  have he : IsEnum ((s.heap.push { cls := .type "tuple_iterator", data := .fields #[.ref l, .int 0 0] }).push
      { cls := .type "enumerate", data := .fields #[.none, .bool false, .ref s.heap.objs.size, rawInt 0, .none, .none] }) (s.heap.objs.size + 1) s.heap.objs.size 0 .none := by
    have := Heap.get?_push_size (s.heap.push { cls := .type "tuple_iterator", data := .fields #[.ref l, .int 0 0] })
      (o := { cls := .type "enumerate", data := .fields #[.none, .bool false, .ref s.heap.objs.size, rawInt 0, .none, .none] }) rfl
    rw [hz] at this; exact this
  refine ⟨⟨_, he, rfl⟩, h _ he ⟨_, Heap.get?_push_of_some _ (Heap.get?_push_size _ rfl), rfl, rfl⟩ (by rw [Heap.size_push, hz]) fun b o x => Heap.get?_push_of_some _ (Heap.get?_push_of_some _ x)⟩
end
/-- the tuple at a, each item in a new pair with its place -/
def IteT (K : PySem.W.Frag) (a : Addr) : It :=
  ⟨fun i H => ∃ (xs : List V) (x : V), SqT K H a xs ∧ xs[i]? = some x, fun i H v H' => ∃ T x, v = .ref T ∧ H T = none ∧ H' = upd H T (.tup [.int (i : Nat), x]) ∧ ∀ xs, SqT K H a xs → xs[i]? = some x, fun i H => ∃ xs : List V, SqT K H a xs ∧ xs.length = i⟩
theorem turn_enumT {P : Program} {w : World} {K : PySem.W.Frag} {elts : List Expr} {kk : Nat} {tpos : Pos} (a e it : Addr) :
    Turn P w K (.Tuple elts kk tpos) (IteT K a) [e, it] e (fun i h => (∃ old, IsEnum h e it ((i : Nat) : Int) old) ∧ h.IsTupleIter it a i ∧ e ≠ it) where
  mem := by simp
  obj := fun i h st b hb => by
    obtain ⟨⟨old, he⟩, ⟨o, ho, hc, hd⟩, _⟩ := st
    have e' : b = e ∨ b = it := by simpa using hb
    rcases e' with z | z
    · rw [z]; exact ⟨_, he, fun v q => nomatch q⟩
    · rw [z]; exact ⟨o, ho, fun v q => by rw [hd] at q; cases q⟩
  keep := fun i h h' st k => let ⟨⟨old, he⟩, hi, hne⟩ := st; ⟨⟨old, k e (by simp) _ he⟩, hi.at fun o q => k it (by simp) o q, hne⟩
  item := by
    intro X hP hw hK hc i pins s σ H E I hf st hg
    subst hP hw hK
    obtain ⟨⟨old, he⟩, hit, hne⟩ := st
    obtain ⟨xs, x, hq, hx⟩ := hg
    obtain ⟨its, rv, p, hz⟩ := I.tuple hq
    obtain ⟨u, hu, ru⟩ := rv.get hx
    have hel : e < s.heap.objs.size := Heap.lt_size he
    have hil : it < s.heap.objs.size := by obtain ⟨_, q, _⟩ := hit; exact Heap.lt_size q
    have nai : a ≠ it := by
      rintro rfl
      obtain ⟨o, ho, hco, _⟩ := p
      obtain ⟨o2, ho2, hco2, _⟩ := hit
      rw [ho] at ho2
      cases ho2
      rw [hco] at hco2
      exact absurd hco2 (by decide)
    have nea : e ≠ a := by
      rintro rfl
      obtain ⟨o, ho, hco, _⟩ := p
      have he' : s.heap.get? e = _ := he
      rw [ho] at he'
      cases he'
      injection hco with z
      exact absurd z (by decide)
    have hlt : i < its.toArray.size := by
      have := (List.getElem?_eq_some_iff.mp hu).1
      rw [List.size_toArray]
      exact this
    refine wpAny_pyNext_enum_itemD (Draws.tuple (A := X.A.in1) (I.ok.hd hc) it a nai its.toArray) he ⟨hit, p⟩ hlt hne (by simp; exact ⟨hne, nea⟩) fun u' h' tk hu' ho hst hT hsz hk => ?_
    have hu2 : its.toArray[i]? = some u' := hu'
    have eu : u' = u := by
      have : its.toArray[i]? = some u := by simpa using hu
      rw [this] at hu2
      exact (Option.some.inj hu2).symm
    subst eu
    refine ⟨_, rfl, wpAny_letOwnedTupleGo_enum (s := { s with heap := h', toks := tk + 1 }) ho fun h'' he' sb => ?_⟩
    have hT2 : h''.get? s.heap.objs.size = some { cls := .type "tuple", data := .seq #[.int i tk, u'] } := (sb.2 _ (Nat.ne_of_gt hel)).trans hT
    have new : ObjOk X.prog X.w (upd H s.heap.objs.size (.tup [.int (i : Nat), x])) h'' s.heap.objs.size (.tup [.int (i : Nat), x]) :=
      ⟨by show 2 ≤ sizeLine; decide, [.int i tk, u'], .cons ⟨_, rfl⟩ (.cons ru .nil), ⟨_, hT2, rfl, _, rfl⟩⟩
    have I1 : Inv X pins σ (upd H s.heap.objs.size (.tup [.int (i : Nat), x])) { s with heap := h'', toks := tk + 1 } :=
      I.turnedNew (ch := [e, it]) (fun b ob hb q => (sb.2 b (fun z => hb (by simp [z]))).trans (hk b ob (fun z => hb (by simp [z])) (fun z => hb (by simp [z])) q)) hf (Nat.le_refl _) new
    refine ⟨.ref s.heap.objs.size, _, I1, rfl, ⟨_, x, rfl, I.hok.fresh (Nat.le_refl _), rfl, fun ys hy => by rw [I.tuple_inj hy hq]; exact hx⟩, ⟨⟨u', ?_⟩, hst.1.at fun o q => (sb.2 it (Ne.symm hne)).trans q, hne⟩, fun b hb => ?_⟩
    · have e1 : ((i + 1 : Nat) : Int) = (i : Int) + 1 := by omega
      rw [e1]; exact he'
    · have hb' : b < s.heap.objs.size := by
        have e' : b = e ∨ b = it := by simpa using hb
        rcases e' with z | z
        · rw [z]; exact hel
        · rw [z]; exact hil
      rw [upd_ne (Nat.ne_of_lt hb')]
      exact (hf b hb).1
  done := by
    intro X hP hw hK hc i pins s σ H E I hf st hg
    subst hP hw hK
    obtain ⟨⟨old, he⟩, hit, hne⟩ := st
    obtain ⟨xs, hq, hx⟩ := hg
    obtain ⟨its, rv, p, hz⟩ := I.tuple hq
    obtain ⟨f0, f1, f2, f3, f4, f5⟩ := hf it (by simp)
    have hl := rv.length
    have nai : a ≠ it := by
      rintro rfl
      obtain ⟨o, ho, hco, _⟩ := p
      obtain ⟨o2, ho2, hco2, _⟩ := hit
      rw [ho] at ho2
      cases ho2
      rw [hco] at hco2
      exact absurd hco2 (by decide)
    have en : its.toArray.size = i := by rw [List.size_toArray]; omega
    exact wpAny_pyNext_enum_endD (Draws.tuple (A := X.A.in1) (I.ok.hd hc) it a nai its.toArray) he (by rw [en]; exact ⟨hit, p⟩) fun h' eb => ⟨rfl, I.turned (t' := s.toks) (fun b o hb q => eb b o hb q) f0 f1 f3 f4 f5⟩
  self := fun A i s Q E st h => let ⟨⟨_, he⟩, _⟩ := st; wpAny_pyIter_enum he h
def iEnumT (K : PySem.W.Frag) (ta : TA) : TI := fun σ H R => ta σ H fun vs H1 => ∃ a xs, vs = [.ref a] ∧ SqT K H1 a xs ∧ R (IteT K a) H1
theorem pi_enumT {X : Cx} {e : Expr} {ta : TA} {p pos tpos : Pos} {elts : List Expr} {kk : Nat} (hg : Gl X "enumerate") (hm : X.mg "enumerate" = none) (ha : PA X [e] ta) (hs : starEach [e] X.env = [(false, eval e X.env)] := by rfl) :
    PI X (.Tuple elts kk tpos) (.Call (.Name "enumerate" p) [e] [] pos) (iEnumT X.K ta) := by
  refine ⟨fun pins s σ H R I h => ?_⟩
  refine Call_ (ld_blt I hg hm boot_enumerate (PyProof.Rows.callWith_type1 (thn (ha.run pos pins s σ H _ I h) fun us s1 ⟨vs, H1, I1, r1, q1⟩ => ?_) hs rfl))
  obtain ⟨a, xs, ex, hq, q⟩ := q1
  subst ex
  cases r1 with
  | cons r rr =>
    cases rr
    cases r
    obtain ⟨its, rv, p', hz⟩ := I1.tuple hq
    refine call_enumerate_tuple p' fun h' he hit hsz hk => wpAny_pyIter_enum he ?_
    have I2 : Inv X pins σ H1 { s1 with heap := h' } := I1.kept (t' := s1.toks) hk
    refine ⟨s1.heap.objs.size + 1, [s1.heap.objs.size + 1, s1.heap.objs.size], _, _, H1, rfl, I2, turn_enumT a (s1.heap.objs.size + 1) s1.heap.objs.size, ⟨⟨.none, he⟩, hit, Nat.succ_ne_self _⟩, fun b hb => ?_, q⟩
    have e' : b = s1.heap.objs.size + 1 ∨ b = s1.heap.objs.size := by simpa using hb
    have hle : s1.heap.objs.size ≤ b := by
      rcases e' with z | z
      · rw [z]; exact Nat.le_add_right _ _
      · rw [z]; exact Nat.le_refl _
    exact I1.fpOk hle (I1.hok.fresh hle)
/-! ### sorted(t) -/
section
variable {prog : Program} {w : World} {M : Model} {A : Around} {E : Value → Shared → Prop} {s : Shared}
theorem collect_tuple {l : Addr} {vs : List Value} {Q : List Value → Shared → Prop} (hl : s.heap.IsTuple l vs.toArray)
    (h : Q vs { s with heap := (s.heap.push (seqObj "list" #[] 0)).update s.heap.objs.size (Obj.mapSeq (· ++ vs.toArray)) }) (hsz : vs.length ≤ sizeLine := by size_fits) :
    wpAny (model prog w) A (collect (.ref l)) Q E s := by
  obtain ⟨o, ho, hc, n, hd⟩ := id hl
  unfold collect
  refine wpAny_bind (wpAny_runValue (codeAny_builtin entry_proto_collect' ?_))
  show wpAny _ _ (do again (.builtin "list.__iadd__" ⟨[← newList [], .ref l], []⟩)) _ _ s
  refine wpAny_bind (wpAny_newList (wpAny_pure ⟨Code.quiet_builtin _ (by decide +kernel), codeAny_builtin entry_list_iadd' ?_⟩))
  show wpAny _ _ (Builtin.List.listExtendWith (.ref s.heap.objs.size) (.ref l) (.ref s.heap.objs.size)) _ _ { s with heap := s.heap.push (seqObj "list" #[] 0) }
  unfold Builtin.List.listExtendWith
  have ho' : (s.heap.push (seqObj "list" #[] 0)).get? l = some o := Heap.get?_push_of_some _ ho
  refine wpAny_bind (wpAny_typeOf (T := "tuple") ⟨o, ho', hc⟩ ?_)
  have ht : (Value.type "tuple" == Value.type "tuple") = true := by rfl
  rw [if_pos (by rw [ht]; simp)]
  refine wpAny_bind (listItems_at ho' hd ?_)
  refine wpAny_bind (listItems_at (xs := #[]) (n := 0) (Heap.get?_push_size _ rfl) rfl ?_)
  rw [if_neg (by simp)]
  refine wpAny_bind (listUpdate_at (xs := #[]) (n := 0) (Heap.get?_push_size _ rfl) rfl ?_ (Nat.zero_le _) (by show (#[] ++ vs.toArray).size ≤ sizeLine + 1; simp only [Array.size_append, List.size_toArray, List.length_nil]; omega))
  refine wpAny_pure ?_
  show wpAny (model prog w) A (do
      let o ← load s.heap.objs.size
      match o.data with
      | .seq xs _ => pure xs.toList
      | _ => unsupported "internal:collect") Q E { s with heap := (s.heap.push (seqObj "list" #[] 0)).update s.heap.objs.size (Obj.mapSeq (· ++ vs.toArray)) }
  refine wpAny_bind (wpAny_load (get?_update_seq (Heap.get?_push_size _ rfl) _) ?_)
  show wpAny _ _ (pure ((#[] : Array Value) ++ vs.toArray).toList) Q E _
  rw [show ((#[] : Array Value) ++ vs.toArray).toList = vs by simp]
  exact wpAny_pure h
theorem sorted_intsT {l : Addr} {vs : List Value} {ns : List Int} {Q : Value → Shared → Prop} (hl : s.heap.IsTuple l vs.toArray) (hI : IntsAre vs ns) (h64 : vs.length < 64)
    (h : ∀ (out : Array Value) (ns' : List Int), IntsAre out.toList ns' → ns'.Perm ns → ns'.Pairwise (· ≤ ·) → Q (.ref (s.heap.objs.size + 1)) { s with heap := sortedAll s.heap vs out }) :
    wpAny (model prog w) A (call (.builtin "sorted") [.ref l]) Q E s := by
  refine Calls.call_function_entry kind_sorted plain_sorted entry_sorted (args_sorted1 _) ?_
  unfold Builtin.«sorted»
  refine wpAny_bind (m := checkCount "sorted" 1 1 _) (wpAny_pure ?_)
  refine wpAny_bind (collect_tuple hl ?_ (Nat.le_trans (Nat.le_of_lt h64) (by decide)))
  refine wpAny_bind (wpAny_newList ?_)
  have hsz : ((s.heap.push (seqObj "list" #[] 0)).update s.heap.objs.size (Obj.mapSeq (· ++ vs.toArray))).objs.size = s.heap.objs.size + 1 := by
    rw [Heap.size_update, size_push']
  have hoL : (((s.heap.push (seqObj "list" #[] 0)).update s.heap.objs.size (Obj.mapSeq (· ++ vs.toArray))).push (seqObj "list" vs.toArray 0)).get? (s.heap.objs.size + 1) = some (seqObj "list" vs.toArray 0) := by
    rw [← hsz]; exact Heap.get?_push_size _ rfl
  show wpAny _ _ _ _ _ { s with heap := ((s.heap.push (seqObj "list" #[] 0)).update s.heap.objs.size (Obj.mapSeq (· ++ vs.toArray))).push (seqObj "list" vs.toArray 0) }
  rw [hsz]
  refine wpAny_bind (wpAny_holding (wpAny_call_entry slot_list_sort ⟨_, hoL, rfl⟩ entry_list_sort (list_sort_tree hoL hI h64 fun out ns' a1 a2 a3 => ⟨_, rfl, ?_⟩) (args_list_sort _)))
  exact wpAny_pure ⟨_, rfl, h out ns' a1 a2 a3⟩
end
section
variable {X : Cx}
def rSortedT (K : PySem.W.Frag) : List V → Hp → VK → Prop := fun vs H Q => ∃ (a : Addr) (ns : List Int), vs = [V.ref a] ∧ SqT K H a (ns.map V.int) ∧ ns.length < 64 ∧ ∀ (ns' : List Int) (p : Addr), ns'.Perm ns → ns'.Pairwise (· ≤ ·) → H p = none → Q (.ref p) (upd H p (.lst (ns'.map V.int)))
theorem cr_sortedT : CallR X (.builtin "sorted") (rSortedT X.K) := by
  intro pins s σ H vs us Q I r h
  obtain ⟨a, ns, rfl, hs, h64, q⟩ := h
  obtain ⟨its, rv, hl, _⟩ := I.tuple hs
  rw [Vals.ref1 r]
  have hi := rv.ints
  refine sorted_intsT hl hi (by rw [hi.length]; exact h64) fun out ns' h1 h2 h3 => ?_
  obtain ⟨ep, he'⟩ := PyProof.Rows.sortedAll_at s.heap its out
  have hlen : (ns'.map V.int).length ≤ sizeLine := by rw [List.length_map, h2.length_eq]; exact small64 h64
  exact ⟨.ref _, upd H (s.heap.objs.size + 1) (.lst (ns'.map V.int)), I.laid (t' := s.toks) (fun _ _ => PyProof.Rows.sortedAll_old) (Nat.le_succ _) ⟨hlen, out.toList, ep, vals_of_ints h1, he'⟩, rfl, q ns' _ h2 h3 (I.hok.fresh (Nat.le_succ _))⟩
/-- t.index(n), the first place -/
theorem mt_tup_indexI : MtR X "tuple.index" (fun x xs H Q => ∃ p, ∃ ys : List Int, ∃ z j, x = .ref p ∧ xs = [.int z] ∧ SqT X.K H p (ys.map V.int) ∧ ys[j]? = some z ∧ (∀ m, m < j → ys[m]? ≠ some z) ∧ Q (.int (j : Nat)) H) := by
  intro pins s σ H x xs v us Q I rx rs h
  obtain ⟨p, ys, z, j, rfl, rfl, hq, hy, hno, q⟩ := h
  cases rx
  obtain ⟨u, rfl, t, rfl⟩ := vals1 rs
  obtain ⟨its, r, pl, hz⟩ := I.tuple hq
  obtain ⟨⟨cls, dd, dt, sl⟩, ho, hc, n, hd⟩ := pl
  simp only at hc hd
  subst hc
  subst hd
  have hl : its.toArray.size = ys.length := by rw [List.size_toArray, ← r.length, List.length_map]
  have hj : j < its.toArray.size := by rw [hl]; exact (List.getElem?_eq_some_iff.mp hy).1
  have at' : ∀ (m : Nat) (hm : m < its.toArray.size), ∃ y t', ys[m]? = some y ∧ its.toArray[m] = Value.int y t' := fun m hm => by
    have hm' : m < ys.length := by rw [← hl]; exact hm
    obtain ⟨w, hw, t', hw'⟩ := r.get (i := m) (x := .int ys[m]) (by simp [hm'])
    refine ⟨ys[m], t', List.getElem?_eq_getElem hm', ?_⟩
    have e := (List.getElem?_eq_some_iff.mp hw).2
    rw [← hw', ← e]
    simp
  refine call_meets PySem.F.slot_tuple_index ⟨_, ho, rfl⟩ PySem.F.entry_tuple_index (PySem.F.args_tuple_index_2 _ _) (TI.tuple_indexAt p its.toArray n dd sl (.int z t) (eqU (.int z)) j hj ?_ ?_)
    ⟨ho, fun w hw => mem_eqAt (x := .int z) ⟨t, rfl⟩ rfl r (by rw [List.all_map]; exact List.all_eq_true.mpr fun _ _ => rfl) w (by simpa using hw), ⟨.int (j : Nat), H, I.tok _, ⟨_, rfl⟩, q⟩⟩
  · obtain ⟨y, t', h1, h2⟩ := at' j hj
    rw [hy] at h1
    cases h1
    rw [h2]
    show (z == z) = true
    exact beq_self_eq_true z
  · intro m hm hmj
    obtain ⟨y, t', h1, h2⟩ := at' m hm
    rw [h2]
    show (y == z) = false
    exact beq_eq_false_iff_ne.mpr fun e => hno m hmj (e ▸ h1)
end
end Ur

set_option Elab.async false
set_option linter.all false
set_option maxRecDepth 100000
set_option maxHeartbeats 4000000
/-! enumerate(a text) -/
namespace Ur
open PySem PySem.Spec PyProof.Rows L2
/-- the text x, each sign in a new pair with its place -/
def IteS (x : Str) : It :=
  ⟨fun i _ => i < x.cps.size, fun i H v H' => ∃ T c, v = .ref T ∧ H T = none ∧ x.cps[i]? = some c ∧ H' = upd H T (.tup [.int (i : Nat), .str ⟨#[c]⟩]), fun i _ => x.cps.size = i⟩
theorem turn_enumS {P : Program} {w : World} {K : PySem.W.Frag} {elts : List Expr} {kk : Nat} {tpos : Pos} (x : Str) (t : Tok) (e it : Addr) :
    Turn P w K (.Tuple elts kk tpos) (IteS x) [e, it] e (fun i h => (∃ old, IsEnum h e it ((i : Nat) : Int) old) ∧ h.IsStrIter it (strIterType x) x t i ∧ e ≠ it) where
  mem := by simp
  obj := fun i h st b hb => by
    obtain ⟨⟨old, he⟩, ⟨o, ho, hc, hd⟩, _⟩ := st
    have e' : b = e ∨ b = it := by simpa using hb
    rcases e' with z | z
    · rw [z]; exact ⟨_, he, fun v q => nomatch q⟩
    · rw [z]; exact ⟨o, ho, fun v q => by rw [hd] at q; cases q⟩
  keep := fun i h h' st k => let ⟨⟨old, he⟩, ⟨o, ho, r⟩, hne⟩ := st; ⟨⟨old, k e (by simp) _ he⟩, ⟨o, k it (by simp) o ho, r⟩, hne⟩
  item := by
    intro X hP hw hK hc i pins s σ H E I hf st hg
    subst hP hw hK
    obtain ⟨⟨old, he⟩, hit, hne⟩ := st
    have hlt : i < x.cps.size := hg
    have hel : e < s.heap.objs.size := Heap.lt_size he
    have hil : it < s.heap.objs.size := by obtain ⟨_, q, _⟩ := hit; exact Heap.lt_size q
    refine wpAny_pyNext_enum_itemD (Draws.text (A := X.A.in1) (I.ok.hd hc) it x t) he hit hlt hne (by simp; exact hne) fun u' h' tk hu' ho hst hT hsz hk => ?_
    obtain ⟨c, tc, hcx, rfl⟩ := hu'
    refine ⟨_, rfl, wpAny_letOwnedTupleGo_enum (s := { s with heap := h', toks := tk + 1 }) ho fun h'' he' sb => ?_⟩
    have hT2 : h''.get? s.heap.objs.size = some { cls := .type "tuple", data := .seq #[.int i tk, .str ⟨#[c]⟩ tc] } := (sb.2 _ (Nat.ne_of_gt hel)).trans hT
    have new : ObjOk X.prog X.w (upd H s.heap.objs.size (.tup [.int (i : Nat), .str ⟨#[c]⟩])) h'' s.heap.objs.size (.tup [.int (i : Nat), .str ⟨#[c]⟩]) :=
      ⟨by show 2 ≤ sizeLine; decide, [.int i tk, .str ⟨#[c]⟩ tc], .cons ⟨_, rfl⟩ (.cons ⟨_, rfl⟩ .nil), ⟨_, hT2, rfl, _, rfl⟩⟩
    have I1 : Inv X pins σ (upd H s.heap.objs.size (.tup [.int (i : Nat), .str ⟨#[c]⟩])) { s with heap := h'', toks := tk + 1 } :=
      I.turnedNew (ch := [e, it]) (fun b ob hb q => (sb.2 b (fun z => hb (by simp [z]))).trans (hk b ob (fun z => hb (by simp [z])) (fun z => hb (by simp [z])) q)) hf (Nat.le_refl _) new
    refine ⟨.ref s.heap.objs.size, _, I1, rfl, ⟨_, c, rfl, I.hok.fresh (Nat.le_refl _), hcx, rfl⟩, ⟨⟨.str ⟨#[c]⟩ tc, ?_⟩, ?_, hne⟩, fun b hb => ?_⟩
    · have e1 : ((i + 1 : Nat) : Int) = (i : Int) + 1 := by omega
      rw [e1]; exact he'
    · obtain ⟨o, q, r⟩ := hst
      exact ⟨o, (sb.2 it (Ne.symm hne)).trans q, r⟩
    · have hb' : b < s.heap.objs.size := by
        have e' : b = e ∨ b = it := by simpa using hb
        rcases e' with z | z
        · rw [z]; exact hel
        · rw [z]; exact hil
      rw [upd_ne (Nat.ne_of_lt hb')]
      exact (hf b hb).1
  done := by
    intro X hP hw hK hc i pins s σ H E I hf st hg
    subst hP hw hK
    obtain ⟨⟨old, he⟩, hit, hne⟩ := st
    obtain ⟨f0, f1, f2, f3, f4, f5⟩ := hf it (by simp)
    have en : x.cps.size = i := hg
    exact wpAny_pyNext_enum_endD (Draws.text (A := X.A.in1) (I.ok.hd hc) it x t) he (by rw [en]; exact hit) fun h' eb => ⟨rfl, I.turned (t' := s.toks) (fun b o hb q => eb b o hb q) f0 f1 f3 f4 f5⟩
  self := fun A i s Q E st h => let ⟨⟨_, he⟩, _⟩ := st; wpAny_pyIter_enum he h
def iEnumS (ta : TA) : TI := fun σ H R => ta σ H fun vs H1 => ∃ x, vs = [.str x] ∧ R (IteS x) H1
theorem pi_enumS {X : Cx} {e : Expr} {ta : TA} {p pos tpos : Pos} {elts : List Expr} {kk : Nat} (hg : Gl X "enumerate") (hm : X.mg "enumerate" = none) (ha : PA X [e] ta) (hs : starEach [e] X.env = [(false, eval e X.env)] := by rfl) :
    PI X (.Tuple elts kk tpos) (.Call (.Name "enumerate" p) [e] [] pos) (iEnumS ta) := by
  refine ⟨fun pins s σ H R I h => ?_⟩
  refine Call_ (ld_blt I hg hm boot_enumerate (PyProof.Rows.callWith_type1 (thn (ha.run pos pins s σ H _ I h) fun us s1 ⟨vs, H1, I1, r1, q1⟩ => ?_) hs rfl))
  obtain ⟨x, ex, q⟩ := q1
  subst ex
  cases r1 with
  | cons r rr =>
    cases rr
    obtain ⟨t, rfl⟩ := r
    refine call_enumerate_str fun h' he hit hsz hk => wpAny_pyIter_enum he ?_
    have I2 : Inv X pins σ H1 { s1 with heap := h' } := I1.kept (t' := s1.toks) hk
    refine ⟨s1.heap.objs.size + 1, [s1.heap.objs.size + 1, s1.heap.objs.size], _, _, H1, rfl, I2, turn_enumS x t (s1.heap.objs.size + 1) s1.heap.objs.size, ⟨⟨.none, he⟩, hit, Nat.succ_ne_self _⟩, fun b hb => ?_, q⟩
    have e' : b = s1.heap.objs.size + 1 ∨ b = s1.heap.objs.size := by simpa using hb
    have hle : s1.heap.objs.size ≤ b := by
      rcases e' with z | z
      · rw [z]; exact Nat.le_add_right _ _
      · rw [z]; exact Nat.le_refl _
    exact I1.fpOk hle (I1.hok.fresh hle)
/-- for i, c in enumerate(text) -/
theorem for_enumS {x : Str} {g : TG} {tb : TS} {D : Ends} {σ : L2.St} {H : Hp} (Pv : Nat → L2.St → Hp → Prop) (h0 : Pv 0 σ H)
    (hs : ∀ i c T σ H, x.cps[i]? = some c → Pv i σ H → H T = none → g (.ref T) σ (upd H T (.tup [.int (i : Nat), .str ⟨#[c]⟩])) fun σ2 H2 => tb { D with nx := Pv (i + 1), ct := Pv (i + 1), bk := D.nx } σ2 H2) (hd : ∀ σ H, Pv x.cps.size σ H → D.nx σ H) :
    ∃ W : Nat → Nat → L2.St → Hp → Prop, (∃ m, W 0 m σ H) ∧ ∀ i m σ H, W i m σ H →
      ((IteS x).stop i H ∧ D.nx σ H) ∨ ((IteS x).go i H ∧ ∃ N : L2.St → Hp → Prop, (∀ σ' H', N σ' H' → ∃ m', m' < m ∧ W (i + 1) m' σ' H') ∧ ∀ v H', (IteS x).yld i H v H' → g v σ H' fun σ2 H2 => tb { D with nx := N, ct := N, bk := D.nx } σ2 H2) := by
  refine ⟨fun i m σ H => m = x.cps.size - i ∧ i ≤ x.cps.size ∧ Pv i σ H, ⟨x.cps.size, by simp, Nat.zero_le _, h0⟩, ?_⟩
  rintro i m σ H ⟨rfl, hi, p⟩
  by_cases hlt : i < x.cps.size
  · refine .inr ⟨hlt, Pv (i + 1), fun σ' H' p' => ⟨x.cps.size - (i + 1), by omega, rfl, hlt, p'⟩, fun v H' y => ?_⟩
    obtain ⟨T, c, rfl, nT, hc, rfl⟩ := y
    exact hs i c T σ H hc p nT
  · have e : i = x.cps.size := by omega
    subst e
    exact .inl ⟨rfl, hd σ H p⟩
end Ur

set_option Elab.async false
set_option linter.all false
set_option maxRecDepth 100000
set_option maxHeartbeats 6400000
namespace K6
open PySem L2 Tx Tg Tm Da RZ Lc
/-! ### the law's own lists and counts -/
def lineL (sg : Str) : Nat → List Str
  | 0 => []
  | n + 1 => lineL sg n ++ growL sg (lays sg n).2
theorem lays_line (sg : Str) : ∀ n, (lays sg n).1 = ("" : Str) :: lineL sg n
  | 0 => rfl
  | n + 1 => by
    show (lays sg n).1 ++ growL sg (lays sg n).2 = ("" : Str) :: (lineL sg n ++ growL sg (lays sg n).2)
    rw [lays_line sg n]
    rfl
theorem line_len {sg : Str} (h : Signs sg) {n : Nat} (hn : n ≤ 5) : (lineL sg n).length ≤ 400 := by
  have := (bdp h hn).a
  rw [lays_line, List.length_cons] at this
  omega
abbrev nLines : List Str := ["_law_signs_here", "_law_deep", "_law_found", "_law_layer", "_law_turn", "_law_longer", "_law_line_here", "_law_sign"]
section
variable {P : Program} {w : World} {K : PySem.W.Frag} {mg : Str → Option Value} {base : Heap}
def spLines : Sp := fun vs H Q _ => ∃ (sg : Str) (n : Nat), vs = [.str sg, .int n] ∧ Signs sg ∧ n ≤ 5 ∧ ∀ p H', H p = none → Same H H' → H' p = some (.lst (txs (lineL sg n))) → Q (.ref p) H'
theorem scLines : FnScope nLines ["_law_signs_here", "_law_deep"] (defScope sLinesTo) := ⟨rfl, rfl, rfl, by decide +kernel, rfl, by decide +kernel, by decide +kernel⟩
theorem ok_lines {f : Addr} {fd : FuncData} (F : Fun K "_law_lines_to" "_law_lines_to" sLinesTo f fd) (T : Txt K mg) : FnOk P w K mg base CX0 1 f fd ["_law_signs_here", "_law_deep"] spLines := by
  refine F.ok scLines (fun vs H Q E h => ?_) (fun cdv A outer s H vs Q E hr h => ?_)
  · obtain ⟨sg, n, rfl, _⟩ := h
    rfl
  · obtain ⟨sg, n, rfl, hsg, hn, q⟩ := h
    refine ⟨_, pss_cons (ps_par (i := 2) (j := 3) (by rfl) scLines.nd rfl rfl (by decide) rfl rfl (pa_cons (pe_lst pa_nil) (pa_cons (pe_lst (pa_cons pe_str pa_nil)) pa_nil)) (by rfl))
      (pss_cons (ps_for PassesOwn.never rfl (pi_range1 rfl T.range (pa_cons (pv 1) pa_nil)) (pg_name (i := 4) scLines.nd rfl (Or.inl rfl))
        (pss_cons (ps_set (i := 5) scLines.nd rfl (Or.inl rfl) (pe_lst pa_nil))
        (pss_cons (ps_for PassesOwn.never rfl (pi_list (pv 3)) (pg_name (i := 6) scLines.nd rfl (Or.inr rfl))
          (pss_one (ps_set (i := 5) scLines.nd rfl (Or.inl rfl) (pe_op op_cat (pv 5) (pe_lc (own := [("_law_sign", 7)]) (g := gName 7) (tt := tYes) rfl scLines.nd (pi_str (pv 0))
            (blkOk_by (own := [("_law_sign", 7)]) (N := nLines) (sc := defScope sLinesTo) (by decide +kernel)) (fun _ _ _ _ _ => pg_name (i := 7) scLines.nd rfl (Or.inl rfl)) (fun _ _ _ _ _ => pts_nil)
            (fun _ _ _ _ _ => pe_op op_add_str (pv 6) (pv 7)))))))
        (pss_one (ps_par (i := 2) (j := 3) (by rfl) scLines.nd rfl rfl (by decide) rfl rfl (pa_cons (pe_op op_cat (pv 2) (pv 5)) (pa_cons (pv 5) pa_nil)) (by rfl))))))
      (pss_one (ps_ret (pv 2)))), ?_⟩
    refine ⟨by decide, fun p np => ?_⟩
    refine ⟨by show 1 ≤ sizeLine; decide, fun p0 np0 => ?_⟩
    have n01 : p ≠ p0 := ne_of_none upd_same np0
    refine ⟨_, _, rfl, _, rfl, n, rfl, by omega, by omega, for_range (n := n) (fun i σ H1 => ∃ (pf pl : Addr) (t4 t5 t6 : Option V), σ = [some (.str sg), some (.int n), some (.ref pf), some (.ref pl), t4, t5, t6, none] ∧ Same H H1 ∧ H pf = none ∧
        H1 pf = some (.lst (txs (lineL sg i))) ∧ H1 pl = some (.lst (txs (lays sg i).2)))
      ⟨p, p0, none, none, none, rfl, (same_upd np).trans (same_upd np0), np, (by rw [upd_ne n01]; exact upd_same), upd_same⟩ ?_ ?_⟩
    · rintro i σ H1 hi ⟨pf, pl, t4, t5, t6, rfl, s1, npf, e1, e2⟩
      have B := bdp hsg (n := i) (by omega)
      have B' := bdp hsg (n := i + 1) (by omega)
      have LL := line_len hsg (n := i + 1) (by omega)
      refine ⟨by decide, fun pg npg => ?_⟩
      have s2 : Same H1 (upd H1 pg (.lst [])) := same_upd npg
      refine ⟨_, rfl, pl, rfl, ⟨_, SqL.of (s2 _ _ e2)⟩, ?_⟩
      refine for_list (xs := txs (lays sg i).2) (fun j σ H2 => ∃ (q : Addr) (t6 : Option V), σ = [some (.str sg), some (.int n), some (.ref pf), some (.ref pl), some (.int (0 + (i : Nat))), some (.ref q), t6, none] ∧ Same H1 H2 ∧
        H1 q = none ∧ H2 q = some (.lst (txs (growL sg ((lays sg i).2.take j))))) ⟨pg, t6, rfl, s2, npg, upd_same⟩ (fun j σ H2 _ z => by obtain ⟨_, _, _, s3, _⟩ := z; exact SqL.of (s3 _ _ e2)) ?_ ?_
      · rintro j x σ H2 hx ⟨g0, t6, rfl, s3, ng0, e3⟩
        rw [List.getElem?_map] at hx
        obtain ⟨y, hy, rfl⟩ := Option.map_eq_some_iff.mp hx
        have hy5 : y.length ≤ 5 := B.d y (List.mem_of_getElem? hy)
        have hjl : j < (lays sg i).2.length := (List.getElem?_eq_some_iff.mp hy).1
        have hc3 : (cds sg).length ≤ 3 := by rw [cds_len]; exact sg_short hsg
        have glen : (growL sg ((lays sg i).2.take j)).length ≤ 1200 := by
          rw [growL_len, List.length_take]
          have := B.b
          exact Nat.le_trans (Nat.mul_le_mul (show min j (lays sg i).2.length ≤ 400 by omega) hc3) (by decide)
        refine ⟨_, rfl, _, rfl, sg, rfl, fun D hD => ?_⟩
        refine lc_it walk_str (fun k H3 => Same H2 H3 ∧ H3 D = some (.lst (txs (((cds sg).take k).map fun c => y ++ one c)))) ⟨same_upd hD, upd_same⟩ (fun _ _ _ _ => trivial) ?_ ?_
        · rintro k x H3 H4 hk ⟨s4, e4⟩ ⟨rfl, c, hc, rfl⟩
          refine ⟨rfl, iteT (B := Same H2 H4 ∧ H4 D = some (.lst (txs (((cds sg).take (k + 1)).map fun c => y ++ one c)))) ?_⟩
          refine ⟨_, rfl, _, rfl, y, one c, rfl, rfl, ?_, ?_⟩
          · have : (one c).length = 1 := rfl
            rw [this]
            exact Nat.le_trans (show y.length + 1 ≤ 6 by omega) (by decide)
          · have hk' : (cds sg)[k]? = some c := by
              show sg.cps.toList[k]? = some c
              rw [Array.getElem?_toList]
              exact hc
            refine ⟨_, e4, ?_, same_put s4 hD, ?_⟩
            · rw [List.length_map, List.length_map, List.length_take]
              exact Nat.lt_of_lt_of_le (show _ < 1000 by omega) (by decide)
            · rw [upd_same, List.take_add_one, hk', List.map_append]
              show _ = some (HO.lst ((_ ++ [y ++ one c]).map V.str))
              rw [List.map_append]
              rfl
        · rintro H3 ⟨s4, e4⟩
          have ez : (cds sg).take sg.cps.size = cds sg := List.take_of_length_le (by rw [cds_len]; exact Nat.le_refl _)
          rw [ez] at e4
          refine ⟨g0, D, _, _, rfl, rfl, s4 _ _ e3, e4, ?_, fun p3 n3 => ?_⟩
          · rw [List.length_map, List.length_map, List.length_map]
            exact Nat.le_trans (show _ ≤ 2000 by omega) (by decide)
          · refine ⟨p3, _, rfl, (s3.trans s4).trans (same_upd n3), free_none (s3.trans s4) n3, ?_⟩
            rw [upd_same, growL_take hy]
            show _ = some (HO.lst (List.map V.str (_ ++ _)))
            rw [List.map_append]
      · rintro σ H2 ⟨g0, t6, rfl, s3, ng0, e3⟩
        have et : (lays sg i).2.take ((txs (lays sg i).2).length) = (lays sg i).2 := List.take_of_length_le (by rw [List.length_map]; exact Nat.le_refl _)
        rw [et] at e3
        refine ⟨_, rfl, _, rfl, pf, g0, _, _, rfl, rfl, s3 _ _ e1, e3, ?_, fun p3 n3 => ?_⟩
        · rw [List.length_map, List.length_map]
          have e : lineL sg (i + 1) = lineL sg i ++ growL sg (lays sg i).2 := rfl
          rw [e, List.length_append] at LL
          exact Nat.le_trans LL (by decide)
        · refine ⟨_, rfl, _, _, rfl, p3, g0, _, _, _, rfl, (s1.trans s3).trans (same_upd n3), free_none (s1.trans s3) n3, ?_, ?_⟩
          · rw [upd_same]
            show _ = some (HO.lst ((lineL sg i ++ growL sg (lays sg i).2).map V.str))
            rw [List.map_append]
          · exact (same_upd n3) _ _ e3
    · rintro σ H1 ⟨pf, pl, t4, t5, t6, rfl, s1, npf, e1, e2⟩
      exact ⟨_, rfl, q pf _ npf s1 e1⟩
abbrev intsV (l : List Int) : List V := l.map V.int
theorem one_inj {a b : Nat} (h : one a = one b) : a = b := by
  have : cds (one a) = cds (one b) := by rw [h]
  have : [a] = [b] := this
  injection this
abbrev nSpread : List Str := ["_law_line_here", "_law_piece", "_law_known", "_law_sign", "_law_later", "_law_at_here", "_law_other"]
theorem scSpread : FnScope nSpread ["_law_line_here", "_law_piece"] (defScope sSpread) := ⟨rfl, rfl, rfl, by decide +kernel, rfl, by decide +kernel, by decide +kernel⟩
def spSpread : Sp := fun vs H Q _ => ∃ (z y : Str), vs = [.str z, .str y] ∧ z.length ≤ 12 ∧ y.length ≤ 12 ∧ ∀ H', Same H H' → Q (.int (Ty.cnt (cds y) (Ty.picks (cds z)))) H'
theorem ok_spread {f : Addr} {fd : FuncData} (F : Fun K "_law_spread" "_law_spread" sSpread f fd) (T : Txt K mg) : FnOk P w K mg base CX0 1 f fd ["_law_line_here", "_law_piece"] spSpread := by
  refine F.ok scSpread (fun vs H Q E h => ?_) (fun cdv A outer s H vs Q E hr h => ?_)
  · obtain ⟨z, y, rfl, _⟩ := h
    rfl
  · obtain ⟨z, y, rfl, hz, hy, q⟩ := h
    refine ⟨_, (pss_cons (ps_set (i := 2) scSpread.nd rfl (Or.inl rfl) (pe_op op_cat (pe_lst (pa_cons pe_int pa_nil)) (pe_op op_rep (pe_lst (pa_cons pe_int pa_nil)) (pe_callB call_len_str (by rfl) T.len PySem.boot_len (pa_cons (pv 1) pa_nil)))))
    (pss_cons (ps_for PassesOwn.never rfl (pi_str (pv 0)) (pg_name (i := 3) scSpread.nd rfl (Or.inl rfl))
      (pss_cons (ps_set (i := 4) scSpread.nd rfl (Or.inl rfl) (pe_lst (pa_cons pe_int pa_nil)))
      (pss_cons (ps_for PassesOwn.never rfl (Ur.pi_enumS (by rfl) T.enumerate (pa_cons (pv 1) pa_nil)) (pg_tup rfl (pgs_cons (pg_name (i := 5) scSpread.nd rfl (Or.inl rfl)) (pgs_cons (pg_name (i := 6) scSpread.nd rfl (Or.inl rfl)) pgs_nil)))
        (pss_one (ps_expr (pe_bm PySem.F.plainAttrs_list PySem.F.slot_list_append PySem.F.type_list_append mt_append (pv 4) (pa_cons (pe_op op_add (pe_ix ix_list (pv 2) (pe_op op_add (pv 5) pe_int) (fun _ _ => rfl)) (pe_op op_mul (pe_ix ix_list (pv 2) (pv 5) (fun _ _ => rfl)) (pe_callTy call_int1 (by rfl) T.int (by decide +kernel) (pa_cons (pe_cmpR op_eq (pv 6) (pv 3) (nomark _)) pa_nil)))) pa_nil)))))
      (pss_one (ps_set (i := 2) scSpread.nd rfl (Or.inl rfl) (pv 4))))))
    (pss_one (ps_ret (pe_ix ix_list (pv 2) (pe_un un_neg pe_int) (fun _ _ => rfl)))))), ?_⟩
    have hzl : (cds z).length ≤ 12 := hz
    have hyl : (cds y).length ≤ 12 := hy
    refine ⟨(by show 1 ≤ sizeLine; decide), fun A1 n1 => ⟨(by show 1 ≤ sizeLine; decide), fun A2 n2 => ?_⟩⟩
    have s1 := same_upd (o := .lst [V.int 1]) n1
    have e1 : (upd H A1 (.lst [V.int 1])) A1 = some (.lst [V.int 1]) := upd_same
    generalize upd H A1 (.lst [V.int 1]) = H1 at s1 e1 n2 ⊢
    have s2 := same_upd (o := .lst [V.int 0]) n2
    have e2 : (upd H1 A2 (.lst [V.int 0])) A2 = some (.lst [V.int 0]) := upd_same
    have e12 := s2 _ _ e1
    have s02 := s1.trans s2
    generalize upd H1 A2 (.lst [V.int 0]) = H2 at s02 e2 e12 ⊢
    refine ⟨_, rfl, y, rfl, Nat.le_trans hy (by decide), ?_⟩
    refine ⟨A2, _, _, rfl, rfl, e2, by omega, ?_, ?_, fun A3 n3 => ?_⟩
    · exact Int.lt_of_le_of_lt (show (y.length : Int) ≤ 12 by omega) (by decide)
    · show 1 * (y.length : Int).toNat ≤ sizeLine
      exact Nat.le_trans (show _ ≤ 12 by omega) (by decide)
    rw [Int.toNat_natCast]
    have erep : (List.replicate y.length [V.int 0]).flatten = intsV (List.replicate (cds y).length 0) := by
      show (List.replicate (cds y).length [V.int 0]).flatten = _
      generalize (cds y).length = n
      induction n with
      | zero => rfl
      | succ n ih =>
        rw [List.replicate_succ, List.replicate_succ, List.flatten_cons, ih]
        rfl
    rw [erep]
    have s3 := same_upd (o := .lst (intsV (List.replicate (cds y).length 0))) n3
    have e3 : (upd H2 A3 (.lst (intsV (List.replicate (cds y).length 0)))) A3 = some (.lst (intsV (List.replicate (cds y).length 0))) := upd_same
    have e13 := s3 _ _ e12
    have s03 := s02.trans s3
    generalize upd H2 A3 (.lst (intsV (List.replicate (cds y).length 0))) = H3 at s03 e3 e13 ⊢
    refine ⟨A1, A3, _, _, rfl, rfl, e13, e3, ?_, fun A4 n4 => ?_⟩
    · rw [List.length_map, List.length_replicate]
      exact Nat.le_trans (show 1 + (cds y).length ≤ 13 by omega) (by decide)
    have s4 := s03.trans (same_upd (o := .lst ([V.int 1] ++ intsV (List.replicate (cds y).length 0))) n4)
    have e4 : (upd H3 A4 (.lst ([V.int 1] ++ intsV (List.replicate (cds y).length 0)))) A4 = some (.lst (intsV (Ty.crow (cds y) (Ty.picks [])))) := by
      rw [upd_same]
      show _ = some (HO.lst (intsV (Ty.crow (cds y) [([], 0)])))
      rw [Ty.crow_nil]
      rfl
    generalize upd H3 A4 (.lst ([V.int 1] ++ intsV (List.replicate (cds y).length 0))) = H4 at s4 e4 ⊢
    dsimp only [tSeq, gName]
    refine ⟨_, rfl, z, rfl, ?_⟩
    refine Lc.for_text (fun i σ H5 => ∃ (u3 u4 u5 u6 : Option V) (A : Addr), σ = [some (.str z), some (.str y), some (.ref A), u3, u4, u5, u6] ∧ Same H H5 ∧ H5 A = some (.lst (intsV (Ty.crow (cds y) (Ty.picks ((cds z).take i)))))) ⟨none, none, none, none, A4, rfl, s4, e4⟩ ?_ ?_
    · rintro i c σ H5 hc ⟨u3, u4, u5, u6, A, rfl, s5, e5⟩
      have ef : Ty.picks ((cds z).take (i + 1)) = Ty.pstep (Ty.picks ((cds z).take i)) c := by
        rw [List.take_add_one, hc]
        exact Ty.picks_snoc _ _
      have c0 := Ty.cnt_nil ((cds z).take (i + 1))
      rw [ef] at c0
      rw [ef]
      generalize Ty.picks ((cds z).take i) = G at e5 c0 ⊢
      dsimp only [tSeq, gName]
      refine ⟨(by show 1 ≤ sizeLine; decide), fun B nB => ?_⟩
      have s6 := same_upd (o := .lst [V.int 1]) nB
      have e6 : (upd H5 B (.lst [V.int 1])) B = some (.lst (intsV ((Ty.crow (cds y) (Ty.pstep G c)).take 1))) := by
        rw [upd_same]
        unfold Ty.crow
        rw [List.range_succ_eq_map]
        show _ = some (HO.lst [V.int ((Ty.cnt [] (Ty.pstep G c) : Nat) : Int)])
        rw [c0]
        rfl
      have e5' := s6 _ _ e5
      have s56 := s5.trans s6
      generalize upd H5 B (.lst [V.int 1]) = H6 at e6 e5' s56 ⊢
      refine ⟨_, rfl, y, rfl, ?_⟩
      refine Ur.for_enumS (fun j σ H7 => ∃ u5 u6 : Option V, σ = [some (.str z), some (.str y), some (.ref A), some (.str (one c)), some (.ref B), u5, u6] ∧ (∀ b o, b ≠ B → H6 b = some o → H7 b = some o) ∧ H7 B = some (.lst (intsV ((Ty.crow (cds y) (Ty.pstep G c)).take (j + 1))))) ⟨u5, u6, rfl, fun _ _ _ e => e, e6⟩ ?_ ?_
      · rintro j d T σ H7 hd ⟨v5, v6, rfl, k7, e7⟩ nT
        have sT := same_upd (o := .tup [.int (j : Nat), .str ⟨#[d]⟩]) nT
        refine ⟨T, _, rfl, SqT.of upd_same, rfl, _, _, rfl, _, _, rfl, rfl, ?_⟩
        have hd : (cds y)[j]? = some d := (Array.getElem?_toList ..).trans hd
        obtain ⟨hj, ed⟩ := List.getElem?_eq_some_iff.mp hd
        have AB : A ≠ B := fun z => by rw [z, nB] at e5; cases e5
        have eA := sT _ _ (k7 _ _ AB e5')
        have eB := sT _ _ e7
        generalize upd H7 T (.tup [.int (j : Nat), .str ⟨#[d]⟩]) = H8 at sT eA eB ⊢
        have lcr : ∀ F, (Ty.crow (cds y) F).length = (cds y).length + 1 := fun F => by unfold Ty.crow; rw [List.length_map, List.length_range]
        have g1 : (intsV (Ty.crow (cds y) G))[j + 1]? = some (V.int ((Ty.crow (cds y) G).getD (j + 1) 0)) := by
          rw [List.getElem?_map, List.getElem?_eq_getElem (by rw [lcr]; omega), List.getD_eq_getElem?_getD, List.getElem?_eq_getElem (by rw [lcr]; omega)]
          rfl
        have g2 : (intsV (Ty.crow (cds y) G))[j]? = some (V.int ((Ty.crow (cds y) G).getD j 0)) := by
          rw [List.getElem?_map, List.getElem?_eq_getElem (by rw [lcr]; omega), List.getD_eq_getElem?_getD, List.getElem?_eq_getElem (by rw [lcr]; omega)]
          rfl
        have st := Ty.crow_step (cds y) c G j hj
        have eg : (Ty.crow (cds y) (Ty.pstep G c)).take (j + 1 + 1) = (Ty.crow (cds y) (Ty.pstep G c)).take (j + 1) ++ [((Ty.cnt ((cds y).take (j + 1)) (Ty.pstep G c) : Nat) : Int)] := by
          rw [List.take_add_one (i := j + 1)]
          congr 1
          unfold Ty.crow
          rw [List.getElem?_map, List.getElem?_range (by omega)]
          rfl
        refine ⟨_, rfl, .inl ⟨rfl, _, SqL.of eB⟩, ?_⟩
        refine ⟨_, rfl, _, rfl, _, _, rfl, rfl, A, _, _, _, rfl, rfl, SqL.of eA, atI_nat (j := j + 1) g1, ?_⟩
        refine ⟨_, rfl, _, rfl, A, _, _, _, rfl, rfl, SqL.of eA, atI_nat g2, ?_⟩
        refine ⟨_, rfl, _, rfl, rfl, .inr ⟨_, rfl, ?_⟩⟩
        have hdc : decide (V.str (⟨#[d]⟩ : Str) = V.str (one c)) = decide ((cds y)[j] = c) := by
          rw [ed]
          exact decide_eq_decide.mpr ⟨fun e => one_inj (by injection e), fun e => by rw [e]⟩
        refine ⟨_, _, rfl, rfl, .inr ?_, _, _, rfl, rfl, B, _, _, rfl, rfl, eB, ?_, ?_⟩
        · split <;> exact ⟨by decide, by decide⟩
        · rw [List.length_map, List.length_take]
          exact Nat.lt_of_le_of_lt (show _ ≤ 13 by rw [lcr]; omega) (by decide)
        · refine ⟨some (.int (j : Nat)), some (.str ⟨#[d]⟩), rfl, fun b o n e => by rw [upd_ne n]; exact sT _ _ (k7 _ _ n e), ?_⟩
          rw [upd_same, eg, st]
          show some (HO.lst (List.map V.int _ ++ [V.int (_ + _ * if decide (V.str (⟨#[d]⟩ : Str) = V.str (one c)) = true then 1 else 0)])) = some (HO.lst (List.map V.int (_ ++ [_])))
          rw [hdc, List.map_append]
          by_cases e : (cds y)[j] = c
          · rw [decide_eq_true e, if_pos e]
            rfl
          · rw [decide_eq_false e, if_neg e]
            rfl
      · rintro σ H7 ⟨v5, v6, rfl, k7, e7⟩
        have lcr : (Ty.crow (cds y) (Ty.pstep G c)).length = (cds y).length + 1 := by unfold Ty.crow; rw [List.length_map, List.length_range]
        rw [List.take_of_length_le (by rw [lcr]; exact Nat.le_refl _)] at e7
        exact ⟨_, rfl, some (.str (one c)), some (.ref B), v5, v6, B, rfl, fun b o e => k7 b o (ne_of_none (s5 _ _ e) nB) (s56 b o e), e7⟩
    · rintro σ H5 ⟨u3, u4, u5, u6, A, rfl, s5, e5⟩
      rw [List.take_of_length_le (Nat.le_refl _)] at e5
      have lcr : (Ty.crow (cds y) (Ty.picks (cds z))).length = (cds y).length + 1 := by unfold Ty.crow; rw [List.length_map, List.length_range]
      have g : (intsV (Ty.crow (cds y) (Ty.picks (cds z))))[(cds y).length]? = some (V.int (Ty.cnt (cds y) (Ty.picks (cds z)))) := by
        unfold Ty.crow
        rw [List.getElem?_map, List.getElem?_map, List.getElem?_range (by omega)]
        show some (V.int ((Ty.cnt ((cds y).take (cds y).length) _ : Nat) : Int)) = _
        rw [List.take_of_length_le (Nat.le_refl _)]
      have gi : atI (intsV (Ty.crow (cds y) (Ty.picks (cds z)))) (-1) = some (V.int (Ty.cnt (cds y) (Ty.picks (cds z)))) := by
        unfold atI ixN
        rw [List.length_map, lcr, if_neg (by decide), if_pos (by omega)]
        show (intsV (Ty.crow (cds y) (Ty.picks (cds z))))[((-1 : Int) + ((cds y).length + 1 : Nat)).toNat]? = _
        rw [show ((-1 : Int) + ((cds y).length + 1 : Nat)).toNat = (cds y).length by omega, g]
      exact ⟨_, rfl, 1, rfl, A, _, -1, _, rfl, rfl, SqL.of e5, gi, q H5 s5⟩
end
end K6

set_option Elab.async false
set_option linter.all false
set_option maxRecDepth 100000
set_option maxHeartbeats 3200000
/-! comprehensions that give new tuples -/
namespace Lc
open PySem L2 Tx Tg Tm RZ
/-- tuples stay -/
def KT (H H' : Hp) : Prop := ∀ q xs, H q = some (.tup xs) → H' q = some (.tup xs)
theorem each_app {α β : Type} {R : α → β → Prop} : ∀ {as as' : List α} {bs bs' : List β}, PySem.W.EachIs R as bs → PySem.W.EachIs R as' bs' → PySem.W.EachIs R (as ++ as') (bs ++ bs')
  | _, _, _, _, .nil, k => k
  | _, _, _, _, .cons r t, k => .cons r (each_app t k)
section
variable {α : Type} {R : Hp → Addr → α → Prop} (hR : ∀ H H' p x, KT H H' → R H p x → R H' p x) {K : PySem.W.Frag} {te : TE} {σ : L2.St} {H1 : Hp} {D : Addr} {Qd : Hp → Prop} {j : Nat} {xs : List V} {ys : List α} {a b : Addr}
include hR
theorem lcTR (ha : SqT K H1 a xs) (nD : H1 D = none) (hl : xs.length = ys.length) (hz : xs.length < sizeLine) (hw : ∀ v, wipe ((wipe σ [j]).set j (some v)) [j] = wipe σ [j])
    (hs : ∀ (i : Nat) (x : V) (y : α) (H2 : Hp), xs[i]? = some x → ys[i]? = some y → Same H1 H2 → ∀ Q : VK, (∀ b H3, Same H2 H3 → R H3 b y → Q (.ref b) H3) → te ((wipe σ [j]).set j (some x)) H2 Q) (hd : ∀ H2 ps, Same H1 H2 → H2 D = some (.lst (ps.map V.ref)) → PySem.W.EachIs (R H2) ps ys → Qd H2) :
    ∃ W : Nat → Nat → Hp → Prop, (∃ m, W 0 m (upd H1 D (.lst []))) ∧ ∀ i m H, W i m H →
      ((Itt K a).stop i H ∧ Qd H) ∨ ((Itt K a).go i H ∧ ∃ Nx : Hp → Prop, (∀ H', Nx H' → ∃ m', m' < m ∧ W (i + 1) m' H') ∧ ∀ x H', (Itt K a).yld i H x H' → gName j x (wipe σ [j]) H' fun σ2 H2 => wipe σ2 [j] = wipe σ [j] ∧ tYes σ2 H2 fun b H3 =>
        if b = true then te σ2 H3 fun y H4 => ∃ acc, H4 D = some (.lst acc) ∧ acc.length < sizeLine ∧ Nx (upd H4 D (.lst (acc ++ [y]))) else Nx H3) := by
  refine lc_tup (xs := xs) (fun i H2 => ∃ ps : List Addr, Same H1 H2 ∧ H2 D = some (.lst (ps.map V.ref)) ∧ PySem.W.EachIs (R H2) ps (ys.take i)) ⟨[], same_upd nD, upd_same, .nil⟩ (fun i H2 _ z => by obtain ⟨_, s, _⟩ := z; exact sqT_same s ha) ?_ ?_
  · rintro i x H2 hx ⟨ps, s2, e2, r2⟩
    have hi := (List.getElem?_eq_some_iff.mp hx).1
    have hy := List.getElem?_eq_getElem (l := ys) (i := i) (by omega)
    refine ⟨hw _, iteT (B := False) ?_⟩
    refine hs i x _ H2 hx hy s2 _ fun b H3 s3 hb => ⟨_, s3 _ _ e2, ?_, ps ++ [b], same_put (s2.trans s3) nD, ?_, ?_⟩
    · rw [List.length_map, r2.length, List.length_take]
      exact Nat.lt_of_le_of_lt (Nat.min_le_left _ _) (by omega)
    · rw [upd_same, List.map_append]
      rfl
    · have k : KT H2 (upd H3 D (.lst (ps.map V.ref ++ [V.ref b]))) := fun q xs e => by
        rw [upd_ne (fun z => by rw [z, e2] at e; cases e)]
        exact s3 _ _ e
      have k3 : KT H3 (upd H3 D (.lst (ps.map V.ref ++ [V.ref b]))) := fun q xs e => by
        rw [upd_ne (fun z => by rw [z, s3 _ _ e2] at e; cases e)]
        exact e
      rw [List.take_add_one, hy]
      exact each_app (PySem.W.EachIs.mono (fun _ _ h => hR _ _ _ _ k h) r2) (.cons (hR _ _ _ _ k3 hb) .nil)
  · rintro H2 ⟨ps, s2, e2, r2⟩
    rw [hl, List.take_of_length_le (Nat.le_refl _)] at r2
    exact hd H2 ps s2 e2 r2
theorem lcRR {n : Nat} {lo : Int} (nD : H1 D = none) (hl : n = ys.length) (hz : n < sizeLine) (hw : ∀ v, wipe ((wipe σ [j]).set j (some v)) [j] = wipe σ [j])
    (hs : ∀ (i : Nat) (y : α) (H2 : Hp), i < n → ys[i]? = some y → Same H1 H2 → ∀ Q : VK, (∀ b H3, Same H2 H3 → R H3 b y → Q (.ref b) H3) → te ((wipe σ [j]).set j (some (.int (lo + i)))) H2 Q) (hd : ∀ H2 ps, Same H1 H2 → H2 D = some (.lst (ps.map V.ref)) → PySem.W.EachIs (R H2) ps ys → Qd H2) :
    ∃ W : Nat → Nat → Hp → Prop, (∃ m, W 0 m (upd H1 D (.lst []))) ∧ ∀ i m H, W i m H →
      ((Itr lo n).stop i H ∧ Qd H) ∨ ((Itr lo n).go i H ∧ ∃ Nx : Hp → Prop, (∀ H', Nx H' → ∃ m', m' < m ∧ W (i + 1) m' H') ∧ ∀ x H', (Itr lo n).yld i H x H' → gName j x (wipe σ [j]) H' fun σ2 H2 => wipe σ2 [j] = wipe σ [j] ∧ tYes σ2 H2 fun b H3 =>
        if b = true then te σ2 H3 fun y H4 => ∃ acc, H4 D = some (.lst acc) ∧ acc.length < sizeLine ∧ Nx (upd H4 D (.lst (acc ++ [y]))) else Nx H3) := by
  refine lc_range (fun i H2 => ∃ ps : List Addr, Same H1 H2 ∧ H2 D = some (.lst (ps.map V.ref)) ∧ PySem.W.EachIs (R H2) ps (ys.take i)) ⟨[], same_upd nD, upd_same, .nil⟩ ?_ ?_
  · rintro i H2 hi ⟨ps, s2, e2, r2⟩
    have hy := List.getElem?_eq_getElem (l := ys) (i := i) (by omega)
    refine ⟨hw _, iteT (B := False) ?_⟩
    refine hs i _ H2 hi hy s2 _ fun b H3 s3 hb => ⟨_, s3 _ _ e2, ?_, ps ++ [b], same_put (s2.trans s3) nD, ?_, ?_⟩
    · rw [List.length_map, r2.length, List.length_take]
      exact Nat.lt_of_le_of_lt (Nat.min_le_left _ _) (by omega)
    · rw [upd_same, List.map_append]
      rfl
    · have k : KT H2 (upd H3 D (.lst (ps.map V.ref ++ [V.ref b]))) := fun q xs e => by
        rw [upd_ne (fun z => by rw [z, e2] at e; cases e)]
        exact s3 _ _ e
      have k3 : KT H3 (upd H3 D (.lst (ps.map V.ref ++ [V.ref b]))) := fun q xs e => by
        rw [upd_ne (fun z => by rw [z, s3 _ _ e2] at e; cases e)]
        exact e
      rw [List.take_add_one, hy]
      exact each_app (PySem.W.EachIs.mono (fun _ _ h => hR _ _ _ _ k h) r2) (.cons (hR _ _ _ _ k3 hb) .nil)
  · rintro H2 ⟨ps, s2, e2, r2⟩
    rw [hl, List.take_of_length_le (Nat.le_refl _)] at r2
    exact hd H2 ps s2 e2 r2
end
section
variable {K : PySem.W.Frag} {te : TE} {σ : L2.St} {H1 : Hp} {D : Addr} {Qd : Hp → Prop} {j : Nat} {xs ys : List V} {a b : Addr}
/-- [f(x) for x in l], a value for each item -/
theorem lcLS (ha : SqL K H1 a xs) (hsl : ∀ H2, Same H1 H2 → SqL K H2 a xs) (nD : H1 D = none) (hl : xs.length = ys.length) (hz : xs.length < sizeLine) (hw : ∀ v, wipe ((wipe σ [j]).set j (some v)) [j] = wipe σ [j])
    (hs : ∀ (i : Nat) (x y : V) (H2 : Hp), xs[i]? = some x → ys[i]? = some y → Same H1 H2 → ∀ Q : VK, (∀ H3, Same H2 H3 → Q y H3) → te ((wipe σ [j]).set j (some x)) H2 Q) (hd : ∀ H2, Same H1 H2 → H2 D = some (.lst ys) → Qd H2) :
    ∃ W : Nat → Nat → Hp → Prop, (∃ m, W 0 m (upd H1 D (.lst []))) ∧ ∀ i m H, W i m H →
      ((Itl K a).stop i H ∧ Qd H) ∨ ((Itl K a).go i H ∧ ∃ Nx : Hp → Prop, (∀ H', Nx H' → ∃ m', m' < m ∧ W (i + 1) m' H') ∧ ∀ x H', (Itl K a).yld i H x H' → gName j x (wipe σ [j]) H' fun σ2 H2 => wipe σ2 [j] = wipe σ [j] ∧ tYes σ2 H2 fun b H3 =>
        if b = true then te σ2 H3 fun y H4 => ∃ acc, H4 D = some (.lst acc) ∧ acc.length < sizeLine ∧ Nx (upd H4 D (.lst (acc ++ [y]))) else Nx H3) := by
  refine lc_list (xs := xs) (fun i H2 => Same H1 H2 ∧ H2 D = some (.lst (ys.take i))) ⟨same_upd nD, upd_same⟩ (fun i H2 _ z => hsl _ z.1) ?_ ?_
  · rintro i x H2 hx ⟨s2, e2⟩
    have hi := (List.getElem?_eq_some_iff.mp hx).1
    have hy := List.getElem?_eq_getElem (l := ys) (i := i) (by omega)
    refine ⟨hw _, iteT (B := False) ?_⟩
    refine hs i x _ H2 hx hy s2 _ fun H3 s3 => ⟨_, s3 _ _ e2, ?_, same_put (s2.trans s3) nD, ?_⟩
    · rw [List.length_take]
      exact Nat.lt_of_le_of_lt (Nat.min_le_left _ _) (Nat.lt_trans hi hz)
    · rw [upd_same, List.take_add_one, hy]
      rfl
  · rintro H2 ⟨s2, e2⟩
    rw [hl, List.take_of_length_le (Nat.le_refl _)] at e2
    exact hd H2 s2 e2
end
end Lc

set_option Elab.async false
set_option linter.all false
set_option maxRecDepth 100000
set_option maxHeartbeats 3200000
/-! [.. for k in d] -/
namespace Lc
open PySem L2 Tx Tg Tm RZ
theorem lc_keys {d : Addr} {o : Obj} {kvs : List (Key × V)} {g : TG} {tt : TT} {te : TE} {vs : List Nat} {σ : L2.St} {H1 : Hp} {D : Addr} {Qd : Hp → Prop} (Pv : Nat → Hp → Prop) (h0 : Pv 0 (upd H1 D (.lst [])))
    (hf : ∀ i H, Pv i H → H d = some (.frz o (.dK kvs))) (hs : ∀ i k v H, kvs[i]? = some (k, v) → Pv i H → g (kV k) (wipe σ vs) H fun σ2 H2 => wipe σ2 vs = wipe σ vs ∧ tt σ2 H2 fun b H3 =>
      if b = true then te σ2 H3 fun y H4 => ∃ acc, H4 D = some (.lst acc) ∧ acc.length < sizeLine ∧ Pv (i + 1) (upd H4 D (.lst (acc ++ [y]))) else Pv (i + 1) H3) (hd : ∀ H, Pv kvs.length H → Qd H) :
    ∃ W : Nat → Nat → Hp → Prop, (∃ m, W 0 m (upd H1 D (.lst []))) ∧ ∀ i m H, W i m H →
      ((Itk d o kvs).stop i H ∧ Qd H) ∨ ((Itk d o kvs).go i H ∧ ∃ Nx : Hp → Prop, (∀ H', Nx H' → ∃ m', m' < m ∧ W (i + 1) m' H') ∧ ∀ x H', (Itk d o kvs).yld i H x H' → g x (wipe σ vs) H' fun σ2 H2 => wipe σ2 vs = wipe σ vs ∧ tt σ2 H2 fun b H3 =>
        if b = true then te σ2 H3 fun y H4 => ∃ acc, H4 D = some (.lst acc) ∧ acc.length < sizeLine ∧ Nx (upd H4 D (.lst (acc ++ [y]))) else Nx H3) := by
  refine ⟨fun i m H => m = kvs.length - i ∧ i ≤ kvs.length ∧ Pv i H, ⟨kvs.length, by simp, Nat.zero_le _, h0⟩, ?_⟩
  rintro i m H ⟨rfl, hi, p⟩
  by_cases hlt : i < kvs.length
  · refine .inr ⟨⟨hf i H p, hlt⟩, Pv (i + 1), fun H' p' => ⟨kvs.length - (i + 1), by omega, rfl, hlt, p'⟩, fun x H' y => ?_⟩
    obtain ⟨rfl, k, v, e, rfl⟩ := y
    exact hs i k v _ e p
  · have e : i = kvs.length := by omega
    subst e
    exact .inl ⟨⟨hf _ H p, Nat.le_refl _⟩, hd H p⟩
/-- a value for each key -/
theorem lcKS {d : Addr} {o : Obj} {kvs : List (Key × V)} {j : Nat} {te : TE} {σ : L2.St} {H1 : Hp} {D : Addr} {Qd : Hp → Prop} {ys : List V} (ed : H1 d = some (.frz o (.dK kvs))) (nD : H1 D = none) (hl : kvs.length = ys.length) (hz : kvs.length < sizeLine)
    (hw : ∀ v, wipe ((wipe σ [j]).set j (some v)) [j] = wipe σ [j])
    (hs : ∀ (i : Nat) (k : Key) (v y : V) (H2 : Hp), kvs[i]? = some (k, v) → ys[i]? = some y → Same H1 H2 → ∀ Q : VK, (∀ H3, Same H2 H3 → Q y H3) → te ((wipe σ [j]).set j (some (kV k))) H2 Q) (hd : ∀ H2, Same H1 H2 → H2 D = some (.lst ys) → Qd H2) :
    ∃ W : Nat → Nat → Hp → Prop, (∃ m, W 0 m (upd H1 D (.lst []))) ∧ ∀ i m H, W i m H →
      ((Itk d o kvs).stop i H ∧ Qd H) ∨ ((Itk d o kvs).go i H ∧ ∃ Nx : Hp → Prop, (∀ H', Nx H' → ∃ m', m' < m ∧ W (i + 1) m' H') ∧ ∀ x H', (Itk d o kvs).yld i H x H' → gName j x (wipe σ [j]) H' fun σ2 H2 => wipe σ2 [j] = wipe σ [j] ∧ tYes σ2 H2 fun b H3 =>
        if b = true then te σ2 H3 fun y H4 => ∃ acc, H4 D = some (.lst acc) ∧ acc.length < sizeLine ∧ Nx (upd H4 D (.lst (acc ++ [y]))) else Nx H3) := by
  refine lc_keys (fun i H2 => Same H1 H2 ∧ H2 D = some (.lst (ys.take i))) ⟨same_upd nD, upd_same⟩ (fun i H2 z => z.1 _ _ ed) ?_ ?_
  · rintro i k v H2 hk ⟨s2, e2⟩
    have hi := (List.getElem?_eq_some_iff.mp hk).1
    have hy := List.getElem?_eq_getElem (l := ys) (i := i) (by omega)
    refine ⟨hw _, iteT (B := False) ?_⟩
    refine hs i k v _ H2 hk hy s2 _ fun H3 s3 => ⟨_, s3 _ _ e2, ?_, same_put (s2.trans s3) nD, ?_⟩
    · rw [List.length_take]
      omega
    · rw [upd_same, List.take_add_one, hy]
      rfl
  · rintro H2 ⟨s2, e2⟩
    rw [hl, List.take_of_length_le (Nat.le_refl _)] at e2
    exact hd H2 s2 e2
/-- [f(x) for x in l], a new tuple (or what lies on tuples) for each item -/
theorem lcLR {K : PySem.W.Frag} {α : Type} {R : Hp → Addr → α → Prop} (hR : ∀ H H' p x, KT H H' → R H p x → R H' p x) {a : Addr} {xs : List V} {ys : List α} {j : Nat} {te : TE} {σ : L2.St} {H1 : Hp} {D : Addr} {Qd : Hp → Prop} (ha : SqL K H1 a xs) (hsl : ∀ H2, Same H1 H2 → SqL K H2 a xs) (nD : H1 D = none) (hl : xs.length = ys.length) (hz : xs.length < sizeLine) (hw : ∀ v, wipe ((wipe σ [j]).set j (some v)) [j] = wipe σ [j])
    (hs : ∀ (i : Nat) (x : V) (y : α) (H2 : Hp), xs[i]? = some x → ys[i]? = some y → Same H1 H2 → ∀ Q : VK, (∀ b H3, Same H2 H3 → R H3 b y → Q (.ref b) H3) → te ((wipe σ [j]).set j (some x)) H2 Q) (hd : ∀ H2 ps, Same H1 H2 → H2 D = some (.lst (ps.map V.ref)) → PySem.W.EachIs (R H2) ps ys → Qd H2) :
    ∃ W : Nat → Nat → Hp → Prop, (∃ m, W 0 m (upd H1 D (.lst []))) ∧ ∀ i m H, W i m H →
      ((Itl K a).stop i H ∧ Qd H) ∨ ((Itl K a).go i H ∧ ∃ Nx : Hp → Prop, (∀ H', Nx H' → ∃ m', m' < m ∧ W (i + 1) m' H') ∧ ∀ x H', (Itl K a).yld i H x H' → gName j x (wipe σ [j]) H' fun σ2 H2 => wipe σ2 [j] = wipe σ [j] ∧ tYes σ2 H2 fun b H3 =>
        if b = true then te σ2 H3 fun y H4 => ∃ acc, H4 D = some (.lst acc) ∧ acc.length < sizeLine ∧ Nx (upd H4 D (.lst (acc ++ [y]))) else Nx H3) := by
  refine lc_list (xs := xs) (fun i H2 => ∃ ps : List Addr, Same H1 H2 ∧ H2 D = some (.lst (ps.map V.ref)) ∧ PySem.W.EachIs (R H2) ps (ys.take i)) ⟨[], same_upd nD, upd_same, .nil⟩ (fun i H2 _ z => by obtain ⟨_, s, _⟩ := z; exact hsl _ s) ?_ ?_
  · rintro i x H2 hx ⟨ps, s2, e2, r2⟩
    have hi := (List.getElem?_eq_some_iff.mp hx).1
    have hy := List.getElem?_eq_getElem (l := ys) (i := i) (by omega)
    refine ⟨hw _, iteT (B := False) ?_⟩
    refine hs i x _ H2 hx hy s2 _ fun b H3 s3 hb => ⟨_, s3 _ _ e2, ?_, ps ++ [b], same_put (s2.trans s3) nD, ?_, ?_⟩
    · rw [List.length_map, r2.length, List.length_take]
      exact Nat.lt_of_le_of_lt (Nat.min_le_left _ _) (by omega)
    · rw [upd_same, List.map_append]
      rfl
    · have k : KT H2 (upd H3 D (.lst (ps.map V.ref ++ [V.ref b]))) := fun q xs e => by
        rw [upd_ne (fun z => by rw [z, e2] at e; cases e)]
        exact s3 _ _ e
      have k3 : KT H3 (upd H3 D (.lst (ps.map V.ref ++ [V.ref b]))) := fun q xs e => by
        rw [upd_ne (fun z => by rw [z, s3 _ _ e2] at e; cases e)]
        exact e
      rw [List.take_add_one, hy]
      exact each_app (PySem.W.EachIs.mono (fun _ _ h => hR _ _ _ _ k h) r2) (.cons (hR _ _ _ _ k3 hb) .nil)
  · rintro H2 ⟨ps, s2, e2, r2⟩
    rw [hl, List.take_of_length_le (Nat.le_refl _)] at r2
    exact hd H2 ps s2 e2 r2
end Lc

set_option Elab.async false
set_option linter.all false
set_option maxRecDepth 100000
set_option maxHeartbeats 6400000
namespace K6
open PySem L2 Tx Tg Tm Da RZ Lc
/-! ### heaps: dicts from texts to numbers -/
theorem sum_gt (D : Ty.SD) (y : List Nat) (h : (D.map (·.1)).Nodup) : (D.map fun s => s.2 * (if s.1 = y then 1 else 0 : Int)).sum = Ty.gtD D y := by
  induction D with
  | nil => rfl
  | cons s D ih =>
    rw [List.map_cons, List.nodup_cons] at h
    rw [List.map_cons, List.sum_cons, ih h.2, Ty.gtD_cons]
    by_cases e : s.1 = y
    · rw [if_pos e, if_pos e, Int.mul_one, Ty.gtD_none (by rw [← e]; exact h.1), Int.add_zero]
    · rw [if_neg e, if_neg e, Int.mul_zero, Int.zero_add]
theorem sum_cnt {D : Ty.SD} (h : (D.map (·.1)).Nodup) : ∀ F : List Ty.Pk, (D.map fun s => s.2 * (Ty.cnt s.1 F : Int)).sum = Ty.psum 1 F (Ty.gtD D)
  | [] => by
    have : ∀ D : Ty.SD, (D.map fun s => s.2 * (Ty.cnt s.1 [] : Int)).sum = 0 := fun D => by
      induction D with
      | nil => rfl
      | cons s D ih =>
        rw [List.map_cons, List.sum_cons, ih]
        show s.2 * ((0 : Nat) : Int) + 0 = 0
        simp
    exact this D
  | p :: F => by
    have e : Ty.psum 1 (p :: F) (Ty.gtD D) = 1 ^ p.2 * Ty.gtD D p.1 + Ty.psum 1 F (Ty.gtD D) := rfl
    rw [e, ← sum_cnt h F, Int.one_pow, Int.one_mul, ← sum_gt D p.1 h]
    have : ∀ D : Ty.SD, (D.map fun s => s.2 * (Ty.cnt s.1 (p :: F) : Int)).sum = (D.map fun s => s.2 * (if s.1 = p.1 then 1 else 0 : Int)).sum + (D.map fun s => s.2 * (Ty.cnt s.1 F : Int)).sum := fun D => by
      induction D with
      | nil => rfl
      | cons s D ih =>
        rw [List.map_cons, List.sum_cons, ih, List.map_cons, List.sum_cons, List.map_cons, List.sum_cons]
        have ec : (Ty.cnt s.1 (p :: F) : Int) = (if s.1 = p.1 then 1 else 0 : Int) + (Ty.cnt s.1 F : Int) := by
          unfold Ty.cnt
          rw [List.map_cons, List.count_cons]
          by_cases e : s.1 = p.1
          · rw [if_pos e, e]
            simp
            omega
          · rw [if_neg e]
            have : ¬ p.1 = s.1 := fun z => e z.symm
            simp [this]
        rw [ec, Int.mul_add]
        omega
    exact this D
theorem cnt_le (y : List Nat) (F : List Ty.Pk) : Ty.cnt y F ≤ F.length := by
  unfold Ty.cnt
  exact Nat.le_trans List.count_le_length (by rw [List.length_map]; exact Nat.le_refl _)
theorem find_nd : ∀ {D : Ty.SD} {s : List Nat × Int}, (D.map (·.1)).Nodup → s ∈ D → D.find? (fun t => decide (t.1 = s.1)) = some s
  | [], _, _, h => nomatch h
  | t :: D, s, nd, h => by
    rw [List.map_cons, List.nodup_cons] at nd
    rw [List.find?_cons]
    rcases List.mem_cons.mp h with rfl | h
    · rw [decide_eq_true rfl]
    · have : ¬ t.1 = s.1 := fun e => nd.1 (List.mem_map.mpr ⟨s, h, e.symm⟩)
      rw [decide_eq_false this]
      exact find_nd nd.2 h
theorem val_nd {D : Ty.SD} {s : List Nat × Int} (nd : (D.map (·.1)).Nodup) (h : s ∈ D) : valV (kvS D) (Sum.inr (tx s.1) : Key) = some (.int s.2) := by
  rw [val_kvS, find_nd nd h]
  rfl
/-- a heap -/
structure okH (D : Ty.SD) : Prop where
  nd : (D.map (·.1)).Nodup
  few : D.length ≤ 40
  short : ∀ s ∈ D, s.1.length ≤ 12
def HeapAt (H : Hp) (d : Addr) (D : Ty.SD) : Prop := H d = some (.dK (kvS D))
section
variable {P : Program} {w : World} {K : PySem.W.Frag} {mg : Str → Option Value} {base : Heap} {fR fS : Addr} {dR dS : FuncData}
def spRest : Sp := fun vs H Q _ => ∃ (x : Int), vs = [.int x, .non] ∧ Q (.int x) H
theorem scRest : FnScope ["_law_much", "_law_kind"] ["_law_much", "_law_kind"] (defScope sLRest) := ⟨rfl, rfl, rfl, by decide +kernel, rfl, by decide +kernel, by decide +kernel⟩
theorem ok_rest {f : Addr} {fd : FuncData} (F : Fun K "_law_rest" "_law_rest" sLRest f fd) (T : Txt K mg) : FnOk P w K mg base CX0 1 f fd ["_law_much", "_law_kind"] spRest := by
  refine F.ok scRest (fun vs H Q E h => ?_) (fun cdv A outer s H vs Q E hr h => ?_)
  · obtain ⟨x, rfl, _⟩ := h
    rfl
  · obtain ⟨x, rfl, q⟩ := h
    refine ⟨_, (pss_one (ps_ret (pe_ifExp (pt_cmpR op_isN (pv 1) pe_non (nomark _)) (pv 0) (pe_op op_modN (pe_callTy call_int1 (by rfl) T.int (by decide +kernel) (pa_cons (pv 0) pa_nil)) (pv 1))))), ?_⟩
    exact ⟨_, rfl, rfl, _, rfl, iteT (B := False) ⟨_, rfl, q⟩⟩
abbrev nAtH : List Str := ["_law_heap_here", "_law_line_here", "_law_kind", "_law_piece"]
theorem scAtH : FnScope nAtH ["_law_heap_here", "_law_line_here", "_law_kind"] (defScope sAtH) := ⟨rfl, rfl, rfl, by decide +kernel, rfl, by decide +kernel, by decide +kernel⟩
def spAtH : Sp := fun vs H Q _ => ∃ (d : Addr) (z : Str) (D : Ty.SD), vs = [.ref d, .str z, .non] ∧ HeapAt H d D ∧ okH D ∧ z.length ≤ 12 ∧ ∀ H', Same H H' → Q (.int (Ty.sm1 (Ty.gtD D) (cds z))) H'
theorem ok_atH {f : Addr} {fd : FuncData} (F : Fun K "_law_at" "_law_at" sAtH f fd) (T : Txt K mg) (DR : Df K mg "_law_rest" sLRest ["_law_much", "_law_kind"] fR dR) (DS : Df K mg "_law_spread" sSpread ["_law_line_here", "_law_piece"] fS dS) : FnOk P w K mg base CX0 2 f fd ["_law_heap_here", "_law_line_here", "_law_kind"] spAtH := by
  have GR := ok_rest (P := P) (w := w) (base := base) DR.F T
  have GS := ok_spread (P := P) (w := w) (base := base) DS.F T
  refine F.ok scAtH (fun vs H Q E h => ?_) (fun cdv A outer s H vs Q E hr h => ?_)
  · obtain ⟨d, z, D, rfl, _⟩ := h
    rfl
  · obtain ⟨d, z, D, rfl, hd, ok, hz, q⟩ := h
    have hu := hu_of hr
    have hd : H d = some (.dK (kvS D)) := hd
    refine ⟨_, (pss_one (ps_lock (ps_ret (pe_call GR (hr.mono (by decide)) (by rfl) DR.m DR.F.kp DR.b .nil pass0 (pa_cons (pe_callB (cr_sum rfl) (by rfl) T.sum (by decide +kernel) (pa_cons (pe_lc (own := [("_law_piece", 3)]) (g := (gName 3)) (tt := tYes) (te := tOp (rI CMul fun i j => .int (i * j)) (tDGet (tVar 0) (tVar 3)) (tCall spSpread [] E0 (tCons (tVar 1) (tCons (tVar 3) tNil)))) rfl scAtH.nd (pi_keys (pv 0)) (blkOk_by (own := [("_law_piece", 3)]) (N := nAtH) (sc := defScope sAtH) (by decide +kernel)) (fun _ _ _ _ _ => (pg_name (i := 3) scAtH.nd rfl (Or.inl rfl))) (fun _ _ _ _ _ => pts_nil) (fun _ _ _ _ _ => (pe_op op_mul (pe_dget hu (pv 0) (pv 3) (fun _ _ => rfl)) (pe_call GS (hr.mono (by decide)) (by rfl) DS.m DS.F.kp DS.b .nil pass0 (pa_cons (pv 1) (pa_cons (pv 3) pa_nil)))))) pa_nil)) (pa_cons (pv 2) pa_nil)))))), ?_⟩
    refine ⟨d, _, hd, (by unfold Mut; simp), fun od => ?_⟩
    have off : ∀ b o, b ≠ d → H b = some o → (upd H d (.frz od (.dK (kvS D)))) b = some o := fun b o n e => by rw [upd_ne n]; exact e
    have ed : (upd H d (.frz od (.dK (kvS D)))) d = some (.frz od (.dK (kvS D))) := upd_same
    generalize upd H d (.frz od (.dK (kvS D))) = H0 at off ed ⊢
    refine ⟨_, rfl, d, od, rfl, .inl ⟨_, ed, fun L nL => ?_⟩⟩
    refine Lc.lcKS (ys := intsV (D.map fun s => s.2 * (Ty.cnt s.1 (Ty.picks (cds z)) : Int))) ed nL (by rw [List.length_map, List.length_map, List.length_map]) (by rw [List.length_map]; exact Nat.lt_of_le_of_lt ok.few (by decide)) (fun _ => rfl) ?_ ?_
    · intro i k v y H2 hk hy s2 Q' q'
      have hi := (List.getElem?_eq_some_iff.mp hk).1
      rw [List.length_map] at hi
      rw [List.getElem?_map, List.getElem?_eq_getElem hi] at hk
      rw [List.getElem?_map, List.getElem?_map, List.getElem?_eq_getElem hi] at hy
      cases hk
      cases hy
      have hm : D[i] ∈ D := List.getElem_mem hi
      have G1 : DGet H2 d (kV (Sum.inr (tx D[i].1))) (some (.int D[i].2)) := .inl ⟨_, _, .inr ⟨od, s2 _ _ ed⟩, rfl, (val_nd ok.nd hm).symm⟩
      have hc := cnt_le D[i].1 (Ty.picks (cds z))
      have hp : (Ty.picks (cds z)).length ≤ 4096 := by
        rw [Ty.picks_len]
        exact Nat.pow_le_pow_right (n := 2) (j := 12) (by decide) hz
      refine ⟨_, rfl, _, rfl, d, _, rfl, G1, _, rfl, _, rfl, z, tx D[i].1, rfl, hz, by rw [tx_len]; exact ok.short _ hm, fun H3 s3 => ⟨_, _, rfl, rfl, .inr ?_, q' H3 s3⟩⟩
      show -(2 ^ 64) < ((Ty.cnt D[i].1 (Ty.picks (cds z)) : Nat) : Int) ∧ ((Ty.cnt D[i].1 (Ty.picks (cds z)) : Nat) : Int) < 2 ^ 64
      constructor <;> omega
    · intro H2 s2 e2
      refine ⟨L, _, rfl, SqL.of e2, _, rfl, _, rfl, ?_⟩
      rw [sum_cnt ok.nd]
      refine ⟨s2 _ _ ed, q _ fun b o e => ?_⟩
      by_cases hb : b = d
      · subst hb
        rw [upd_same, ← e, hd]
      · rw [upd_ne hb]
        exact s2 _ _ (off _ _ hb e)
end
end K6

set_option Elab.async false
set_option linter.all false
set_option maxRecDepth 100000
set_option maxHeartbeats 4000000
/-! sorted(texts, key=lambda x: len(x)) -/
namespace Lp
open PySem PySem.Spec PyProof.Rows L2 LamX
theorem ld_own {X : Cx} {pins : List (Addr × Obj)} {σ : L2.St} {H : Hp} {s : Shared} {E : Value → Shared → Prop} {i : Nat} {x : Str} {v : V} {pos : Pos} {Q : Value → Shared → Prop} (I : Inv X pins σ H s) (hN : X.N[i]? = some x) (hv : Vis X.env.scope x) (e : σ[i]? = some (some v))
    (h : ∀ u, RelV v u → Q u s) (hd : (x == ("__debug__" : Str)) = false := by decide) (hcd : (x == ("__classdict__" : Str)) = false := by decide) : wpAny (model X.prog X.w) X.A (eval (.Name x pos) X.env) Q E s := by
  obtain ⟨m, hn, hl⟩ := I.loc
  obtain ⟨u, r, l⟩ := hl i x v hN e hv
  have fin := h u r
  rcases l with ⟨hk, hm⟩ | ⟨hk, c, hc, hcell⟩
  · exact wpAny_Name (wpAny_loadName_local I.ok.kind hk hn hm fin) hd
  · rcases hk with hk | hk
    · exact wpAny_Name (wpAny_loadName_cell I.ok.kind hk hc hcell fin) hd
    · exact wpAny_Name (wpAny_loadName_free I.ok.kind hk hc hcell fin hcd) hd
theorem each_strs : ∀ {us : List Value} {l : List Str}, StrsAre us l → PySem.W.EachIs (fun (v : Value) (z : Str) => ∃ t, v = .str z t) us l
  | _, _, .nil => .nil
  | _, _, .cons x t h => .cons ⟨t, rfl⟩ (each_strs h)
theorem strs_each : ∀ {us : List Value} {l : List Str}, PySem.W.EachIs (fun (v : Value) (z : Str) => ∃ t, v = .str z t) us l → Vals (l.map V.str) us
  | _, _, .nil => .nil
  | _, _, .cons ⟨t, e⟩ h => .cons ⟨t, e⟩ (strs_each h)
/-- the body len(x) -/
abbrev bLen (x : Str) (p1 p2 p3 : Pos) : Expr := .Call (.Name "len" p1) [.Name x p2] [] p3
section
variable {P : Program} {w : World} {K : PySem.W.Frag} {mg : Str → Option Value} {base : Heap}
theorem key_lam {A : Around} {outer : List Env} {s : Shared} {H : Hp} {f c' : Addr} {q x : Str} {params : Arguments} {scope : Scope} {p1 p2 p3 : Pos} {pm ctv : Value} {z : Str} {t : Tok} (S : FnScope [x] [x] scope) (len : mg "len" = none) (hg : scope.names.lookup ("len" : Str) = some NameKind.globalImplicit) (hxl : scope.names.lookup x = some NameKind.local) (hxd : (x == ("__debug__" : Str)) = false) (hxc : (x == ("__classdict__" : Str)) = false)
    (hbind : ∀ (cv u : Value), bindArgs (PySem.W.kla_fn "<lambda>" q params (bLen x p1 p2 p3) scope [] pm cv ctv) ⟨[u], []⟩ = pure [(x, u)])
    (hf : H f = some (PinO (PySem.W.kla_obj "<lambda>" q params (bLen x p1 p2 p3) scope [] pm c' ctv))) (hc : H c' = some (CodeO c' q)) (room : Room 1 A) (e0 : Env0 P w K mg base A outer s H) (hz : z.length ≤ sizeLine) :
    wpAny (model P w) A (call (.ref f) [.str z t]) (PySem.W.KeyPure (.int z.length) s) (fun _ _ => False) s := by
  have limit : s.heap.NoLimit := e0.mod.nolimit.keeps fun b o e => (e0.bs b o e).1
  obtain ⟨⟨oc, ds, tt, hoc, hdc, hvc⟩, _, _⟩ := e0.hok c' _ hc
  have hof := (e0.hok f _ hf).1
  refine wpAny_call ?_
  refine PySem.W.kla_callFunE room.depth hof rfl S.co S.gen rfl ⟨c', oc, ds, tt, rfl, hoc, hdc, hvc⟩ ?_
  rw [hbind]
  have kinds : ∀ y ∈ [(x, Value.str z t)], scope.names.lookup y.1 = some .local ∨ (scope.names.lookup y.1 = some .cell ∧ ((cellsFrom (s.heap.objs.size + 1) scope.names []).lookup y.1).isSome = true) := fun y hy => by
    rw [List.mem_singleton.mp hy]
    exact .inl hxl
  refine wpAny_pure (wpAny_newFunctionEnv_cells S.kind kinds fun env he s1 xx => ?_)
  subst he
  refine ⟨limit.keeps xx.toInCall.keep, ?_⟩
  have J0 : Inv (cxOf CX0 P w K mg base [x] q scope f (.ref c') A outer s H (fun _ _ _ => False)) [] (start [x] [.str z]) H s1 := inv_start S room.hd e0 rfl (.cons ⟨_, rfl⟩ .nil) xx
  obtain ⟨h1, tk, rfl, hk⟩ := xx.done
  refine PySem.W.kla_codeExpr ?_
  refine wpAny_Call_Name_kw (ld_blt (u := .builtin "len") J0 hg len PySem.boot_len ?_)
  refine PyProof.Rows.callWith_builtin1 (Calls.spliced_cons (ld_own (i := 0) J0 rfl (.inl hxl) rfl (fun u r => Calls.spliced_nil ?_) hxd hxc)) rfl rfl
  obtain ⟨t1, rfl⟩ := r
  have hn := line63
  refine len_str (by omega) ?_
  exact ⟨_, _, rfl, fun b o e => hk b o e, .int _ _⟩
end
/-- how texts lie behind sorted(.., key=lambda x: len(x)) -/
abbrev leLen : Str → Str → Bool := PySem.W.dataLe false fun z => .int z.length
/-- what is asked of the lambda's text -/
structure LenLam (x : Str) (params : Arguments) (scope : Scope) : Prop where
  S : FnScope [x] [x] scope
  hg : scope.names.lookup ("len" : Str) = some NameKind.globalImplicit
  hx : scope.names.lookup x = some NameKind.local
  d : (x == ("__debug__" : Str)) = false
  c : (x == ("__classdict__" : Str)) = false
  b : ∀ (q : Str) (e : Expr) (pm cv ctv u : Value), bindArgs (PySem.W.kla_fn "<lambda>" q params e scope [] pm cv ctv) ⟨[u], []⟩ = pure [(x, u)]
def rSortLen (K : PySem.W.Frag) (q : Str) (params : Arguments) (scope : Scope) (body : Expr) : List V → List V → Hp → VK → Prop := fun vs zs H Q => ∃ (a f c' : Addr) (l : List Str) (pm ctv : Value), vs = [V.ref a] ∧ zs = [V.ref f] ∧
  H f = some (PinO (PySem.W.kla_obj "<lambda>" q params body scope [] pm c' ctv)) ∧ H c' = some (CodeO c' q) ∧ SqL K H a (l.map V.str) ∧ l.length ≤ 5000 ∧ (∀ z ∈ l, z.length ≤ sizeLine) ∧
  ∀ p, H p = none → Q (.ref p) (upd H p (.lst ((l.mergeSort leLen).map V.str)))
theorem cr_sortedLen {X : Cx} {q x : Str} {params : Arguments} {scope : Scope} {p1 p2 p3 : Pos} (B : LenLam x params scope) (len : X.mg "len" = none) (room : Room 3 X.A) : CallRK X (.builtin "sorted") [Str.ofString "key"] (rSortLen X.K q params scope (bLen x p1 p2 p3)) := by
  intro pins s σ H vs zs us ws Q I r rz h
  obtain ⟨a, f, c', l, pm, ctv, rfl, rfl, hf, hc, hs, hl, hz, qq⟩ := h
  obtain rfl := Vals.ref1 r
  obtain ⟨w1, rfl, e1⟩ := vals1 rz
  obtain rfl : w1 = Value.ref f := e1
  obtain ⟨its, rv, hL, _⟩ := I.list hs
  have e := each_strs rv.strs
  have room2 : Room 1 X.A.in1.in1 := room.in1.in1
  refine PySem.W.sorted_key_data (b := false) (fun z : Str => .int z.length) hL.isList e (PySem.W.AllAlike.of fun _ _ => by simp [PySem.W.alike]) ?_ (Nat.le_trans hl (by decide)) (fun z _ => ?_)
    (PyProof.Rows.ksk_s1 _ _) (fun _ => PyProof.Rows.ksk_l1 _ _) (fun _ => PyProof.Rows.ksk_t1 _ _) (fun v z hv hm h tk kp => ?_) fun out c h' tk kp fresh hD hlen eo => ?_
  · exact PySem.W.Sortable.others fun _ => ⟨(fun z => by cases z), (fun _ z => by cases z)⟩
  · have hd : (PyData.int z.length).depth = 0 := by simp [PyData.depth]
    have := room.units
    omega
  · obtain ⟨t, rfl⟩ := hv
    have I' : Inv X pins σ H { s with heap := h, toks := tk } := I.kept kp
    have e0 := I'.env0
    exact key_lam B.S len B.hg B.hx B.d B.c (fun cv u => B.b _ _ _ _ _ _) hf hc room2 ⟨e0.frames, e0.mod, e0.bs, e0.bsz, e0.funs, e0.frf, e0.hok, e0.bare⟩ (hz z hm)
  · have hv := strs_each eo
    refine ⟨.ref _, upd H (s.heap.objs.size + 1) (.lst ((l.mergeSort leLen).map V.str)), I.laid (t' := tk) kp (Nat.le_succ _) ⟨?_, out, c, hv, hD⟩, rfl, qq _ (I.hok.fresh (Nat.le_succ _))⟩
    rw [List.length_map, List.length_mergeSort]
    exact Nat.le_trans hl (by decide)
end Lp

set_option Elab.async false
set_option linter.all false
set_option maxRecDepth 100000
set_option maxHeartbeats 6400000
namespace K6
open PySem L2 Tx Tg Tm Da RZ Lc
/-! ### a heap cleared of zeros, in the order of lengths -/
abbrev nCl : List Str := ["_law_heap_here", "_law_some", "_law_line_here"]
theorem scCl : FnScope nCl ["_law_heap_here"] (defScope sCleared) := ⟨rfl, rfl, rfl, by decide +kernel, rfl, by decide +kernel, by decide +kernel⟩
/-- the lambda by which lengths are told -/
def lamE : Expr := match defBody sCleared with
  | .Assign _ (.Call _ _ (k :: _) _) _ :: _ => k.value
  | _ => .Constant .none 0 ⟨0, 0, 0, 0⟩
def lamP : Arguments := match lamE with
  | .Lambda p _ _ _ => p
  | _ => defArgs sCleared
def lamB : Expr := match lamE with
  | .Lambda _ b _ _ => b
  | e => e
def lamSc : Scope := match lamE with
  | .Lambda _ _ s _ => s
  | _ => defScope sCleared
def posOf : Expr → Nat → Pos
  | .Call (.Name _ p1) [.Name _ p2] _ p3, n => if n = 1 then p1 else if n = 2 then p2 else p3
  | _, _ => ⟨0, 0, 0, 0⟩
theorem lamB_is : lamB = Lp.bLen "_law_line_here" (posOf lamB 1) (posOf lamB 2) (posOf lamB 3) := by rfl
theorem lam_len : Lp.LenLam "_law_line_here" lamP lamSc := ⟨⟨rfl, rfl, rfl, by decide +kernel, rfl, by decide +kernel, by decide +kernel⟩, rfl, rfl, by decide, by decide, fun _ _ _ _ _ _ => rfl⟩
abbrev qCl : Str := ("_law_cleared_heap" : Str) ++ ".<locals>." ++ "<lambda>"
theorem merge_new : ∀ {kvs : List (Key × V)} {acc : List (Key × V)}, ((acc ++ kvs).map (·.1)).Nodup → mergeK acc kvs = acc ++ kvs
  | [], acc, _ => (List.append_nil acc).symm
  | kv :: kvs, acc, nd => by
    show mergeK (putK acc kv.1 kv.2) kvs = _
    have hn : kv.1 ∉ acc.map (·.1) := fun m1 => by
      rw [List.map_append, List.nodup_append] at nd
      exact absurd rfl (nd.2.2 _ m1 _ List.mem_cons_self)
    rw [Lc.putK_app hn, merge_new (by rw [List.append_assoc]; exact nd), List.append_assoc]
    rfl
theorem tabs_skip {T : List (Addr × Str)} {d : Addr} {kvs : List (Key × V)} {H H' : Hp} (hd : H d = some (.dK kvs)) (b : ∀ b o, b ≠ d → H b = some o → H' b = some o) (h : LamX.Tabs T H) : LamX.Tabs T H' := fun p hp => by
  obtain ⟨ps, e, tr, kn⟩ := h p hp
  refine ⟨ps, b _ _ (fun z => by rw [z, hd] at e; cases e) e, tr, fun pos cv h => ?_⟩
  obtain ⟨c', e1, e2⟩ := kn pos cv h
  exact ⟨c', e1, b _ _ (fun z => by rw [z, hd] at e2; cases e2) e2⟩
abbrev nzS : List Nat × Int → Bool := fun s => !decide (s.2 = 0)
abbrev clE (D : Ty.SD) (zs : List Str) : Ty.SD := zs.map fun t => (cds t, Ty.gtD D (cds t))
theorem gt_mem {D : Ty.SD} {s : List Nat × Int} (nd : (D.map (·.1)).Nodup) (h : s ∈ D) : Ty.gtD D s.1 = s.2 := by
  unfold Ty.gtD
  rw [find_nd nd h]
  rfl
structure ClOk (D : Ty.SD) (zs : List Str) : Prop where
  ok : okH (clE D zs)
  gt : ∀ y, Ty.gtD (clE D zs) y = Ty.gtD D y
  sub : ∀ s ∈ clE D zs, s ∈ D
theorem cl_ok {D : Ty.SD} {zs : List Str} (ok : okH D) (pm : zs.Perm ((D.filter nzS).map fun s => tx s.1)) : ClOk D zs := by
  have mem : ∀ t, t ∈ zs ↔ ∃ s ∈ D, s.2 ≠ 0 ∧ tx s.1 = t := fun t => by
    rw [pm.mem_iff, List.mem_map]
    constructor
    · rintro ⟨s, hs, e⟩
      obtain ⟨h1, h2⟩ := List.mem_filter.mp hs
      exact ⟨s, h1, by simpa using h2, e⟩
    · rintro ⟨s, h1, h2, e⟩
      exact ⟨s, List.mem_filter.mpr ⟨h1, by simpa using h2⟩, e⟩
  have kz : (clE D zs).map (·.1) = zs.map cds := by
    rw [List.map_map]
    rfl
  have ndz : zs.Nodup := by
    refine pm.nodup_iff.mpr ?_
    have e : (D.filter nzS).map (fun s => tx s.1) = ((D.filter nzS).map (·.1)).map tx := by rw [List.map_map]; rfl
    rw [e]
    refine List.Pairwise.map tx (fun a b (n : a ≠ b) e => n (tx_inj e)) ?_
    exact List.Nodup.sublist (List.Sublist.map _ List.filter_sublist) ok.nd
  have nde : ((clE D zs).map (·.1)).Nodup := by
    rw [kz]
    exact List.Pairwise.map cds (fun a b n e => n (cds_ext e)) ndz
  have sub : ∀ s ∈ clE D zs, s ∈ D := fun s hs => by
    obtain ⟨t, ht, rfl⟩ := List.mem_map.mp hs
    obtain ⟨u, hu, _, rfl⟩ := (mem t).mp ht
    show (u.1, Ty.gtD D u.1) ∈ D
    rw [gt_mem ok.nd hu]
    exact hu
  have ln : zs.length ≤ D.length := by
    rw [pm.length_eq, List.length_map]
    exact List.length_filter_le _ _
  refine ⟨⟨nde, by rw [List.length_map]; exact Nat.le_trans ln ok.few, fun s hs => ok.short s (sub s hs)⟩, fun y => ?_, sub⟩
  by_cases hy : y ∈ (clE D zs).map (·.1)
  · obtain ⟨s, hs, rfl⟩ := List.mem_map.mp hy
    rw [gt_mem nde hs, gt_mem ok.nd (sub s hs)]
  · rw [Ty.gtD_none hy]
    by_cases hd : y ∈ D.map (·.1)
    · obtain ⟨s, hs, rfl⟩ := List.mem_map.mp hd
      rw [gt_mem ok.nd hs]
      by_cases e : s.2 = 0
      · exact e.symm
      · exact absurd (List.mem_map.mpr ⟨_, List.mem_map.mpr ⟨tx s.1, (mem _).mpr ⟨s, hs, e, rfl⟩, rfl⟩, rfl⟩) hy
    · rw [Ty.gtD_none hd]
theorem cl_kvs (D : Ty.SD) (zs : List Str) : (zs.map fun t => ((Sum.inr t : Key), V.int (Ty.gtD D (cds t)))) = kvS (clE D zs) := by
  show _ = List.map _ (List.map _ zs)
  rw [List.map_map]
  refine List.map_congr_left fun t _ => ?_
  show _ = ((Sum.inr (tx (cds t)) : Key), _)
  rw [tx_cds]
theorem gt_kv {D : Ty.SD} {t : Str} (nd : (D.map (·.1)).Nodup) (h : (cds t, Ty.gtD D (cds t)) ∈ D) : some (V.int (Ty.gtD D (cds t))) = valV (kvS D) (Sum.inr t) := by
  have := val_nd nd h
  rw [tx_cds] at this
  exact this.symm
theorem keys_kvS {D : Ty.SD} (nd : (D.map (·.1)).Nodup) : ((kvS D).map (·.1)).Nodup := by
  have e : (kvS D).map (·.1) = (D.map (·.1)).map (fun y => (Sum.inr (tx y) : Key)) := by
    show List.map _ (List.map _ D) = _
    rw [List.map_map, List.map_map]
    rfl
  rw [e]
  exact List.Pairwise.map _ (fun a b (n : a ≠ b) e => n (tx_inj (by injection e))) nd
theorem paired_of {K : PySem.W.Frag} {H : Hp} : ∀ {ps : List Addr} {ys : List (Key × V)}, PySem.W.EachIs (fun p (kv : Key × V) => H p = some (.tup [kV kv.1, kv.2])) ps ys → Paired (fun p kv => SqT K H p [kV kv.1, kv.2]) ps ys
  | _, _, .nil => .nil
  | _, _, .cons h t => .cons (SqT.of h) (paired_of t)
section
variable {P : Program} {w : World} {K : PySem.W.Frag} {mg : Str → Option Value} {base : Heap}
def spCl (Pt : Addr) (T0 : List (Addr × Str)) : Sp := fun vs H Q _ => ∃ (d : Addr) (D : Ty.SD), vs = [.ref d] ∧ HeapAt H d D ∧ okH D ∧ LamX.Tabs T0 H ∧
  ∀ d' E H', LamX.ExtN H H' → LamX.Tabs T0 H' → HeapAt H' d' E → okH E → (∀ kvs, H d' ≠ some (.dK kvs)) → (∀ y, Ty.gtD E y = Ty.gtD D y) → (∀ s ∈ E, s ∈ D) → Q (.ref d') H'
theorem ok_cl {f cR Pt : Addr} {fd : FuncData} {T0 : List (Addr × Str)} (F : Lp.FunC K "_law_cleared_heap" sCleared f fd cR) (TB : LamX.TabB base mg cR Pt) (hm : (Pt, qCl) ∈ T0) (hu0 : ∀ p ∈ T0, p.1 = Pt → p.2 = qCl) (T : Txt K mg) : FnOk P w K mg base CX0 4 f fd ["_law_heap_here"] (spCl Pt T0) := by
  refine F.ok scCl (fun vs H Q E h => ?_) (fun A outer s H vs Q E hr h => ?_)
  · obtain ⟨d, D, rfl, _⟩ := h
    rfl
  · obtain ⟨d, D, rfl, hd, ok, hT, q⟩ := h
    have hu := hu_of hr
    have hd : H d = some (.dK (kvS D)) := hd
    refine ⟨_, (pss_cons (ps_lock (ps_set (i := 1) scCl.nd rfl (Or.inl rfl) (pe_callBK (Lp.cr_sortedLen (q := qCl) (p1 := posOf lamB 1) (p2 := posOf lamB 2) (p3 := posOf lamB 3) lam_len T.len (hr.mono (by decide))) (by rfl) T.sorted (by decide +kernel) (pa_cons (pe_callB cr_sortedS (by rfl) T.sorted (by decide +kernel) (pa_cons (pe_lc (own := [("_law_line_here", 2)]) (g := (gName 2))   rfl scCl.nd (pi_keys (pv 0)) (blkOk_by (own := [("_law_line_here", 2)]) (N := nCl) (sc := defScope sCleared) (by decide +kernel)) (fun _ _ _ _ _ => (pg_name (i := 2) scCl.nd rfl (Or.inl rfl))) (fun _ _ _ _ _ => pts_one (pt_cmpR op_ne (pe_dget hu (pv 0) (pv 2) (fun _ _ => rfl)) pe_int (nomark _))) (fun _ _ _ _ _ => (pv 2))) pa_nil)) pa_nil) (pk_cons (Lp.pe_lam (T := T0) (Lp.lamS1_by (sc := defScope sCleared) (a := "_law_line_here") (by decide +kernel)) TB rfl hm hu0) pk_nil))))
    (pss_one (ps_ret (pe_callTy (call_dictP rfl) (by rfl) T.dict (by decide +kernel) (pa_cons (pe_lc (own := [("_law_line_here", 2)]) (g := (gName 2)) (tt := tYes)  rfl scCl.nd (pi_list (pv 1)) (blkOk_by (own := [("_law_line_here", 2)]) (N := nCl) (sc := defScope sCleared) (by decide +kernel)) (fun _ _ _ _ _ => (pg_name (i := 2) scCl.nd rfl (Or.inl rfl))) (fun _ _ _ _ _ => pts_nil) (fun _ _ _ _ _ => (pe_tup (pa_cons (pv 2) (pa_cons (pe_dget hu (pv 0) (pv 2) (fun _ _ => rfl)) pa_nil))))) pa_nil))))), ?_⟩
    refine ⟨d, _, hd, (by unfold Mut; simp), fun od => ?_⟩
    have off : ∀ b o, b ≠ d → H b = some o → (upd H d (.frz od (.dK (kvS D)))) b = some o := fun b o n e => by rw [upd_ne n]; exact e
    have ed : (upd H d (.frz od (.dK (kvS D)))) d = some (.frz od (.dK (kvS D))) := upd_same
    generalize upd H d (.frz od (.dK (kvS D))) = H0 at off ed ⊢
    have T0' := tabs_skip hd off hT
    have line : D.length < sizeLine := Nat.lt_of_le_of_lt ok.few (by decide)
    refine ⟨_, rfl, d, od, rfl, .inl ⟨_, ed, fun L nL => ?_⟩⟩
    refine Lc.lc_keys (fun i H2 => Same H0 H2 ∧ H2 L = some (.lst ((((D.take i).filter nzS).map fun s => tx s.1).map V.str))) ⟨same_upd nL, upd_same⟩ (fun i H2 z => z.1 _ _ ed) ?_ ?_
    · rintro i k v H2 hk ⟨s2, e2⟩
      have hi := (List.getElem?_eq_some_iff.mp hk).1
      rw [List.length_map] at hi
      rw [List.getElem?_map, List.getElem?_eq_getElem hi] at hk
      cases hk
      have hm : D[i] ∈ D := List.getElem_mem hi
      have G1 : DGet H2 d (kV (Sum.inr (tx D[i].1))) (some (.int D[i].2)) := .inl ⟨_, _, .inr ⟨od, s2 _ _ ed⟩, rfl, (val_nd ok.nd hm).symm⟩
      have et : (D.take (i + 1)).filter nzS = (D.take i).filter nzS ++ if D[i].2 = 0 then [] else [D[i]] := by
        rw [List.take_add_one, List.getElem?_eq_getElem hi, List.filter_append]
        congr 1
        show List.filter _ [D[i]] = _
        by_cases e : D[i].2 = 0
        · simp [e]
        · simp [e]
      refine ⟨rfl, _, rfl, _, rfl, d, _, rfl, G1, rfl, _, rfl, ?_⟩
      by_cases e : D[i].2 = 0
      · rw [decide_eq_true (show V.int D[i].2 = V.int 0 by rw [e])]
        refine iteF ⟨s2, ?_⟩
        rw [et, if_pos e, List.append_nil]
        exact e2
      · rw [decide_eq_false (show ¬ V.int D[i].2 = V.int 0 from fun z => e (by injection z))]
        refine iteT ⟨_, rfl, _, e2, ?_, same_put s2 nL, ?_⟩
        · rw [List.length_map, List.length_map]
          refine Nat.lt_of_le_of_lt (List.length_filter_le _ _) ?_
          rw [List.length_take]
          omega
        · rw [upd_same, et, if_neg e, List.map_append, List.map_append]
          rfl
    rintro H2 ⟨s2, e2⟩
    rw [List.length_map, List.take_of_length_le (Nat.le_refl _)] at e2
    have lf : ((D.filter nzS).map fun s => tx s.1).length ≤ 40 := by
      rw [List.length_map]
      exact Nat.le_trans (List.length_filter_le _ _) ok.few
    refine ⟨L, _, rfl, SqL.of e2, Nat.lt_of_le_of_lt lf (by decide), fun ys p pm srt np => ?_⟩
    have s3 := s2.trans (same_upd (o := .lst (ys.map V.str)) np)
    have ep : (upd H2 p (.lst (ys.map V.str))) p = some (.lst (ys.map V.str)) := upd_same
    generalize upd H2 p (.lst (ys.map V.str)) = H3 at s3 ep ⊢
    refine ⟨T0'.ext s3, fun H4 e4 T4 fl fo cl nf4 nf3 hl hco => ?_⟩
    obtain ⟨pm', ctv, efo⟩ := hl
    have eF : (upd H4 fl (Lp.PinO fo)) fl = some (Lp.PinO fo) := upd_same
    have s5 := same_upd (o := Lp.PinO fo) nf4
    generalize upd H4 fl (Lp.PinO fo) = H5 at eF s5 ⊢
    have ep5 := s5 _ _ (e4 _ _ ep (fun ps z => nomatch z))
    have pmz : (ys.mergeSort Lp.leLen).Perm ((D.filter nzS).map fun s => tx s.1) := (List.mergeSort_perm _ _).trans pm
    have ly : ys.length ≤ 40 := by rw [pm.length_eq]; exact lf
    have ls : ∀ z ∈ ys, z.length ≤ sizeLine := fun z hz => by
      obtain ⟨s, hs, rfl⟩ := List.mem_map.mp (pm.mem_iff.mp hz)
      rw [tx_len]
      exact Nat.le_trans (ok.short s (List.mem_filter.mp hs).1) (by decide)
    refine ⟨p, fl, cl, ys, pm', ctv, rfl, rfl, eF.trans (congrArg (fun o => some (Lp.PinO o)) efo), s5 _ _ hco, SqL.of ep5, Nat.le_trans ly (by decide), ls, fun p2 np2 => ?_⟩
    have s6 := s5.trans (same_upd (o := .lst ((ys.mergeSort Lp.leLen).map V.str)) np2)
    have e6 : (upd H5 p2 (.lst ((ys.mergeSort Lp.leLen).map V.str))) p2 = some (.lst ((ys.mergeSort Lp.leLen).map V.str)) := upd_same
    generalize upd H5 p2 (.lst ((ys.mergeSort Lp.leLen).map V.str)) = H6 at s6 e6 ⊢
    have lz : (ys.mergeSort Lp.leLen).length ≤ 40 := by rw [List.length_mergeSort]; exact ly
    generalize ys.mergeSort Lp.leLen = zs at pmz e6 lz
    have CO := cl_ok ok pmz
    have x36 := (LamX.ExtN.of s3).trans (e4.trans (LamX.ExtN.of s6))
    have ed6 : H6 d = some (.frz od (.dK (kvS D))) := x36 _ _ ed fun ps z => nomatch z
    refine ⟨ed6, ?_⟩
    have T6 := T4.ext s6
    have x7 : LamX.ExtN H (upd H6 d (.dK (kvS D))) := fun b o e nt => by
      by_cases hb : b = d
      · subst hb
        rw [upd_same, ← e, hd]
      · rw [upd_ne hb]
        exact x36 _ _ (off _ _ hb e) nt
    have T7 : LamX.Tabs T0 (upd H6 d (.dK (kvS D))) := fun q hq => by
      obtain ⟨ps, e, tr, kn⟩ := T6 q hq
      refine ⟨ps, by rw [upd_ne (fun z => by rw [z, ed6] at e; cases e)]; exact e, tr, fun pos cv h => ?_⟩
      obtain ⟨c', e1, e2⟩ := kn pos cv h
      exact ⟨c', e1, by rw [upd_ne (fun z => by rw [z, ed6] at e2; cases e2)]; exact e2⟩
    have ep7 : (upd H6 d (.dK (kvS D))) p2 = some (.lst (zs.map V.str)) := by
      rw [upd_ne (fun z => by rw [z, ed6] at e6; cases e6)]
      exact e6
    have ed7 : (upd H6 d (.dK (kvS D))) d = some (.dK (kvS D)) := upd_same
    generalize upd H6 d (.dK (kvS D)) = H7 at x7 T7 ep7 ed7 ⊢
    refine ⟨_, rfl, p2, rfl, ⟨_, SqL.of ep7⟩, fun L nL => ?_⟩
    refine Lc.lcLR (R := fun (H : Hp) (p : Addr) (kv : Key × V) => H p = some (.tup [kV kv.1, kv.2])) (fun H H' p x (k : KT H H') h => k p _ h) (ys := zs.map fun t => ((Sum.inr t : Key), V.int (Ty.gtD D (cds t)))) (SqL.of ep7) (fun H2 s => SqL.of (s _ _ ep7)) nL (by simp) (by rw [List.length_map]; exact Nat.lt_of_le_of_lt lz (by decide)) (fun _ => rfl) ?_ ?_
    · intro i x y H2 hx hy s2 Q hQ
      have hi := (List.getElem?_eq_some_iff.mp hx).1
      rw [List.length_map] at hi
      rw [List.getElem?_map, List.getElem?_eq_getElem hi] at hx hy
      cases hx
      cases hy
      have nb : H2 d = some (.dK (kvS D)) := s2 _ _ ed7
      refine ⟨_, rfl, _, rfl, _, rfl, d, _, rfl, .inl ⟨_, _, .inl nb, rfl, gt_kv ok.nd (CO.sub _ (List.mem_map.mpr ⟨_, List.getElem_mem hi, rfl⟩))⟩, (by show 2 ≤ sizeLine; decide), fun b nb => ?_⟩
      exact hQ _ _ (same_upd nb) upd_same
    · intro H2 ps s2 e2 r2
      have nk : ((kvS (clE D zs)).map (·.1)).Nodup := by
        exact keys_kvS CO.ok.nd
      rw [cl_kvs] at r2
      refine ⟨L, ps, kvS (clE D zs), rfl, SqL.of e2, paired_of r2, fun d' nd' => ?_⟩
      rw [merge_new (by rw [List.nil_append]; exact nk), List.nil_append]
      have s3 := s2.trans (same_upd (o := .dK (kvS (clE D zs))) nd')
      refine q d' (clE D zs) _ (x7.trans (LamX.ExtN.of s3)) (T7.ext s3) upd_same CO.ok (fun kvs z => ?_) CO.gt CO.sub
      have := s2 _ _ (x7 _ _ z fun ps z => nomatch z)
      rw [nd'] at this
      cases this
end
end K6

set_option linter.all false
/-! BitS: core Lean alone. Weights by lots: each bit of a number tells whether a letter is chosen -/
namespace Ty
/-- sums of the first terms -/
def rs (t : Nat → Int) : Nat → Int
  | 0 => 0
  | n + 1 => rs t n + t n
theorem rs_add (t : Nat → Int) (a : Nat) : ∀ b, rs t (a + b) = rs t a + rs (fun m => t (a + m)) b
  | 0 => (Int.add_zero _).symm
  | b + 1 => by
    show rs t (a + b) + t (a + b) = rs t a + (rs _ b + t (a + b))
    rw [rs_add t a b, Int.add_assoc]
theorem rs_congr {t u : Nat → Int} : ∀ {n : Nat}, (∀ m, m < n → t m = u m) → rs t n = rs u n
  | 0, _ => rfl
  | n + 1, h => by
    show rs t n + t n = rs u n + u n
    rw [rs_congr fun m hm => h m (Nat.lt_succ_of_lt hm), h n (Nat.lt_succ_self n)]
theorem rs_neg (t : Nat → Int) : ∀ n, rs (fun m => - t m) n = - rs t n
  | 0 => rfl
  | n + 1 => by
    show rs _ n + - t n = - (rs t n + t n)
    rw [rs_neg t n]
    omega
theorem rs_zero : ∀ n, rs (fun _ => 0) n = 0
  | 0 => rfl
  | n + 1 => by
    show rs _ n + 0 = 0
    rw [rs_zero n]
    rfl
/-- one letter: what is chosen, the sign, the bits left -/
abbrev Lot := List Nat × Int × Nat
def lotStep (s : Lot) (c : Nat) : Lot := (if s.2.2 % 2 = 1 then s.1 ++ [c] else s.1, if s.2.2 % 2 = 1 then s.2.1 else -s.2.1, s.2.2 / 2)
def lot (l : List Nat) (m : Nat) : Lot := l.foldl lotStep ([], 1, m)
theorem lot_add : ∀ (l : List Nat) (y : List Nat) (s : Int) (a b : Nat), l.foldl lotStep (y, s, a + 2 ^ l.length * b) = ((l.foldl lotStep (y, s, a)).1, (l.foldl lotStep (y, s, a)).2.1, (l.foldl lotStep (y, s, a)).2.2 + b)
  | [], y, s, a, b => by
    show (y, s, a + 1 * b) = (y, s, a + b)
    rw [Nat.one_mul]
  | c :: l, y, s, a, b => by
    have e : a + 2 ^ (c :: l).length * b = a + 2 * (2 ^ l.length * b) := by
      rw [List.length_cons, Nat.pow_succ, Nat.mul_comm (2 ^ l.length) 2, Nat.mul_assoc]
    rw [e, List.foldl_cons, List.foldl_cons]
    have e1 : (a + 2 * (2 ^ l.length * b)) % 2 = a % 2 := by omega
    have e2 : (a + 2 * (2 ^ l.length * b)) / 2 = a / 2 + 2 ^ l.length * b := by omega
    unfold lotStep
    dsimp only
    rw [e1, e2]
    exact lot_add l _ _ _ _
theorem lot_left : ∀ (l : List Nat) (y : List Nat) (s : Int) (a : Nat), (l.foldl lotStep (y, s, a)).2.2 = a / 2 ^ l.length
  | [], _, _, a => (Nat.div_one a).symm
  | c :: l, y, s, a => by
    rw [List.foldl_cons]
    have := lot_left l (lotStep (y, s, a) c).1 (lotStep (y, s, a) c).2.1 (a / 2)
    rw [Nat.div_div_eq_div_mul] at this
    rw [List.length_cons, Nat.pow_succ, Nat.mul_comm]
    exact this
theorem lot_snoc (l : List Nat) (c m : Nat) : lot (l ++ [c]) m = lotStep (lot l m) c := by
  unfold lot
  rw [List.foldl_append]
  rfl
/-- the part of a lot -/
def lotT (f : List Nat → Int) (l : List Nat) (m : Nat) : Int := if (lot l m).2.2 = 0 then (lot l m).2.1 * f (lot l m).1 else 0
theorem lots_pow (l : List Nat) : ∀ f : List Nat → Int, rs (lotT f l) (2 ^ l.length) = wt f l := by
  refine rev_ind (P := fun l => ∀ f : List Nat → Int, rs (lotT f l) (2 ^ l.length) = wt f l) (fun f => ?_) (fun l c ih f => ?_) l
  · show 0 + lotT f [] 0 = (-1) ^ 0 * f [] + 0
    show 0 + (1 : Int) * f [] = _
    simp
  · have e : 2 ^ (l ++ [c]).length = 2 ^ l.length + 2 ^ l.length := by
      rw [List.length_append, List.length_singleton, Nat.pow_succ, Nat.mul_two]
    rw [e, rs_add, wt_snoc, ← ih f, ← ih fun s => f (s ++ [c])]
    have h0 : ∀ m, m < 2 ^ l.length → (lot l m).2.2 = 0 := fun m hm => by
      rw [show (lot l m).2.2 = m / 2 ^ l.length from lot_left l [] 1 m, Nat.div_eq_of_lt hm]
    have a1 : rs (lotT f (l ++ [c])) (2 ^ l.length) = - rs (lotT f l) (2 ^ l.length) := by
      rw [← rs_neg]
      refine rs_congr fun m hm => ?_
      unfold lotT
      rw [lot_snoc]
      unfold lotStep
      dsimp only
      rw [h0 m hm]
      simp [Int.neg_mul]
    have a2 : rs (fun m => lotT f (l ++ [c]) (2 ^ l.length + m)) (2 ^ l.length) = rs (lotT (fun s => f (s ++ [c])) l) (2 ^ l.length) := by
      refine rs_congr fun m hm => ?_
      have k : lot l (2 ^ l.length + m) = ((lot l m).1, (lot l m).2.1, (lot l m).2.2 + 1) := by
        have := lot_add l [] 1 m 1
        rw [Nat.mul_one, Nat.add_comm] at this
        exact this
      unfold lotT
      rw [lot_snoc, k]
      unfold lotStep
      dsimp only
      rw [h0 m hm]
      simp
    rw [a1, a2]
    omega
/-- the sum over 64 lots -/
theorem lots_all (l : List Nat) (f : List Nat → Int) (h : l.length ≤ 6) : rs (lotT f l) 64 = wt f l := by
  have p : 2 ^ l.length ≤ 64 := Nat.pow_le_pow_right (n := 2) (j := 6) (by decide) h
  have e : 64 = 2 ^ l.length + (64 - 2 ^ l.length) := by omega
  rw [e, rs_add, lots_pow]
  have : rs (fun m => lotT f l (2 ^ l.length + m)) (64 - 2 ^ l.length) = rs (fun _ => 0) (64 - 2 ^ l.length) := by
    refine rs_congr fun m _ => ?_
    unfold lotT
    rw [if_neg]
    rw [show (lot l (2 ^ l.length + m)).2.2 = _ from lot_left l [] 1 _]
    have : 0 < (2 ^ l.length + m) / 2 ^ l.length := Nat.div_pos (Nat.le_add_right _ _) (Nat.pos_of_ne_zero (by simp))
    omega
  rw [this, rs_zero, Int.add_zero]
theorem lot_in : ∀ (l : List Nat) (F : List Pk) (y : List Nat) (s : Int) (m : Nat), (∃ p ∈ F, p.1 = y) → ∃ p ∈ l.foldl pstep F, p.1 = (l.foldl lotStep (y, s, m)).1
  | [], _, _, _, _, h => h
  | c :: l, F, y, s, m, ⟨p, hp, e⟩ => by
    rw [List.foldl_cons, List.foldl_cons]
    refine lot_in l (pstep F c) (if m % 2 = 1 then y ++ [c] else y) _ _ ?_
    by_cases hm : m % 2 = 1
    · rw [if_pos hm]
      exact ⟨(p.1 ++ [c], p.2), List.mem_append_left _ (List.mem_map.mpr ⟨p, hp, rfl⟩), by rw [← e]⟩
    · rw [if_neg hm]
      exact ⟨(p.1, p.2 + 1), List.mem_append_right _ (List.mem_map.mpr ⟨p, hp, rfl⟩), e⟩
theorem lot_pick (l : List Nat) (m : Nat) : ∃ p ∈ picks l, p.1 = (lot l m).1 := lot_in l [([], 0)] [] 1 m ⟨_, List.mem_singleton.mpr rfl, rfl⟩
theorem lot_sign : ∀ (l : List Nat) (y : List Nat) (s : Int) (m : Nat), s = 1 ∨ s = -1 → (l.foldl lotStep (y, s, m)).2.1 = 1 ∨ (l.foldl lotStep (y, s, m)).2.1 = -1
  | [], _, _, _, h => h
  | c :: l, y, s, m, h => by
    rw [List.foldl_cons]
    refine lot_sign l _ _ _ ?_
    dsimp only
    split
    · exact h
    · omega
theorem lot_len : ∀ (l : List Nat) (y : List Nat) (s : Int) (m : Nat), (l.foldl lotStep (y, s, m)).1.length ≤ y.length + l.length
  | [], _, _, _ => Nat.le_refl _
  | c :: l, y, s, m => by
    rw [List.foldl_cons, List.length_cons]
    refine Nat.le_trans (lot_len l _ _ _) ?_
    dsimp only
    split
    · rw [List.length_append, List.length_singleton]
      omega
    · omega
theorem lot_take {l : List Nat} {i c m : Nat} (h : l[i]? = some c) : lot (l.take (i + 1)) m = lotStep (lot (l.take i) m) c := by
  rw [List.take_add_one, h]
  exact lot_snoc _ _ _
end Ty
namespace Ty
/-- all unlike selections, each once -/
def selLs (F : List (List Nat)) (c : Nat) : List (List Nat) := F ++ (F.map fun y => y ++ [c]).filter fun y => !decide (y ∈ F)
def selL (l : List Nat) : List (List Nat) := l.foldl selLs [[]]
theorem selL_snoc (l : List Nat) (c : Nat) : selL (l ++ [c]) = selLs (selL l) c := by
  unfold selL
  rw [List.foldl_append]
  rfl
theorem selL_take {l : List Nat} {i c : Nat} (h : l[i]? = some c) : selL (l.take (i + 1)) = selLs (selL (l.take i)) c := by
  rw [List.take_add_one, h]
  exact selL_snoc _ _
theorem selLs_len (F : List (List Nat)) (c : Nat) : (selLs F c).length ≤ F.length + F.length := by
  unfold selLs
  rw [List.length_append]
  have := List.length_filter_le (fun y => !decide (y ∈ F)) (F.map fun y => y ++ [c])
  rw [List.length_map] at this
  omega
theorem selL_nodup (l : List Nat) : (selL l).Nodup := by
  refine rev_ind (P := fun l => (selL l).Nodup) (by show [[]].Nodup; simp) (fun l c ih => ?_) l
  rw [selL_snoc]
  unfold selLs
  refine List.nodup_append.mpr ⟨ih, List.Nodup.sublist List.filter_sublist (List.Pairwise.map _ (fun a b (n : a ≠ b) e => n (List.append_cancel_right e)) ih), fun a ha b hb e => ?_⟩
  have := (List.mem_filter.mp hb).2
  rw [← e] at this
  simp [ha] at this
theorem selL_pick (l : List Nat) : ∀ p ∈ picks l, p.1 ∈ selL l := by
  refine rev_ind (P := fun l => ∀ p ∈ picks l, p.1 ∈ selL l) (fun p hp => ?_) (fun l c ih p hp => ?_) l
  · rw [List.mem_singleton.mp hp]
    exact List.mem_singleton.mpr rfl
  · rw [picks_snoc] at hp
    rw [selL_snoc]
    unfold selLs
    rcases List.mem_append.mp hp with hp | hp
    · obtain ⟨u, hu, rfl⟩ := List.mem_map.mp hp
      have h1 := ih u hu
      by_cases h : u.1 ++ [c] ∈ selL l
      · exact List.mem_append_left _ h
      · refine List.mem_append_right _ (List.mem_filter.mpr ⟨List.mem_map.mpr ⟨_, h1, rfl⟩, ?_⟩)
        simp [h]
    · obtain ⟨u, hu, rfl⟩ := List.mem_map.mp hp
      exact List.mem_append_left _ (ih u hu)
theorem selL_len (l : List Nat) : (selL l).length ≤ 2 ^ l.length := by
  refine rev_ind (P := fun l => (selL l).length ≤ 2 ^ l.length) (Nat.le_refl _) (fun l c ih => ?_) l
  rw [selL_snoc, List.length_append, List.length_singleton, Nat.pow_succ]
  have := selLs_len (selL l) c
  omega
theorem selL_short (l : List Nat) : ∀ y ∈ selL l, y.length ≤ l.length ∧ ∀ c ∈ y, c ∈ l := by
  refine rev_ind (P := fun l => ∀ y ∈ selL l, y.length ≤ l.length ∧ ∀ c ∈ y, c ∈ l) (fun y hy => ?_) (fun l c ih y hy => ?_) l
  · rw [List.mem_singleton.mp hy]
    exact ⟨Nat.le_refl _, nofun⟩
  · rw [selL_snoc] at hy
    rw [List.length_append, List.length_singleton]
    rcases List.mem_append.mp hy with hy | hy
    · have := ih y hy
      exact ⟨by omega, fun x hx => List.mem_append_left _ (this.2 x hx)⟩
    · obtain ⟨u, hu, rfl⟩ := List.mem_map.mp (List.mem_filter.mp hy).1
      have := ih u hu
      refine ⟨by rw [List.length_append, List.length_singleton]; omega, fun x hx => ?_⟩
      rcases List.mem_append.mp hx with hx | hx
      · exact List.mem_append_left _ (this.2 x hx)
      · exact List.mem_append_right _ hx
end Ty

set_option Elab.async false
set_option linter.all false
set_option maxRecDepth 100000
set_option maxHeartbeats 6400000
namespace K6
open PySem L2 Tx Tg Tm Da RZ Lc
/-! ### the sum with signs, by lots -/
section
variable {P : Program} {w : World} {K : PySem.W.Frag} {mg : Str → Option Value} {base : Heap}
abbrev nSg : List Str := ["_law_known", "_law_piece", "_law_found", "_law_lot", "_law_line_here", "_law_sign", "_law_left", "_law_letter"]
theorem scSg : FnScope nSg ["_law_known", "_law_piece"] (defScope sSigned) := ⟨rfl, rfl, rfl, by decide +kernel, rfl, by decide +kernel, by decide +kernel⟩
def spSg : Sp := fun vs H Q _ => ∃ (d : Addr) (z : Str) (kvs : List (Key × V)) (f : List Nat → Int), vs = [.ref d, .str z] ∧ H d = some (.dK kvs) ∧ z.length ≤ 6 ∧ (∀ p ∈ Ty.picks (cds z), valV kvs (Sum.inr (tx p.1)) = some (.int (f p.1))) ∧ Q (.int (Ty.wt f (cds z))) H
theorem ok_sg {f : Addr} {fd : FuncData} (F : Fun K "_law_signed_sum" "_law_signed_sum" sSigned f fd) (T : Txt K mg) : FnOk P w K mg base CX0 1 f fd ["_law_known", "_law_piece"] spSg := by
  refine F.ok scSg (fun vs H Q E h => ?_) (fun cdv A outer s H vs Q E hr h => ?_)
  · obtain ⟨d, z, _, _, rfl, _⟩ := h
    rfl
  · obtain ⟨d, z, kvs, f, rfl, hd, hz, hk, q⟩ := h
    have hu := hu_of hr
    refine ⟨_, (pss_cons (ps_set (i := 2) scSg.nd rfl (Or.inl rfl) pe_int)
    (pss_cons (ps_for PassesOwn.never rfl (pi_range1 rfl T.range (pa_cons (pe_op op_mul (pe_op op_mul (pe_op op_mul (pe_op op_mul (pe_op op_mul pe_int pe_int) pe_int) pe_int) pe_int) pe_int) pa_nil)) (pg_name (i := 3) scSg.nd rfl (Or.inl rfl))
      (pss_cons (ps_par3 (i := 4) (j := 5) (l := 6) (by rfl) scSg.nd rfl rfl rfl (by decide) (by decide) (by decide) rfl rfl rfl (pa_cons pe_str (pa_cons pe_int (pa_cons (pv 3) pa_nil))) (by rfl))
      (pss_cons (ps_for PassesOwn.never rfl (pi_str (pv 1)) (pg_name (i := 7) scSg.nd rfl (Or.inl rfl))
        (pss_cons (ps_set (i := 4) scSg.nd rfl (Or.inl rfl) (pe_ifExp (pt_cmpR op_eq (pe_op op_modN (pe_callTy call_int1 (by rfl) T.int (by decide +kernel) (pa_cons (pv 6) pa_nil)) pe_int) pe_int (nomark _)) (pe_op op_add_str (pv 4) (pv 7)) (pv 4)))
        (pss_cons (ps_set (i := 5) scSg.nd rfl (Or.inl rfl) (pe_ifExp (pt_cmpR op_eq (pe_op op_modN (pe_callTy call_int1 (by rfl) T.int (by decide +kernel) (pa_cons (pv 6) pa_nil)) pe_int) pe_int (nomark _)) (pv 5) (pe_op op_sub pe_int (pv 5))))
        (pss_one (ps_set (i := 6) scSg.nd rfl (Or.inl rfl) (pe_op op_fdivN (pv 6) pe_int))))))
      (pss_one (ps_if (pt_cmpR op_eq (pv 6) pe_int (nomark _)) (pss_one (ps_set (i := 2) scSg.nd rfl (Or.inl rfl) (pe_op op_add (pv 2) (pe_op op_mul (pv 5) (pe_dget hu (pv 0) (pv 4) (fun _ _ => rfl)))))) pss_nil)))))
    (pss_one (ps_ret (pv 2))))), ?_⟩
    have hzl : (cds z).length ≤ 6 := hz
    dsimp only [tSeq, gName]
    refine ⟨_, _, rfl, rfl, .inl ⟨by decide, by decide⟩, _, _, rfl, rfl, .inl ⟨by decide, by decide⟩, _, _, rfl, rfl, .inl ⟨by decide, by decide⟩, _, _, rfl, rfl, .inl ⟨by decide, by decide⟩, _, _, rfl, rfl, .inl ⟨by decide, by decide⟩, 64, rfl, by decide, by decide, for_range (n := 64) (fun i σ H1 => ∃ u3 u4 u5 u6 u7 : Option V, σ = [some (.ref d), some (.str z), some (.int (Ty.rs (Ty.lotT f (cds z)) i)), u3, u4, u5, u6, u7] ∧ H1 = H) ⟨none, none, none, none, none, rfl, rfl⟩ ?_ ?_⟩
    · rintro i σ H1 hi ⟨u3, u4, u5, u6, u7, rfl, rfl⟩
      rw [Int.zero_add]
      dsimp only [tSeq, gName]
      refine ⟨_, rfl, _, _, _, rfl, _, rfl, z, rfl, ?_⟩
      refine Lc.for_text (fun k σ H2 => ∃ t7 : Option V, σ = [some (.ref d), some (.str z), some (.int (Ty.rs (Ty.lotT f (cds z)) i)), some (.int (i : Nat)), some (.str (tx (Ty.lot ((cds z).take k) i).1)), some (.int (Ty.lot ((cds z).take k) i).2.1), some (.int ((Ty.lot ((cds z).take k) i).2.2 : Nat)), t7] ∧ H2 = H1) ⟨_, rfl, rfl⟩ ?_ ?_
      · rintro k c σ H2 hk2 ⟨t7, rfl, rfl⟩
        have et := Ty.lot_take (m := i) hk2
        have hl : (Ty.lot ((cds z).take k) i).1.length ≤ 6 := by
          refine Nat.le_trans (Ty.lot_len _ _ _ _) ?_
          rw [List.length_take]
          show 0 + _ ≤ 6
          omega
        rw [et]
        unfold Ty.lotStep
        generalize Ty.lot ((cds z).take k) i = L at hl ⊢
        obtain ⟨y, g, m⟩ := L
        dsimp only at hl ⊢
        have em : Int.fmod (m : Int) 2 = ((m % 2 : Nat) : Int) := by
          rw [Int.fmod_eq_emod_of_nonneg _ (by decide)]
          rfl
        have ed : Int.fdiv (m : Int) 2 = ((m / 2 : Nat) : Int) := by
          rw [Int.fdiv_eq_ediv_of_nonneg _ (by decide)]
          rfl
        refine ⟨_, rfl, .inl ⟨_, rfl, _, _, rfl, rfl, (show (2 : Int) ≠ 0 by decide), rfl, _, rfl, ?_⟩⟩
        rcases Nat.mod_two_eq_zero_or_one m with e | e
        · have ne : ¬ V.int (Int.fmod (m : Int) 2) = V.int 1 := fun x => by
            rw [em, e] at x
            cases x
          have c1 : ¬ m % 2 = 1 := by omega
          rw [if_neg c1, if_neg c1]
          dsimp only
          rw [decide_eq_false ne]
          refine iteF ⟨_, rfl, ?_⟩
          refine ⟨_, rfl, .inl ⟨_, rfl, _, _, rfl, rfl, (show (2 : Int) ≠ 0 by decide), rfl, _, rfl, ?_⟩⟩
          dsimp only
          rw [decide_eq_false ne]
          refine iteF ⟨_, rfl, _, _, rfl, rfl, ?_⟩
          refine ⟨_, rfl, _, _, rfl, rfl, ⟨by decide, by decide⟩, some (.str (one c)), ?_, rfl⟩
          dsimp only
          rw [ed, Int.zero_sub]
          rfl
        · have ne : V.int (Int.fmod (m : Int) 2) = V.int 1 := by
            rw [em, e]
            rfl
          rw [if_pos e, if_pos e]
          dsimp only
          rw [decide_eq_true ne]
          refine iteT ⟨_, rfl, _, rfl, tx y, one c, rfl, rfl, ?_, ?_⟩
          · rw [tx_len]
            show y.length + 1 ≤ sizeLine
            exact Nat.le_trans (show _ ≤ 7 by omega) (by decide)
          refine ⟨_, rfl, .inl ⟨_, rfl, _, _, rfl, rfl, (show (2 : Int) ≠ 0 by decide), rfl, _, rfl, ?_⟩⟩
          dsimp only
          rw [decide_eq_true ne]
          refine iteT ⟨_, rfl, ?_⟩
          refine ⟨_, rfl, _, _, rfl, rfl, ⟨by decide, by decide⟩, some (.str (one c)), ?_, rfl⟩
          dsimp only
          rw [ed, ← tx_app]
          rfl
      · rintro σ H2 ⟨t7, rfl, rfl⟩
        rw [List.take_of_length_le (Nat.le_refl _)]
        have es : Ty.rs (Ty.lotT f (cds z)) (i + 1) = Ty.rs (Ty.lotT f (cds z)) i + Ty.lotT f (cds z) i := rfl
        have sg := Ty.lot_sign (cds z) [] 1 i (.inl rfl)
        have pk := Ty.lot_pick (cds z) i
        rw [es]
        unfold Ty.lotT
        unfold Ty.lot at pk ⊢
        generalize Ty.rs _ i = r
        generalize (cds z).foldl Ty.lotStep ([], 1, i) = L at sg pk ⊢
        obtain ⟨y, g, m⟩ := L
        obtain ⟨p, hp, ep⟩ := pk
        have kp := hk p hp
        dsimp only at sg ep kp ⊢
        rw [ep] at kp
        refine ⟨_, rfl, rfl, _, rfl, ?_⟩
        by_cases c0 : m = 0
        · rw [if_pos c0]
          dsimp only
          rw [decide_eq_true (show V.int (m : Int) = V.int 0 by rw [c0]; rfl)]
          refine iteT ⟨_, rfl, _, rfl, _, rfl, _, rfl, d, _, rfl, .inl ⟨_, _, .inl hd, rfl, kp.symm⟩, _, _, rfl, rfl, .inl ⟨by omega, by omega⟩, _, _, rfl, rfl, ?_⟩
          exact ⟨_, _, _, _, _, rfl, rfl⟩
        · rw [if_neg c0, Int.add_zero]
          dsimp only
          rw [decide_eq_false (show ¬ V.int (m : Int) = V.int 0 from fun x => c0 (by injection x with x; omega))]
          refine iteF ?_
          exact ⟨_, _, _, _, _, rfl, rfl⟩
    · rintro σ H1 ⟨u3, u4, u5, u6, u7, rfl, rfl⟩
      rw [Ty.lots_all _ _ hzl]
      exact ⟨_, rfl, q⟩
end
end K6

set_option Elab.async false
set_option linter.all false
set_option maxRecDepth 100000
set_option maxHeartbeats 6400000
namespace K6
open PySem L2 Tx Tg Tm Da RZ Lc
/-! ### all unlike selections of a text -/
abbrev rCatS : R2 := fun x y H Q => ∃ i j, x = .str i ∧ y = .str j ∧ i.length + j.length ≤ sizeLine ∧ Q (.str (i ++ j)) H
theorem in_tx (y : List Nat) (F : List (List Nat)) : inV (.str (tx y)) (F.map fun y => V.str (tx y)) = decide (y ∈ F) := by
  unfold inV
  rw [List.any_map]
  by_cases h : y ∈ F
  · rw [decide_eq_true h]
    refine List.any_eq_true.mpr ⟨y, h, ?_⟩
    show (tx y == tx y) = true
    exact beq_self_eq_true _
  · rw [decide_eq_false h]
    refine List.any_eq_false.mpr fun u hu e => h ?_
    have e : (tx u == tx y) = true := e
    rw [← tx_inj (eq_of_beq e)]
    exact hu
section
variable {P : Program} {w : World} {K : PySem.W.Frag} {mg : Str → Option Value} {base : Heap}
abbrev nSd : List Str := ["_law_piece", "_law_found", "_law_sign", "_law_line_here"]
theorem scSd : FnScope nSd ["_law_piece"] (defScope sSelected) := ⟨rfl, rfl, rfl, by decide +kernel, rfl, by decide +kernel, by decide +kernel⟩
def spSd : Sp := fun vs H Q _ => ∃ (z : Str), vs = [.str z] ∧ z.length ≤ 6 ∧ ∀ A H', Same H H' → H A = none → H' A = some (.lst ((Ty.selL (cds z)).map fun y => V.str (tx y))) → Q (.ref A) H'
theorem ok_sd {f : Addr} {fd : FuncData} (F : Fun K "_law_selected" "_law_selected" sSelected f fd) (T : Txt K mg) : FnOk P w K mg base CX0 1 f fd ["_law_piece"] spSd := by
  refine F.ok scSd (fun vs H Q E h => ?_) (fun cdv A outer s H vs Q E hr h => ?_)
  · obtain ⟨z, rfl, _⟩ := h
    rfl
  · obtain ⟨z, rfl, hz, q⟩ := h
    have hu := hu_of hr
    refine ⟨_, (pss_cons (ps_set (i := 1) scSd.nd rfl (Or.inr rfl) (pe_lst (pa_cons pe_str pa_nil)))
    (pss_cons (ps_for PassesOwn.never rfl (pi_str (pv 0)) (pg_name (i := 2) scSd.nd rfl (Or.inr rfl))
      (pss_one (ps_set (i := 1) scSd.nd rfl (Or.inr rfl) (pe_op op_cat (pv 1) (pe_lc (own := [("_law_line_here", 3)]) (g := (gName 3)) (tt := tTest (tOp (rIn K true) (tOp rCatS (tVar 3) (tVar 2)) (tVar 1)))  rfl scSd.nd (pi_list (pv 1)) (blkOk_by (own := [("_law_line_here", 3)]) (N := nSd) (sc := defScope sSelected) (by decide +kernel)) (fun _ _ _ _ _ => (pg_name (i := 3) scSd.nd rfl (Or.inl rfl))) (fun _ _ _ _ _ => pts_one (pt_cmpR op_notIn_seq (pe_op op_add_str (pv 3) (pv 2)) (pv 1) (by rfl))) (fun _ _ _ _ _ => (pe_op op_add_str (pv 3) (pv 2))))))))
    (pss_one (ps_ret (pv 1))))), ?_⟩
    dsimp only [tSeq, gName]
    refine ⟨(by show 1 ≤ sizeLine; decide), fun A0 n0 => ?_⟩
    have hzl : (cds z).length ≤ 6 := hz
    refine ⟨_, rfl, z, rfl, ?_⟩
    refine Lc.for_text (fun k σ H2 => ∃ (A : Addr) (t2 t3 : Option V), σ = [some (.str z), some (.ref A), t2, t3] ∧ Same H H2 ∧ H A = none ∧ H2 A = some (.lst ((Ty.selL ((cds z).take k)).map fun y => V.str (tx y)))) ⟨A0, none, none, rfl, same_upd n0, n0, upd_same⟩ ?_ ?_
    · rintro k c σ H2 hk2 ⟨A, t2, t3, rfl, s2, nA, e2⟩
      have et := Ty.selL_take hk2
      have hF : (Ty.selL ((cds z).take k)).length ≤ 64 := by
        refine Nat.le_trans (Ty.selL_len _) (Nat.pow_le_pow_right (n := 2) (j := 6) (by decide) ?_)
        rw [List.length_take]
        omega
      have hS : ∀ y ∈ Ty.selL ((cds z).take k), y.length ≤ 6 := fun y hy => by
        have := (Ty.selL_short _ y hy).1
        rw [List.length_take] at this
        omega
      rw [et]
      unfold Ty.selLs
      generalize Ty.selL ((cds z).take k) = L at e2 hF hS ⊢
      refine ⟨_, rfl, _, rfl, A, rfl, ⟨_, SqL.of e2⟩, fun D nD => ?_⟩
      refine lc_list (xs := L.map fun y => V.str (tx y)) (fun i H3 => Same H2 H3 ∧ H3 D = some (.lst ((((L.take i).map fun y => y ++ [c]).filter fun y => !decide (y ∈ L)).map fun y => V.str (tx y)))) ⟨same_upd nD, upd_same⟩ (fun i H3 _ h => SqL.of (h.1 _ _ e2)) ?_ ?_
      · rintro i x H3 hx ⟨s3, e3⟩
        have hi := (List.getElem?_eq_some_iff.mp hx).1
        rw [List.length_map] at hi
        rw [List.getElem?_map, List.getElem?_eq_getElem hi] at hx
        cases hx
        have hs6 := hS _ (List.getElem_mem hi)
        have line : (tx L[i]).length + (one c).length ≤ sizeLine := by
          rw [tx_len]
          show _ + 1 ≤ _
          exact Nat.le_trans (show _ ≤ 7 by omega) (by decide)
        have ec : tx L[i] ++ one c = tx (L[i] ++ [c]) := tx_app _ _
        have fl : (L.map fun y => V.str (tx y)).all flatV = true := by
          rw [List.all_map]
          exact List.all_eq_true.mpr fun _ _ => rfl
        have et2 : ((L.take (i + 1)).map fun y => y ++ [c]).filter (fun y => !decide (y ∈ L)) = ((L.take i).map fun y => y ++ [c]).filter (fun y => !decide (y ∈ L)) ++ if L[i] ++ [c] ∈ L then [] else [L[i] ++ [c]] := by
          rw [List.take_add_one, List.getElem?_eq_getElem hi, List.map_append, List.filter_append]
          congr 1
          show List.filter _ [L[i] ++ [c]] = _
          by_cases e : L[i] ++ [c] ∈ L
          · simp [e]
          · simp [e]
        refine ⟨rfl, _, rfl, _, rfl, _, _, rfl, rfl, line, _, rfl, A, _, rfl, .inl (SqL.of (s3 _ _ e2)), rfl, fl, _, rfl, ?_⟩
        rw [ec, in_tx, et2]
        by_cases e : L[i] ++ [c] ∈ L
        · rw [decide_eq_true e, if_pos e, List.append_nil]
          exact iteF ⟨s3, e3⟩
        · rw [decide_eq_false e, if_neg e]
          refine iteT ⟨_, rfl, _, rfl, _, _, rfl, rfl, line, _, e3, ?_, same_put s3 nD, ?_⟩
          · rw [List.length_map]
            refine Nat.lt_of_le_of_lt (List.length_filter_le _ _) ?_
            rw [List.length_map, List.length_take]
            exact Nat.lt_of_le_of_lt (show _ ≤ 64 by omega) (by decide)
          · rw [upd_same, List.map_append, ec]
            rfl
      · rintro H3 ⟨s3, e3⟩
        rw [List.length_map, List.take_of_length_le (Nat.le_refl _)] at e3
        refine ⟨A, D, _, _, rfl, rfl, s3 _ _ e2, e3, ?_, fun p3 n3 => ?_⟩
        · rw [List.length_map, List.length_map]
          have := List.length_filter_le (fun y => !decide (y ∈ L)) (L.map fun y => y ++ [c])
          rw [List.length_map] at this
          exact Nat.le_trans (show _ ≤ 128 by omega) (by decide)
        · refine ⟨p3, _, _, rfl, (s2.trans s3).trans (same_upd n3), free_none (s2.trans s3) n3, ?_⟩
          rw [upd_same, List.map_append]
    · rintro σ H2 ⟨A, t2, t3, rfl, s2, nA, e2⟩
      rw [List.take_of_length_le (Nat.le_refl _)] at e2
      exact ⟨_, rfl, q A H2 s2 nA e2⟩
end
end K6

set_option Elab.async false
set_option linter.all false
set_option maxRecDepth 100000
set_option maxHeartbeats 6400000
namespace K6
open PySem L2 Tx Tg Tm Da RZ Lc
/-! ### a drawn heap -/
open LamX in
theorem Cup.ext {H H' : Hp} {c : Addr} (s : ExtN H H') (h : Cup H c) : Cup H' c := let ⟨a, b, d, e⟩ := h; ⟨a, b, d, s _ _ e fun ps z => nomatch z⟩
/-- all but the tables and what stands at c stays -/
def ButN (c : Addr) (H H' : Hp) : Prop := ∀ b o, b ≠ c → H b = some o → (∀ ps, o ≠ .tbl ps) → H' b = some o
theorem ButN.trans {c : Addr} {H H1 H2 : Hp} (a : ButN c H H1) (b : ButN c H1 H2) : ButN c H H2 := fun x o n e t => b x o n (a x o n e t) t
theorem ButN.of {c : Addr} {H H' : Hp} (b : But c H H') : ButN c H H' := fun x o n e _ => b x o n e
open LamX in
theorem ButN.ext {c : Addr} {H H' : Hp} (s : ExtN H H') : ButN c H H' := fun x o _ e t => s x o e t
open LamX in
theorem tabs_but {T : List (Addr × Str)} {c : Addr} {H H' : Hp} (hc : Cup H c) (b : But c H H') (h : Tabs T H) : Tabs T H' := fun p hp => by
  obtain ⟨a0, a1, a2, ec⟩ := hc
  obtain ⟨ps, e, tr, kn⟩ := h p hp
  refine ⟨ps, b _ _ (fun z => by rw [z, ec] at e; cases e) e, tr, fun pos cv h => ?_⟩
  obtain ⟨c', e1, e2⟩ := kn pos cv h
  exact ⟨c', e1, b _ _ (fun z => by rw [z, ec] at e2; cases e2) e2⟩
theorem pt_keys {D : Ty.SD} {k : List Nat} {v : Int} {G : List Nat → Prop} (h : ∀ s ∈ D, G s.1) (hk : G k) : ∀ s ∈ Ty.ptD D k v, G s.1 := fun s hs => by
  have e : s.1 ∈ (Ty.ptD D k v).map (·.1) := List.mem_map.mpr ⟨s, hs, rfl⟩
  rw [Ty.ptD_keys] at e
  have old : ∀ x ∈ D.map (·.1), G x := fun x hx => by
    obtain ⟨u, hu, rfl⟩ := List.mem_map.mp hx
    exact h u hu
  split at e
  · exact old _ e
  · rcases List.mem_append.mp e with e | e
    · exact old _ e
    · rw [List.mem_singleton.mp e]
      exact hk
theorem pt_vals {D : Ty.SD} {k : List Nat} {v : Int} {G : Int → Prop} (h : ∀ s ∈ D, G s.2) (hv : G v) : ∀ s ∈ Ty.ptD D k v, G s.2 := fun s hs => by
  unfold Ty.ptD at hs
  split at hs
  · obtain ⟨u, hu, rfl⟩ := List.mem_map.mp hs
    by_cases e : u.1 = k
    · rw [if_pos e]
      exact hv
    · rw [if_neg e]
      exact h u hu
  · rcases List.mem_append.mp hs with hs | hs
    · exact h s hs
    · rw [List.mem_singleton.mp hs]
      exact hv
section
variable {P : Program} {w : World} {K : PySem.W.Frag} {mg : Str → Option Value} {base : Heap} {fB fP fR fL fC : Addr} {dB dP dR dL dC : FuncData}
abbrev nHp : List Str := ["_law_cup_here", "_law_signs_here", "_law_most", "_law_many", "_law_kind", "_law_found", "_law_turn", "_law_much"]
theorem scHp : FnScope nHp ["_law_cup_here", "_law_signs_here", "_law_most", "_law_many", "_law_kind"] (defScope sHeap) := ⟨rfl, rfl, rfl, by decide +kernel, rfl, by decide +kernel, by decide +kernel⟩
def spHp (T0 : List (Addr × Str)) : Sp := fun vs H Q _ => ∃ (c : Addr) (sg : Str) (m n : Nat), vs = [.ref c, .str sg, .int m, .int n, .non] ∧ Cup H c ∧ Signs sg ∧ m ≤ 12 ∧ n ≤ 40 ∧ LamX.Tabs T0 H ∧
  ∀ d E H', Cup H' c → ButN c H H' → LamX.Tabs T0 H' → HeapAt H' d E → okH E → (∀ kvs, H d ≠ some (.dK kvs)) → (∀ s ∈ E, s.1.length ≤ m ∧ Over sg (tx s.1)) → (∀ s ∈ E, -5 ≤ s.2 ∧ s.2 ≤ 5) → Q (.ref d) H'
theorem ok_hp {f Pt : Addr} {fd : FuncData} {T0 : List (Addr × Str)} (F : Fun K "_law_heap" "_law_heap" sHeap f fd) (T : Txt K mg) (DB : Df K mg "_law_bit" sBit ["_law_cup_here", "_law_much"] fB dB) (DP : Df K mg "_law_pick" sPick ["_law_cup_here", "_law_items"] fP dP)
    (DR : Df K mg "_law_rest" sLRest ["_law_much", "_law_kind"] fR dR) (DL : Df K mg "_law_line" sLine ["_law_cup_here", "_law_signs_here", "_law_most"] fL dL) (DC : Df K mg "_law_cleared_heap" sCleared ["_law_heap_here"] fC dC)
    (GC : FnOk P w K mg base CX0 4 fC dC ["_law_heap_here"] (spCl Pt T0)) : FnOk P w K mg base CX0 5 f fd ["_law_cup_here", "_law_signs_here", "_law_most", "_law_many", "_law_kind"] (spHp T0) := by
  have GB := ok_bit (P := P) (w := w) (base := base) DB.F T
  have GP := ok_pick (P := P) (w := w) (base := base) DP.F T DB
  have GR := ok_rest (P := P) (w := w) (base := base) DR.F T
  have GL := ok_line (P := P) (w := w) (base := base) DL.F T DB DP
  refine F.ok scHp (fun vs H Q E h => ?_) (fun cdv A outer s H vs Q E hr h => ?_)
  · obtain ⟨c, sg, m, n, rfl, _⟩ := h
    rfl
  · obtain ⟨c, sg, m, n, rfl, hc, hsg, hm, hn, hT, q⟩ := h
    have hu := hu_of hr
    refine ⟨_, (pss_cons (ps_set (i := 5) scHp.nd rfl (Or.inl rfl) pe_dnewK)
    (pss_cons (ps_for PassesOwn.never rfl (pi_range1 rfl T.range (pa_cons (pe_call GB (hr.mono (by decide)) (by rfl) DB.m DB.F.kp DB.b .nil pass0 (pa_cons (pv 0) (pa_cons (pe_op op_add (pv 3) pe_int) pa_nil))) pa_nil)) (pg_name (i := 6) scHp.nd rfl (Or.inl rfl))
      (pss_cons (ps_set (i := 7) scHp.nd rfl (Or.inl rfl) (pe_call GR (hr.mono (by decide)) (by rfl) DR.m DR.F.kp DR.b .nil pass0 (pa_cons (pe_call GP (hr.mono (by decide)) (by rfl) DP.m DP.F.kp DP.b .nil pass0 (pa_cons (pv 0) (pa_cons (pe_lst (pa_cons pe_int (pa_cons pe_int (pa_cons (pe_un un_neg pe_int) (pa_cons pe_int (pa_cons (pe_un un_neg pe_int) (pa_cons pe_int pa_nil))))))) pa_nil))) (pa_cons (pv 4) pa_nil))))
      (pss_one (ps_dput hu (pv 5) (pe_call GL (hr.mono (by decide)) (by rfl) DL.m DL.F.kp DL.b .nil pass0 (pa_cons (pv 0) (pa_cons (pv 1) (pa_cons (pv 2) pa_nil)))) (pv 7) rfl))))
    (pss_one (ps_ret (pe_call GC (hr.mono (by decide)) (by rfl) DC.m DC.F.kp DC.b .nil pass0 (pa_cons (pv 5) pa_nil)))))), ?_⟩
    dsimp only [tSeq, gName]
    intro D nD
    have s0 := same_upd (o := .dK []) nD
    have nDc : D ≠ c := hc.ne nD
    have hc0 := hc.same s0
    have e0 : (upd H D (.dK [])) D = some (.dK (kvS [])) := upd_same
    generalize upd H D (.dK []) = H0 at s0 hc0 e0 ⊢
    refine ⟨_, rfl, _, rfl, _, _, rfl, rfl, c, ((n : Int) + 1), rfl, hc0, by omega, small9000 (by omega) (by omega), fun r H1 r0 r1 hc1 b1 => ?_⟩
    refine ⟨r, rfl, by omega, by omega, for_range (n := r.toNat) (fun i σ H2 => ∃ (u6 u7 : Option V) (G : Ty.SD), σ = [some (.ref c), some (.str sg), some (.int m), some (.int n), some .non, some (.ref D), u6, u7] ∧ Cup H2 c ∧ But c H H2 ∧ HeapAt H2 D G ∧ (G.map (·.1)).Nodup ∧ G.length ≤ i ∧ (∀ s ∈ G, s.1.length ≤ m ∧ Over sg (tx s.1)) ∧ ∀ s ∈ G, -5 ≤ s.2 ∧ s.2 ≤ 5) ⟨none, none, [], rfl, hc1, (But.of s0).trans b1, b1 _ _ nDc e0, by simp, Nat.le_refl _, nofun, nofun⟩ ?_ ?_⟩
    · rintro i σ H2 hi ⟨u6, u7, G, rfl, hc2, b2, e2, nd, lG, kG, vG⟩
      dsimp only [tSeq, gName]
      have e2 : H2 D = some (.dK (kvS G)) := e2
      refine ⟨_, rfl, 1, rfl, 3, rfl, (by show 6 ≤ sizeLine; decide), fun L nL => ?_⟩
      have s3 := same_upd (o := .lst [V.int 1, .int 1, .int (-1), .int 2, .int (-3), .int 5]) nL
      refine ⟨c, hc2.same s3, .inl ⟨L, _, rfl, hc2.ne nL, upd_same, by decide, by decide, fun x H4 hx hc4 b4 => ?_⟩⟩
      obtain ⟨j, rfl, hj⟩ : ∃ j : Int, x = .int j ∧ -5 ≤ j ∧ j ≤ 5 := by
        simp only [List.mem_cons, List.not_mem_nil, or_false] at hx
        rcases hx with rfl | rfl | rfl | rfl | rfl | rfl <;> exact ⟨_, rfl, by decide, by decide⟩
      have b24 : But c H2 H4 := (But.of s3).trans b4
      refine ⟨_, rfl, j, rfl, ?_⟩
      refine ⟨_, rfl, _, rfl, _, rfl, _, rfl, _, rfl, c, sg, m, rfl, hc4, hsg, by omega, fun z H5 hz lz hc5 b5 => ?_⟩
      have e5 : H5 D = some (.dK (kvS G)) := b5 _ _ nDc (b24 _ _ nDc e2)
      refine ⟨D, _, rfl, DPut.k (k := (Sum.inr z : Key)) e5 ?_, ?_⟩
      · rw [List.length_map]
        exact Nat.lt_of_le_of_lt (show _ ≤ 60 by omega) (by decide)
      · have ek : putK (kvS G) (Sum.inr z) (V.int j) = kvS (Ty.ptD G (cds z) j) := by
          have := put_kvS G (cds z) j
          rw [tx_cds] at this
          exact this
        rw [ek]
        have hn0 : H D = none := nD
        refine ⟨_, _, Ty.ptD G (cds z) j, rfl, Cup.put hc5 nDc, (b2.trans (b24.trans b5)).putN hn0, upd_same, Ty.ptD_nodup nd, Nat.le_trans (ptD_len _ _ _) (by omega), pt_keys (G := fun y => y.length ≤ m ∧ Over sg (tx y)) kG ⟨?_, ?_⟩, pt_vals (G := fun x => -5 ≤ x ∧ x ≤ 5) vG hj⟩
        · rw [cds_len]
          exact lz
        · rw [tx_cds]
          exact hz
    · rintro σ H2 ⟨u6, u7, G, rfl, hc2, b2, e2, nd, lG, kG, vG⟩
      have hT2 := tabs_but hc b2 hT
      refine ⟨_, rfl, D, G, rfl, e2, ⟨nd, by omega, fun s hs => Nat.le_trans (kG s hs).1 hm⟩, hT2, fun d' E' H' x T' he ok fr _ sub => ?_⟩
      refine q d' E' H' (hc2.ext x) ((ButN.of b2).trans (.ext x)) T' he ok (fun kvs z => ?_) (fun s hs => kG s (sub s hs)) fun s hs => vG s (sub s hs)
      have : d' ≠ c := fun y => by
        obtain ⟨_, _, _, ec⟩ := hc
        rw [y, ec] at z
        cases z
      exact fr kvs (b2 _ _ this z)
end
end K6

set_option Elab.async false
set_option linter.all false
set_option maxRecDepth 100000
set_option maxHeartbeats 6400000
namespace K6
open PySem L2 Tx Tg Tm Da RZ Lc
/-! ### pairs of texts and drawn numbers -/
abbrev RT (H : Hp) : Addr → Key × V → Prop := fun p kv => H p = some (.tup [kV kv.1, kv.2])
theorem lc_draw {K : PySem.W.Frag} {a c : Addr} {ts : List Str} {j : Nat} {te : TE} {σ : L2.St} {H1 : Hp} {D : Addr} {Qd : Hp → Prop} (hc : Cup H1 c) (nD : H1 D = none) (ha : H1 a = some (.lst (ts.map V.str))) (hz : ts.length < sizeLine) (hw : ∀ v, wipe ((wipe σ [j]).set j (some v)) [j] = wipe σ [j])
    (hac : a ≠ c)
    (hs : ∀ (i : Nat) (t : Str) (H2 : Hp), ts[i]? = some t → Cup H2 c → ∀ Q : VK, (∀ b v H3, Cup H3 c → But c H2 H3 → H3 b = some (.tup [.str t, .int v]) → -9 ≤ v → v ≤ 9 → Q (.ref b) H3) → te ((wipe σ [j]).set j (some (.str t))) H2 Q)
    (hd : ∀ H2 ps E, Cup H2 c → But c H1 H2 → H2 D = some (.lst (ps.map V.ref)) → PySem.W.EachIs (RT H2) ps (kvS E) → E.map (·.1) = ts.map cds → (∀ s ∈ E, -9 ≤ s.2 ∧ s.2 ≤ 9) → Qd H2) :
    ∃ W : Nat → Nat → Hp → Prop, (∃ m, W 0 m (upd H1 D (.lst []))) ∧ ∀ i m H, W i m H →
      ((Itl K a).stop i H ∧ Qd H) ∨ ((Itl K a).go i H ∧ ∃ Nx : Hp → Prop, (∀ H', Nx H' → ∃ m', m' < m ∧ W (i + 1) m' H') ∧ ∀ x H', (Itl K a).yld i H x H' → gName j x (wipe σ [j]) H' fun σ2 H2 => wipe σ2 [j] = wipe σ [j] ∧ tYes σ2 H2 fun b H3 =>
        if b = true then te σ2 H3 fun y H4 => ∃ acc, H4 D = some (.lst acc) ∧ acc.length < sizeLine ∧ Nx (upd H4 D (.lst (acc ++ [y]))) else Nx H3) := by
  have nDc : D ≠ c := hc.ne nD
  have nDa : a ≠ D := ne_of_none ha nD
  refine lc_list (xs := ts.map V.str) (fun i H2 => ∃ (ps : List Addr) (E : Ty.SD), Cup H2 c ∧ But c H1 H2 ∧ H2 D = some (.lst (ps.map V.ref)) ∧ PySem.W.EachIs (RT H2) ps (kvS E) ∧ E.map (·.1) = (ts.take i).map cds ∧ ∀ s ∈ E, -9 ≤ s.2 ∧ s.2 ≤ 9) ⟨[], [], Cup.put hc nDc, But.of (same_upd nD), upd_same, .nil, rfl, nofun⟩ (fun i H2 _ z => by obtain ⟨_, _, _, b, _⟩ := z; exact SqL.of (b _ _ hac ha)) ?_ ?_
  · rintro i x H2 hx ⟨ps, E, hc2, b2, e2, r2, k2, q2⟩
    have hi := (List.getElem?_eq_some_iff.mp hx).1
    rw [List.length_map] at hi
    rw [List.getElem?_map, List.getElem?_eq_getElem hi] at hx
    cases hx
    refine ⟨hw _, iteT (B := False) ?_⟩
    refine hs i ts[i] H2 (List.getElem?_eq_getElem hi) hc2 _ fun b v H3 hc3 b3 eb v1 v2 => ?_
    have e3 := b3 _ _ nDc e2
    have lE : E.length = i := by
      have := congrArg List.length k2
      rw [List.length_map, List.length_map, List.length_take] at this
      omega
    have lps : ps.length = i := by
      have := r2.length
      rw [List.length_map] at this
      omega
    refine ⟨_, e3, ?_, ps ++ [b], E ++ [(cds ts[i], v)], Cup.put hc3 nDc, (b2.trans b3).putN nD, ?_, ?_, ?_, ?_⟩
    · rw [List.length_map]
      omega
    · rw [upd_same, List.map_append]
      rfl
    · have k3 : ∀ p xs, H3 p = some (.tup xs) → (upd H3 D (.lst (ps.map V.ref ++ [V.ref b]))) p = some (.tup xs) := fun p xs e => by
        rw [upd_ne (fun z => by rw [z, e3] at e; cases e)]
        exact e
      have k2 : ∀ p xs, H2 p = some (.tup xs) → H3 p = some (.tup xs) := fun p xs e => b3 _ _ (fun z => by
        obtain ⟨_, _, _, ec⟩ := hc2
        rw [z, ec] at e
        cases e) e
      rw [show kvS (E ++ [(cds ts[i], v)]) = kvS E ++ [((Sum.inr (tx (cds ts[i])) : Key), V.int v)] from List.map_append]
      refine each_app (PySem.W.EachIs.mono (fun p kv h => k3 _ _ (k2 _ _ h)) r2) (.cons ?_ .nil)
      show _ = some (HO.tup [V.str (tx (cds ts[i])), V.int v])
      rw [tx_cds]
      exact k3 _ _ eb
    · rw [List.map_append, k2, List.take_add_one, List.getElem?_eq_getElem hi, List.map_append]
      rfl
    · intro s hs
      rcases List.mem_append.mp hs with hs | hs
      · exact q2 s hs
      · rw [List.mem_singleton.mp hs]
        exact ⟨v1, v2⟩
  · rintro H2 ⟨ps, E, hc2, b2, e2, r2, k2, q2⟩
    rw [List.length_map, List.take_of_length_le (Nat.le_refl _)] at k2
    exact hd H2 ps E hc2 b2 e2 r2 k2 q2
end K6

set_option Elab.async false
set_option linter.all false
set_option maxRecDepth 100000
set_option maxHeartbeats 2000000
/-! LiV: list(d.values()) -/
namespace LiV
open PySem PySem.Spec PyProof.Rows L2
def tListVals (te : TE) : TE := fun σ H Q => te σ H fun x H1 => ∃ d kvs, x = .ref d ∧ H1 d = some (.dK kvs) ∧ ∀ q, H1 q = none → Q (.ref q) (upd H1 q (.lst (kvs.map fun kv => kv.2)))
section
variable {X : Cx} {e : Expr} {te : TE} {p apos cpos pos : Pos}
theorem pe_listVals (hc : X.calm = true) (he : PE X e te) (hg : Gl X "list") (hm : X.mg "list" = none) (hv : bootBuiltins "list" = some (.type "list")) (hbase : attributeBase e "values" X.env (eval e X.env) = eval e X.env := by rfl) (hline : (apos.endLine == cpos.line) = true := by rfl)
    (hs : starEach [.Call (.Attribute e "values" apos) [] [] cpos] X.env = (false, eval (.Call (.Attribute e "values" apos) [] [] cpos) X.env) :: starEach [] X.env := by rfl) :
    PE X (.Call (.Name "list" p) [.Call (.Attribute e "values" apos) [] [] cpos] [] pos) (tListVals te) := by
  refine ⟨fun pins s σ H Q I hq => ?_⟩
  refine wpAny_Call_Name_kw (ld_blt I hg hm hv ?_)
  refine PyProof.Rows.callWith_type1 ?_ hs rfl
  rw [hs]
  show wpAny _ _ (spliced ((false, eval (.Call (.Attribute e "values" apos) [] [] cpos) X.env) :: backTo pos (starEach [] X.env))) _ _ s
  refine Calls.spliced_cons ?_
  refine wpAny_Call_method (T := "dict") (id := "dict.values") hbase rfl hline F.plainAttrs_dict F.slot_dict_values F.type_dict_values (thn (he.run pins s σ H _ I hq) fun u s1 ⟨x, H1, I1, rx, d, kvs, ex, hd, q⟩ => ?_)
  subst ex
  obtain rfl : u = Value.ref d := rx
  obtain ⟨hz, hs0, vs, kv, hdo⟩ := I1.hok d _ hd
  obtain ⟨ep, hat⟩ := hdo.dictAt
  have lk : kvs.length = vs.length := Paired.length kv
  have I2 : Inv X pins σ H1 { s1 with heap := s1.heap.push { cls := .type "dict_values", data := .fields #[.ref d] } } := I1.kept (t' := s1.toks) fun b ob q => Heap.get?_push_of_some _ q
  refine ⟨hdo.typeIs, hdo.mapOf.noDict, ?_⟩
  show wpAny _ _ (callWith cpos (.builtin "dict.values") [.ref d] [] []) _ X.xe s1
  refine method_meetsIn F.slot_dict_values F.entry_dict_values rfl (PySem.evalArgs_none ⟨rfl, hdo.typeIs, F.args_dict_values_1 _, _, meets_dict_values (mixKind X.prog X.w) d hs0, ⟨vs, hdo⟩, ?_⟩)
  refine Calls.spliced_nil ?_
  refine PySem.W.kdl_call (PySem.W.kdl_values (knd := mixKind X.prog X.w) (kvs := vs) (ep := ep)) (I1.ok.hd hc) ⟨⟨_, Heap.get?_push_size _ rfl, rfl, rfl⟩, hat.push _⟩ (by omega) fun h' tk acc' c' hkeep hS hacc => ?_
  refine ⟨.ref _, upd H1 _ (.lst (kvs.map fun kv => kv.2)), I2.laid hkeep (Nat.le_refl _) (show ObjOk X.prog X.w _ _ _ (.lst (kvs.map fun kv => kv.2)) from ⟨?_, acc'.toList, c', ?_, ?_⟩), rfl, q _ (I2.hok.fresh (Nat.le_refl _))⟩
  · rw [List.length_map]; exact hz
  · have el : acc'.toList.length = acc'.size := by simp
    refine vals_of_at (by rw [List.length_map, el, hacc.1, lk]) fun j x w h1 h2 => ?_
    obtain ⟨k, hky⟩ := hacc.2 j w (by rw [← Array.getElem?_toList]; exact h2)
    rw [List.getElem?_map] at h1
    cases hk : kvs[j]? with
    | none => rw [hk] at h1; cases h1
    | some pk =>
      rw [hk] at h1
      cases h1
      obtain ⟨qv, g1, g2, g3⟩ := LiI.paired_get kv hk
      rw [hky] at g1
      cases g1
      exact g3
  · rw [Array.toArray_toList]; exact hS
end
end LiV

set_option Elab.async false
set_option linter.all false
set_option maxRecDepth 100000
set_option maxHeartbeats 3200000
/-! [(..) for k in d if ..]: a new tuple (or what lies on tuples) for each key that is let -/
namespace Lc
open PySem L2 Tx Tg Tm RZ
theorem lcKR {α : Type} {R : Hp → Addr → α → Prop} (hR : ∀ H H' p x, KT H H' → R H p x → R H' p x) {d : Addr} {o : Obj} {kvs : List (Key × V)} (p : Key × V → Bool) (f : Key × V → α) {j : Nat} {tt : TT} {te : TE} {σ : L2.St} {H1 : Hp} {D : Addr} {Qd : Hp → Prop} (ed : H1 d = some (.frz o (.dK kvs))) (nD : H1 D = none) (hz : kvs.length < sizeLine)
    (hw : ∀ v, wipe ((wipe σ [j]).set j (some v)) [j] = wipe σ [j])
    (ht : ∀ (i : Nat) (k : Key) (v : V) (H2 : Hp), kvs[i]? = some (k, v) → Same H1 H2 → ∀ T : Bool → Hp → Prop, (∀ H3, Same H2 H3 → T (p (k, v)) H3) → tt ((wipe σ [j]).set j (some (kV k))) H2 T)
    (hs : ∀ (i : Nat) (k : Key) (v : V) (H2 : Hp), kvs[i]? = some (k, v) → p (k, v) = true → Same H1 H2 → ∀ Q : VK, (∀ b H3, Same H2 H3 → R H3 b (f (k, v)) → Q (.ref b) H3) → te ((wipe σ [j]).set j (some (kV k))) H2 Q)
    (hd : ∀ H2 ps, Same H1 H2 → H2 D = some (.lst (ps.map V.ref)) → PySem.W.EachIs (R H2) ps ((kvs.filter p).map f) → Qd H2) :
    ∃ W : Nat → Nat → Hp → Prop, (∃ m, W 0 m (upd H1 D (.lst []))) ∧ ∀ i m H, W i m H →
      ((Itk d o kvs).stop i H ∧ Qd H) ∨ ((Itk d o kvs).go i H ∧ ∃ Nx : Hp → Prop, (∀ H', Nx H' → ∃ m', m' < m ∧ W (i + 1) m' H') ∧ ∀ x H', (Itk d o kvs).yld i H x H' → gName j x (wipe σ [j]) H' fun σ2 H2 => wipe σ2 [j] = wipe σ [j] ∧ tt σ2 H2 fun b H3 =>
        if b = true then te σ2 H3 fun y H4 => ∃ acc, H4 D = some (.lst acc) ∧ acc.length < sizeLine ∧ Nx (upd H4 D (.lst (acc ++ [y]))) else Nx H3) := by
  refine lc_keys (fun i H2 => ∃ ps : List Addr, Same H1 H2 ∧ H2 D = some (.lst (ps.map V.ref)) ∧ PySem.W.EachIs (R H2) ps (((kvs.take i).filter p).map f)) ⟨[], same_upd nD, upd_same, .nil⟩ (fun i H2 z => by obtain ⟨_, s, _⟩ := z; exact s _ _ ed) ?_ ?_
  · rintro i k v H2 hk ⟨ps, s2, e2, r2⟩
    have hi := (List.getElem?_eq_some_iff.mp hk).1
    have et : (kvs.take (i + 1)).filter p = (kvs.take i).filter p ++ if p (k, v) = true then [(k, v)] else [] := by
      rw [List.take_add_one, hk, List.filter_append]
      congr 1
      show List.filter _ [(k, v)] = _
      by_cases e : p (k, v) = true
      · simp [e]
      · simp [e]
    refine ⟨hw _, ?_⟩
    refine ht i k v H2 hk s2 _ fun H3 s3 => ?_
    have keep : ∀ {H H' : Hp}, Same H H' → KT H H' := fun s q xs e => s _ _ e
    by_cases hp : p (k, v) = true
    · rw [hp]
      refine iteT (B := ∃ _, _) ?_
      refine hs i k v H3 hk hp (s2.trans s3) _ fun b H4 s4 hb => ⟨_, s4 _ _ (s3 _ _ e2), ?_, ps ++ [b], same_put ((s2.trans s3).trans s4) nD, ?_, ?_⟩
      · rw [List.length_map, r2.length, List.length_map]
        refine Nat.lt_of_le_of_lt (List.length_filter_le _ _) ?_
        rw [List.length_take]
        omega
      · rw [upd_same, List.map_append]
        rfl
      · have k2 : KT H2 (upd H4 D (.lst (ps.map V.ref ++ [V.ref b]))) := fun q xs e => by
          rw [upd_ne (fun z => by rw [z, e2] at e; cases e)]
          exact s4 _ _ (s3 _ _ e)
        have k3 : KT H4 (upd H4 D (.lst (ps.map V.ref ++ [V.ref b]))) := fun q xs e => by
          rw [upd_ne (fun z => by rw [z, s4 _ _ (s3 _ _ e2)] at e; cases e)]
          exact e
        rw [et, if_pos hp, List.map_append]
        exact each_app (PySem.W.EachIs.mono (fun _ _ h => hR _ _ _ _ k2 h) r2) (.cons (hR _ _ _ _ k3 hb) .nil)
    · have hp : p (k, v) = false := by simpa using hp
      rw [hp]
      refine iteF ⟨ps, s2.trans s3, s3 _ _ e2, ?_⟩
      rw [et, if_neg (by rw [hp]; decide), List.append_nil]
      exact PySem.W.EachIs.mono (fun _ _ h => hR _ _ _ _ (keep s3) h) r2
  · rintro H2 ⟨ps, s2, e2, r2⟩
    rw [List.take_of_length_le (Nat.le_refl _)] at r2
    exact hd H2 ps s2 e2 r2
end Lc

set_option Elab.async false
set_option linter.all false
set_option maxRecDepth 100000
set_option maxHeartbeats 6400000
namespace K6
open PySem L2 Tx Tg Tm Da RZ Lc
/-! ### the law's main check -/
/-- the lambdas' full name -/
abbrev qRt : Str := ("_law_right" : Str) ++ ".<locals>." ++ "<lambda>"
abbrev nRt : List Str := ["_law_cup_here", "_law_signs_here", "_law_deep", "_law_heap_here", "_law_piece", "_law_drawn", "_law_known", "_law_told", "_law_both", "_law_due", "_law_line_here"]
theorem scRt : FnScope nRt ["_law_cup_here"] (defScope sRight) := ⟨rfl, rfl, rfl, by decide +kernel, rfl, by decide +kernel, by decide +kernel⟩
theorem sels_in (l : List Nat) : ∀ s ∈ Ty.sels l, s.1 ∈ Ty.selL l := by
  refine Ty.rev_ind (P := fun l => ∀ s ∈ Ty.sels l, s.1 ∈ Ty.selL l) (fun s hs => ?_) (fun l c ih => ?_) l
  · rw [List.mem_singleton.mp hs]
    exact List.mem_singleton.mpr rfl
  · rw [sels_snoc, Ty.selL_snoc]
    refine fold_keys (P := fun y => y ∈ Ty.selLs (Ty.selL l) c) (fun s hs => List.mem_append_left _ (ih s hs)) fun s hs => ?_
    by_cases h : s.1 ++ [c] ∈ Ty.selL l
    · exact List.mem_append_left _ h
    · refine List.mem_append_right _ (List.mem_filter.mpr ⟨List.mem_map.mpr ⟨_, ih s hs, rfl⟩, ?_⟩)
      simp [h]
theorem psum_bd {f : List Nat → Int} (h : ∀ y, -5 ≤ f y ∧ f y ≤ 5) : ∀ F : List Ty.Pk, -(5 * (F.length : Int)) ≤ Ty.psum 1 F f ∧ Ty.psum 1 F f ≤ 5 * (F.length : Int)
  | [] => ⟨Int.le_refl _, Int.le_refl _⟩
  | p :: F => by
    have e : Ty.psum 1 (p :: F) f = 1 ^ p.2 * f p.1 + Ty.psum 1 F f := rfl
    have h1 := psum_bd h F
    have h2 := h p.1
    rw [e, Int.one_pow, Int.one_mul, List.length_cons]
    omega
theorem gt_bd {D : Ty.SD} (h : ∀ s ∈ D, -5 ≤ s.2 ∧ s.2 ≤ 5) (y : List Nat) : -5 ≤ Ty.gtD D y ∧ Ty.gtD D y ≤ 5 := by
  unfold Ty.gtD
  cases hf : D.find? fun s => decide (s.1 = y) with
  | none => exact ⟨by decide, by decide⟩
  | some s => exact h s (List.mem_of_find?_eq_some hf)
theorem sm_bd {D : Ty.SD} (h : ∀ s ∈ D, -5 ≤ s.2 ∧ s.2 ≤ 5) {y : List Nat} (hy : y.length ≤ 6) : -400 < Ty.sm1 (Ty.gtD D) y ∧ Ty.sm1 (Ty.gtD D) y < 400 := by
  have h1 := psum_bd (gt_bd h) (Ty.picks y)
  have h2 : (Ty.picks y).length ≤ 64 := by
    rw [Ty.picks_len]
    exact Nat.pow_le_pow_right (n := 2) (j := 6) (by decide) hy
  unfold Ty.sm1
  omega
theorem lines_all {sg : Str} (h : Signs sg) {n : Nat} (hn : okB sg n = true) : ("" : Str) :: lineL sg n = allT sg n := by
  have go : ∀ z ∈ (["ab", "xy", "a", "abc", "b"] : List Str), ∀ n ∈ List.range 5, okB z n = true → ("" : Str) :: lineL z n = allT z n := by decide +kernel
  have h5 : n < 5 := by
    unfold okB at hn
    simp only [Bool.or_eq_true, Bool.and_eq_true, decide_eq_true_eq] at hn
    omega
  refine go sg ?_ n (List.mem_range.mpr h5) hn
  rcases h with rfl | rfl | rfl | rfl | rfl <;> simp
theorem pin_none {L : Lp.Pins} {H : Hp} {b : Addr} (e : Lp.pin L H b = none) : L.lookup b = none ∧ H b = none := by
  unfold Lp.pin at e
  cases h : L.lookup b with
  | none => rw [h] at e; exact ⟨rfl, e⟩
  | some o => rw [h] at e; cases e
theorem ne_if {v : V} {A B : Prop} (h : B) : if (!decide (v = v)) = true then A else B := by
  rw [decide_eq_true rfl]
  exact h
theorem if_no {b : Bool} {A B : Prop} (h : b = false) (hb : B) : if b = true then A else B := by
  rw [h]
  exact hb
theorem flat_kvS (D : Ty.SD) : ((kvS D).map fun kv => kv.2).all flatV = true := List.all_eq_true.mpr fun y hy => by
  obtain ⟨kv, hk, rfl⟩ := List.mem_map.mp hy
  obtain ⟨s, _, rfl⟩ := List.mem_map.mp hk
  rfl
/-- a dict unlocked again -/
theorem same_back {H H1 H2 : Hp} {d : Addr} {o : HO} (e : H d = some o) (off : ∀ b u, b ≠ d → H b = some u → H1 b = some u) (s : Same H1 H2) : Same H (upd H2 d o) := fun b u q => by
  by_cases hb : b = d
  · subst hb
    rw [upd_same, ← q, e]
  · rw [upd_ne hb]
    exact s _ _ (off _ _ hb q)
theorem if_tC {b : Bool} {x y : V} {σ : L2.St} {H : Hp} {Q : VK} (h : Q (if b = true then x else y) H) : if b = true then tC x σ H Q else tC y σ H Q := by
  cases b
  · exact h
  · exact h
/-- a key's letters -/
def kcds : Key → List Nat
  | .inr t => cds t
  | .inl _ => []
theorem nd_cds {l : List Str} (h : l.Nodup) : (l.map cds).Nodup := List.Pairwise.map cds (fun a b n e => n (cds_ext e)) h
theorem wts_mem {g : List Nat → Int} {sg : Str} {n : Nat} {s : List Nat × Int} : s ∈ wtsD g sg n ↔ s.1 ∈ (allT sg n).map cds ∧ s.2 = Ty.wt g s.1 ∧ s.2 ≠ 0 := by
  unfold wtsD
  rw [List.mem_filter]
  constructor
  · rintro ⟨h1, h2⟩
    obtain ⟨y, hy, rfl⟩ := List.mem_map.mp h1
    exact ⟨hy, rfl, by simpa using h2⟩
  · rintro ⟨h1, h2, h3⟩
    refine ⟨List.mem_map.mpr ⟨s.1, h1, ?_⟩, by simpa using h3⟩
    rw [← h2]
theorem wts_nd {g : List Nat → Int} {sg : Str} {n : Nat} (nd : (allT sg n).Nodup) : ((wtsD g sg n).map (·.1)).Nodup := by
  unfold wtsD
  refine List.Nodup.sublist (List.Sublist.map _ List.filter_sublist) ?_
  rw [List.map_map]
  show (List.map (fun y => y) _).Nodup
  rw [List.map_id']
  exact nd_cds nd
theorem up_mem {sg : Str} {n : Nat} {y : List Nat} (h : upTo sg n y) : y ∈ (allT sg n).map cds := List.mem_map.mpr ⟨tx y, (laysAll n y h.2).1 h.1, rfl⟩
theorem mem_up {sg : Str} {n : Nat} {y : List Nat} (h : y ∈ (allT sg n).map cds) : upTo sg n y := by
  obtain ⟨t, ht, rfl⟩ := List.mem_map.mp h
  have := (lay_in sg n).1 t ht
  exact ⟨by rw [cds_len]; exact this.1, this.2⟩
theorem wts_gt {g : List Nat → Int} {sg : Str} {n : Nat} (nd : (allT sg n).Nodup) {y : List Nat} (h : upTo sg n y) : Ty.gtD (wtsD g sg n) y = Ty.wt g y := by
  by_cases e : Ty.wt g y = 0
  · rw [e]
    refine Ty.gtD_none fun hm => ?_
    obtain ⟨s, hs, rfl⟩ := List.mem_map.mp hm
    obtain ⟨_, h2, h3⟩ := wts_mem.mp hs
    exact h3 (h2.trans e)
  · exact gt_mem (s := (y, Ty.wt g y)) (wts_nd nd) (wts_mem.mpr ⟨up_mem h, rfl, e⟩)
theorem wts_sum {g : List Nat → Int} {sg : Str} {n : Nat} (nd : (allT sg n).Nodup) {y : List Nat} (h : upTo sg n y) : Ty.sm1 (Ty.gtD (wtsD g sg n)) y = g y := by
  rw [← Ty.sm_wt y g]
  unfold Ty.sm1
  refine Ty.psum_congr fun s hs => ?_
  obtain ⟨h1, h2⟩ := Ty.picks_sub hs
  rw [wts_gt nd ⟨Nat.le_trans h1 h.1, fun c hc => h.2 c (h2 c hc)⟩]
theorem wts_ok {g : List Nat → Int} {sg : Str} {n : Nat} (nd : (allT sg n).Nodup ∧ (allT sg n).length ≤ 20) (hn : n ≤ 5) : okH (wtsD g sg n) := by
  refine ⟨wts_nd nd.1, ?_, fun s hs => ?_⟩
  · unfold wtsD
    refine Nat.le_trans (List.length_filter_le _ _) ?_
    rw [List.length_map, List.length_map]
    omega
  · have := (mem_up (wts_mem.mp hs).1).1
    omega
theorem wts_no0 {g : List Nat → Int} {sg : Str} {n : Nat} : inV (.int 0) ((kvS (wtsD g sg n)).map fun kv => kv.2) = false := by
  refine List.any_eq_false.mpr fun y hy => ?_
  obtain ⟨kv, hk, rfl⟩ := List.mem_map.mp hy
  obtain ⟨s, hs, rfl⟩ := List.mem_map.mp hk
  have := (wts_mem.mp hs).2.2
  show ¬ (eqV (V.int s.2) (V.int 0)) = true
  simp [eqV, this]
theorem kvS_map (E : Ty.SD) (u : List Nat → Int) : ((kvS E).filter fun _ => true).map (fun kv => (kv.1, V.int (u (kcds kv.1)))) = kvS (E.map fun s => (s.1, u s.1)) := by
  rw [List.filter_eq_self.mpr fun _ _ => rfl]
  show List.map _ (List.map _ E) = List.map _ (List.map _ E)
  rw [List.map_map, List.map_map]
  refine List.map_congr_left fun s _ => ?_
  rfl
theorem kvS_nz (E : Ty.SD) : ((kvS E).filter fun kv => !decide (kv.2 = V.int 0)).map (fun kv => kv) = kvS (E.filter nzS) := by
  rw [List.map_id']
  show List.filter _ (List.map _ E) = List.map _ (List.filter _ E)
  rw [List.filter_map]
  congr 1
  refine List.filter_congr fun s _ => ?_
  show (!decide (V.int s.2 = V.int 0)) = !decide (s.2 = 0)
  by_cases e : s.2 = 0
  · simp [e]
  · rw [decide_eq_false e, decide_eq_false (fun z => e (by injection z))]
theorem due_eq {E G : Ty.SD} {sg : Str} {n : Nat} (k : E.map (·.1) = (allT sg n).map cds) : (E.map fun s => (s.1, Ty.gtD (wtsD (Ty.gtD E) sg n) s.1 + Ty.gtD G s.1)).filter nzS = (((allT sg n).map cds).map fun y => (y, Ty.gtD (wtsD (Ty.gtD E) sg n) y + Ty.gtD G y)).filter nzS := by
  rw [← k, List.map_map]
  rfl
theorem both_eq {g : List Nat → Int} {G : Ty.SD} {sg : Str} {n : Nat} (nd : (allT sg n).Nodup) : wtsD (fun y => g y + Ty.sm1 (Ty.gtD G) y) sg n = (((allT sg n).map cds).map fun y => (y, Ty.gtD (wtsD g sg n) y + Ty.gtD G y)).filter nzS := by
  have e : (((allT sg n).map cds).map fun y => (y, Ty.wt (fun y => g y + Ty.sm1 (Ty.gtD G) y) y)) = (((allT sg n).map cds).map fun y => (y, Ty.gtD (wtsD g sg n) y + Ty.gtD G y)) := by
    refine List.map_congr_left fun y hy => ?_
    have e1 : Ty.wt (fun y => g y + Ty.sm1 (Ty.gtD G) y) y = Ty.wt g y + Ty.wt (Ty.sm1 (Ty.gtD G)) y := Ty.psum_add _ _ _ _
    rw [e1, Ty.wt_sm, wts_gt nd (mem_up hy)]
  show List.filter _ _ = _
  rw [e]
theorem val_all {E : Ty.SD} (nd : (E.map (·.1)).Nodup) : ∀ p ∈ kvS E, valV (kvS E) p.1 = some p.2 ∧ flatB p.2 = true := fun p hp => by
  obtain ⟨s, hs, rfl⟩ := List.mem_map.mp hp
  exact ⟨val_nd nd hs, rfl⟩
section
variable {P : Program} {w : World} {K : PySem.W.Frag} {mg : Str → Option Value} {base : Heap} {fS fB fH fL fSd fSg fLn fAt fW fWs : Addr} {dS dB dH dL dSd dSg dLn dAt dW dWs : FuncData} {T0 : List (Addr × Str)}
structure Up (P : Program) (w : World) (K : PySem.W.Frag) (mg : Str → Option Value) (base : Heap) (T0 : List (Addr × Str)) (fS fB fH fL fSd fSg fLn fAt fW fWs : Addr) (dS dB dH dL dSd dSg dLn dAt dW dWs : FuncData) : Prop where
  DS : Df K mg "_law_signs" sSigns ["_law_cup_here"] fS dS
  DB : Df K mg "_law_bit" sBit ["_law_cup_here", "_law_much"] fB dB
  DH : Df K mg "_law_heap" sHeap ["_law_cup_here", "_law_signs_here", "_law_most", "_law_many", "_law_kind"] fH dH
  DL : Df K mg "_law_line" sLine ["_law_cup_here", "_law_signs_here", "_law_most"] fL dL
  DSd : Df K mg "_law_selected" sSelected ["_law_piece"] fSd dSd
  DSg : Df K mg "_law_signed_sum" sSigned ["_law_known", "_law_piece"] fSg dSg
  DLn : Df K mg "_law_lines_to" sLinesTo ["_law_signs_here", "_law_deep"] fLn dLn
  DAt : Df K mg "_law_at" sAtH ["_law_heap_here", "_law_line_here", "_law_kind"] fAt dAt
  DW : Df K mg "weight" sWeight ["letters", "pattern", "call"] fW dW
  DWs : Df K mg "weights_up_to" sWeights ["letters", "depth", "call"] fWs dWs
  GS : FnOk P w K mg base CX0 3 fS dS ["_law_cup_here"] spSigns
  GB : FnOk P w K mg base CX0 1 fB dB ["_law_cup_here", "_law_much"] spBit
  GH : FnOk P w K mg base CX0 5 fH dH ["_law_cup_here", "_law_signs_here", "_law_most", "_law_many", "_law_kind"] (spHp T0)
  GL : FnOk P w K mg base CX0 3 fL dL ["_law_cup_here", "_law_signs_here", "_law_most"] spLine
  GSd : FnOk P w K mg base CX0 1 fSd dSd ["_law_piece"] spSd
  GSg : FnOk P w K mg base CX0 1 fSg dSg ["_law_known", "_law_piece"] spSg
  GLn : FnOk P w K mg base CX0 1 fLn dLn ["_law_signs_here", "_law_deep"] spLines
  GAt : FnOk P w K mg base CX0 2 fAt dAt ["_law_heap_here", "_law_line_here", "_law_kind"] spAtH
  GW : FnOk P w K mg base CX0 6 fW dW ["letters", "pattern", "call"] (spWt P w K mg base)
  GWs : FnOk P w K mg base CX0 6 fWs dWs ["letters", "depth", "call"] (spWts P w K mg base)
def spRt (T0 : List (Addr × Str)) : Sp := fun vs H Q _ => ∃ (c : Addr), vs = [.ref c] ∧ Cup H c ∧ LamX.Tabs T0 H ∧ ∀ H', ButN c H H' → Cup H' c → LamX.Tabs T0 H' → Q (.bl true) H'
theorem keepN {L : Lp.Pins} {f : Addr} {fo : Obj} {H H' : Hp} (nf : H f = none) (cl : Lp.Clear L (upd H f (Lp.PinO fo))) (s : Same (Lp.pin L (upd H f (Lp.PinO fo))) H') : Same H (Lp.unp ((f, fo) :: L) H') := fun b o e => by
  have bf : b ≠ f := ne_of_none e nf
  have e2 : (upd H f (Lp.PinO fo)) b = some o := by rw [upd_ne bf]; exact e
  have e3 := s _ _ (Lp.pin_some cl e2)
  have lb : L.lookup b = none := Lp.off_c cl e2
  rw [Lp.unp_off]
  · exact e3
  · rw [List.lookup_cons, beq_eq_false_iff_ne.mpr bf]
    exact lb
theorem ok_rt {f cR Pt : Addr} {fd : FuncData} (F : Lp.FunC K "_law_right" sRight f fd cR) (TB : LamX.TabB base mg cR Pt) (hm : (Pt, qRt) ∈ T0) (hu0 : ∀ p ∈ T0, p.1 = Pt → p.2 = qRt) (T : Txt K mg) (U : Up P w K mg base T0 fS fB fH fL fSd fSg fLn fAt fW fWs dS dB dH dL dSd dSg dLn dAt dW dWs) : FnOk P w K mg base CX0 7 f fd ["_law_cup_here"] (spRt T0) := by
  obtain ⟨DS, DB, DH, DL, DSd, DSg, DLn, DAt, DW, DWs, GS, GB, GH, GL, GSd, GSg, GLn, GAt, GW, GWs⟩ := U
  refine F.ok scRt (fun vs H Q E h => ?_) (fun A outer s H vs Q E hr h => ?_)
  · obtain ⟨c, rfl, _⟩ := h
    rfl
  · obtain ⟨c, rfl, hc, hT, q⟩ := h
    have hu := hu_of hr
    refine ⟨_, (pss_cons (ps_set (i := 1) scRt.nd rfl (Or.inl rfl) (pe_call GS (hr.mono (by decide)) (by rfl) DS.m DS.F.kp DS.b .nil pass0 (pa_cons (pv 0) pa_nil)))
    (pss_cons (ps_set (i := 2) scRt.nd rfl (Or.inl rfl) (pe_op op_add pe_int (pe_call GB (hr.mono (by decide)) (by rfl) DB.m DB.F.kp DB.b .nil pass0 (pa_cons (pv 0) (pa_cons (pe_ifExp (pt_cmpR op_lt (pe_callB call_len_str (by rfl) T.len PySem.boot_len (pa_cons (pv 1) pa_nil)) pe_int (nomark _)) pe_int pe_int) pa_nil)))))
    (pss_cons (ps_asg (pe_tup (pa_cons (pe_call GH (hr.mono (by decide)) (by rfl) DH.m DH.F.kp DH.b .nil pass0 (pa_cons (pv 0) (pa_cons (pv 1) (pa_cons pe_int (pa_cons pe_int (pa_cons pe_non pa_nil)))))) (pa_cons (pe_call GL (hr.mono (by decide)) (by rfl) DL.m DL.F.kp DL.b .nil pass0 (pa_cons (pv 0) (pa_cons (pv 1) (pa_cons pe_int pa_nil)))) pa_nil))) (pg_tup rfl (pgs_cons (pg_name (i := 3) scRt.nd rfl (Or.inr rfl)) (pgs_cons (pg_name (i := 4) scRt.nd rfl (Or.inl rfl)) pgs_nil))))
    (pss_cons (ps_set (i := 5) scRt.nd rfl (Or.inr rfl) (pe_callTy (call_dictP rfl) (by rfl) T.dict (by decide +kernel) (pa_cons (pe_lc (own := [("_law_line_here", 10)]) (g := (gName 10)) (tt := tYes)  rfl scRt.nd (pi_list (pe_call GSd (hr.mono (by decide)) (by rfl) DSd.m DSd.F.kp DSd.b .nil pass0 (pa_cons (pv 4) pa_nil))) (blkOk_by (own := [("_law_line_here", 10)]) (N := nRt) (sc := defScope sRight) (by decide +kernel)) (fun _ _ _ _ _ => (pg_name (i := 10) scRt.nd rfl (Or.inl rfl))) (fun _ _ _ _ _ => pts_nil) (fun _ _ _ _ _ => (pe_tup (pa_cons (pv 10) (pa_cons (pe_op op_sub (pe_call GB (hr.mono (by decide)) (by rfl) DB.m DB.F.kp DB.b .nil pass0 (pa_cons (pv 0) (pa_cons pe_int pa_nil))) pe_int) pa_nil))))) pa_nil)))
    (pss_cons (ps_if (pt_cmpR op_ne (Lp.pe_callp GW (hr.mono (by decide)) (by rfl) DW.m DW.F.kp DW.b (fun _ => rfl) (pa_cons (pv 1) (pa_cons (pv 4) (pa_cons (Lp.pe_lam (T := T0) (Lp.lamS1_by (sc := defScope sRight) (a := "_law_line_here") (by decide +kernel)) TB rfl hm hu0) pa_nil)))) (pe_call GSg (hr.mono (by decide)) (by rfl) DSg.m DSg.F.kp DSg.b .nil pass0 (pa_cons (pv 5) (pa_cons (pv 4) pa_nil))) (nomark _)) (pss_one (ps_ret pe_bl)) pss_nil)
    (pss_cons (ps_if (pt_cmpR op_ne (Lp.pe_callp GW (hr.mono (by decide)) (by rfl) DW.m DW.F.kp DW.b (fun _ => rfl) (pa_cons (pv 1) (pa_cons (pv 4) (pa_cons (Lp.pe_lam (T := T0) (Lp.lamS1_by (sc := defScope sRight) (a := "_law_line_here") (by decide +kernel)) TB rfl hm hu0) pa_nil)))) (pe_dget2 hu (pv 3) (pv 4) pe_int ⟨rfl, rfl, rfl, rfl⟩) (nomark _)) (pss_one (ps_ret pe_bl)) pss_nil)
    (pss_cons (ps_set (i := 6) scRt.nd rfl (Or.inr rfl) (pe_callTy (call_dictP rfl) (by rfl) T.dict (by decide +kernel) (pa_cons (pe_lc (own := [("_law_line_here", 10)]) (g := (gName 10)) (tt := tYes)  rfl scRt.nd (pi_list (pe_op op_cat (pe_lst (pa_cons pe_str pa_nil)) (pe_call GLn (hr.mono (by decide)) (by rfl) DLn.m DLn.F.kp DLn.b .nil pass0 (pa_cons (pv 1) (pa_cons (pv 2) pa_nil))))) (blkOk_by (own := [("_law_line_here", 10)]) (N := nRt) (sc := defScope sRight) (by decide +kernel)) (fun _ _ _ _ _ => (pg_name (i := 10) scRt.nd rfl (Or.inl rfl))) (fun _ _ _ _ _ => pts_nil) (fun _ _ _ _ _ => (pe_tup (pa_cons (pv 10) (pa_cons (pe_op op_sub (pe_call GB (hr.mono (by decide)) (by rfl) DB.m DB.F.kp DB.b .nil pass0 (pa_cons (pv 0) (pa_cons pe_int pa_nil))) pe_int) pa_nil))))) pa_nil)))
    (pss_cons (ps_set (i := 7) scRt.nd rfl (Or.inr rfl) (Lp.pe_callp GWs (hr.mono (by decide)) (by rfl) DWs.m DWs.F.kp DWs.b (fun _ => rfl) (pa_cons (pv 1) (pa_cons (pv 2) (pa_cons (Lp.pe_lam (T := T0) (Lp.lamS1_by (sc := defScope sRight) (a := "_law_line_here") (by decide +kernel)) TB rfl hm hu0) pa_nil)))))
    (pss_cons (ps_lock (ps_if (PW.pt (pw_or (pt_cmpR (op_neD hr.units) (pe_lc (own := [("_law_line_here", 10)]) (g := (gName 10))   rfl scRt.nd (pi_keys (pv 6)) (blkOk_by (own := [("_law_line_here", 10)]) (N := nRt) (sc := defScope sRight) (by decide +kernel)) (fun _ _ _ _ _ => (pg_name (i := 10) scRt.nd rfl (Or.inl rfl))) (fun _ _ _ _ _ => pts_one (pt_cmpR op_ne (pe_call GAt (hr.mono (by decide)) (by rfl) DAt.m DAt.F.kp DAt.b .nil pass0 (pa_cons (pv 7) (pa_cons (pv 10) (pa_cons pe_non pa_nil)))) (pe_dget hu (pv 6) (pv 10) (fun _ _ => rfl)) (nomark _))) (fun _ _ _ _ _ => (pv 10))) (pe_lst pa_nil) (nomark _)) (pw_or1 (pt_cmpR op_in_seq pe_int (LiV.pe_listVals rfl (pv 7) (by rfl) T.list (by decide +kernel)) (by rfl))))) (pss_one (ps_ret pe_bl)) pss_nil))
    (pss_cons (ps_set (i := 8) scRt.nd rfl (Or.inl rfl) (Lp.pe_callp GWs (hr.mono (by decide)) (by rfl) DWs.m DWs.F.kp DWs.b (fun _ => rfl) (pa_cons (pv 1) (pa_cons (pv 2) (pa_cons (Lp.pe_lam (T := T0) (Lp.lamS1_by (sc := defScope sRight) (a := "_law_line_here") (by decide +kernel)) TB rfl hm hu0) pa_nil)))))
    (pss_cons (ps_lock (ps_set (i := 9) scRt.nd rfl (Or.inr rfl) (pe_callTy (call_dictP rfl) (by rfl) T.dict (by decide +kernel) (pa_cons (pe_lc (own := [("_law_line_here", 10)]) (g := (gName 10)) (tt := tYes)  rfl scRt.nd (pi_keys (pv 6)) (blkOk_by (own := [("_law_line_here", 10)]) (N := nRt) (sc := defScope sRight) (by decide +kernel)) (fun _ _ _ _ _ => (pg_name (i := 10) scRt.nd rfl (Or.inl rfl))) (fun _ _ _ _ _ => pts_nil) (fun _ _ _ _ _ => (pe_tup (pa_cons (pv 10) (pa_cons (pe_op op_add (pe_dget2 hu (pv 7) (pv 10) pe_int ⟨rfl, rfl, rfl, rfl⟩) (pe_dget2 hu (pv 3) (pv 10) pe_int ⟨rfl, rfl, rfl, rfl⟩)) pa_nil))))) pa_nil))))
    (pss_one (ps_lock (ps_ret (pe_cmpR (op_eq_dictA (Nat.lt_of_succ_lt hu)) (pv 8) (pe_callTy (call_dictP rfl) (by rfl) T.dict (by decide +kernel) (pa_cons (pe_lc (own := [("_law_line_here", 10)]) (g := (gName 10))   rfl scRt.nd (pi_keys (pv 9)) (blkOk_by (own := [("_law_line_here", 10)]) (N := nRt) (sc := defScope sRight) (by decide +kernel)) (fun _ _ _ _ _ => (pg_name (i := 10) scRt.nd rfl (Or.inl rfl))) (fun _ _ _ _ _ => pts_one (pt_cmpR op_ne (pe_dget hu (pv 9) (pv 10) (fun _ _ => rfl)) pe_int (nomark _))) (fun _ _ _ _ _ => (pe_tup (pa_cons (pv 10) (pa_cons (pe_dget hu (pv 9) (pv 10) (fun _ _ => rfl)) pa_nil))))) pa_nil)) (nomark _)))))))))))))))), ?_⟩
    refine ⟨_, rfl, c, rfl, hc, fun sg H1 hsg hc1 b1 => ?_⟩
    have T1 := tabs_but hc b1 hT
    dsimp only [tSeq, gName]
    have sgl := sg_short hsg
    refine ⟨_, rfl, _, rfl, sg, rfl, Nat.le_trans sgl (by decide), _, _, rfl, rfl, _, rfl, ?_⟩
    dsimp only
    refine if_tC ?_
    refine ⟨c, if (sg.length : Int) < 3 then 3 else 2, by split <;> simp_all, hc1, by split <;> decide, by split <;> exact small9000 (by decide) (by decide), fun r H2 r0 r1 hc2 b2 => ⟨_, _, rfl, rfl, ?_⟩⟩
    obtain ⟨n, en⟩ : ∃ n : Nat, 1 + r = (n : Int) := ⟨(1 + r).toNat, by omega⟩
    have hn : okB sg n = true ∧ 1 ≤ n ∧ n ≤ 3 := by
      unfold okB
      by_cases h3 : (sg.length : Int) < 3
      · rw [if_pos h3] at r1
        have : sg.length < 3 := by omega
        refine ⟨?_, by omega, by omega⟩
        have h1 : n ≤ 3 := by omega
        simp [this, h1]
      · rw [if_neg h3] at r1
        refine ⟨?_, by omega, by omega⟩
        have h1 : n ≤ 2 := by omega
        have h2 : n ≤ 3 := by omega
        simp [h1, h2]
    obtain ⟨okn, n1, n3⟩ := hn
    dsimp only [tSeq, gName]
    rw [en]
    clear en r0 r1
    have T2 := tabs_but hc1 b2 T1
    have b02 := b1.trans b2
    refine ⟨_, rfl, _, rfl, c, sg, 3, 4, rfl, hc2, hsg, by decide, by decide, T2, fun dH G H3 hc3 b3 T3 hG okG frG kG vG => ?_⟩
    refine ⟨_, rfl, _, rfl, c, sg, 6, rfl, hc3, hsg, by decide, fun z H4 hz lz hc4 b4 => ?_⟩
    refine ⟨(by show 2 ≤ sizeLine; decide), fun tp ntp => ⟨tp, _, rfl, SqT.of upd_same, rfl, _, _, rfl, _, _, rfl, rfl, ?_⟩⟩
    have s5 := same_upd (o := .tup [V.ref dH, V.str z]) ntp
    have hcH : dH ≠ c := fun y => by
      obtain ⟨_, _, _, ec⟩ := hc3
      have hG : H3 dH = some (.dK (kvS G)) := hG
      rw [y, ec] at hG
      cases hG
    have hG5 : HeapAt (upd H4 tp (.tup [V.ref dH, V.str z])) dH G := s5 _ _ (b4 _ _ hcH hG)
    have hc5 := hc4.same s5
    have T5 := (tabs_but hc3 b4 T3).ext s5
    have b05 : ButN c H (upd H4 tp (.tup [V.ref dH, V.str z])) := ((ButN.of b02).trans b3).trans ((ButN.of b4).trans (ButN.of (But.of s5)))
    generalize upd H4 tp (.tup [V.ref dH, V.str z]) = H5 at hG5 hc5 T5 b05 ⊢
    clear s5 ntp hG T3 T2 T1 hT hc4 hc3 b4 b3 hc2 hc1 b02 b1 b2 frG
    dsimp only [tSeq, gName]
    refine ⟨_, rfl, z, rfl, lz, fun A H6 s6 nA e6 => ⟨A, rfl, ⟨_, SqL.of e6⟩, fun L nL => ?_⟩⟩
    have hc6 := hc5.same s6
    have hAc : A ≠ c := hc5.ne nA
    have e6' : H6 A = some (.lst (((Ty.selL (cds z)).map tx).map V.str)) := by rw [e6, List.map_map]; rfl
    refine lc_draw (c := c) hc6 nL e6' ?_ (fun _ => rfl) hAc ?_ ?_
    · rw [List.length_map]
      exact Nat.lt_of_le_of_lt (Nat.le_trans (Ty.selL_len _) (Nat.pow_le_pow_right (n := 2) (j := 6) (by decide) lz)) (by decide)
    · intro i t H7 ht hc7 Q' q'
      refine ⟨_, rfl, _, rfl, c, 9, rfl, hc7, by decide, small9000 (by decide) (by decide), fun r H8 r0 r1 hc8 b8 => ⟨_, _, rfl, rfl, (by show 2 ≤ sizeLine; decide), fun b nb => ?_⟩⟩
      have s9 := same_upd (o := .tup [V.str t, V.int (r - 4)]) nb
      exact q' b (r - 4) _ (hc8.same s9) (b8.trans (But.of s9)) upd_same (by omega) (by omega)
    intro H7 ps E7 hc7 b7 e7 r7 k7 q7
    have nd7 : (E7.map (·.1)).Nodup := by
      rw [k7, List.map_map]
      have e : (Ty.selL (cds z)).map (cds ∘ tx) = Ty.selL (cds z) := (List.map_congr_left fun y _ => rfl).trans (List.map_id _)
      rw [e]
      exact Ty.selL_nodup _
    refine ⟨L, ps, kvS E7, rfl, SqL.of e7, paired_of r7, fun dd ndd => ?_⟩
    rw [merge_new (by rw [List.nil_append]; exact keys_kvS nd7), List.nil_append]
    have s8 := same_upd (o := .dK (kvS E7)) ndd
    have hD8 : (upd H7 dd (.dK (kvS E7))) dd = some (.dK (kvS E7)) := upd_same
    have hG8 := s8 _ _ (b7 _ _ hcH (s6 _ _ hG5))
    have hc8 := hc7.same s8
    have T8 := (tabs_but hc6 b7 (T5.ext s6)).ext s8
    have b08 : ButN c H (upd H7 dd (.dK (kvS E7))) := b05.trans (ButN.of (((But.of s6).trans b7).trans (But.of s8)))
    have hDH : dd ≠ dH := fun y => by
      have := b7 _ _ hcH (s6 _ _ hG5)
      rw [← y, ndd] at this
      cases this
    generalize upd H7 dd (.dK (kvS E7)) = H8 at hD8 hG8 hc8 T8 b08 ⊢
    have hG8 : HeapAt H8 dH G := hG8
    clear s8 ndd r7 e7 b7 hc7 nL e6' e6 hAc s6 nA hc6 hG5 hc5 T5 b05
    dsimp only [tSeq, gName]
    refine ⟨_, rfl, _, rfl, T8, fun H9 e9 T9 fl fo cl nf9 nf8 hl hco L SA => ?_⟩
    have eF : (upd H9 fl (Lp.PinO fo)) fl = some (Lp.PinO fo) := upd_same
    have C := SA.at eF
    have LK := Lp.lam_ok (k := 3) (j := 10) (a := "_law_line_here") C hl (Lp.lamS1_by (sc := defScope sRight) (a := "_law_line_here") (by decide +kernel)) scRt.nd rfl (fun _ _ _ _ _ _ => rfl) (fun A' outer' s' H' hr' => pe_dget (hu_of hr') (pv 5) (pv 10) (fun _ _ => rfl))
    have hco9 : (upd H9 fl (Lp.PinO fo)) cl = some (LamX.CodeO cl qRt) := same_upd nf9 _ _ hco
    have hD9 : H9 dd = some (.dK (kvS E7)) := e9 _ _ hD8 fun ps z => nomatch z
    have inE : ∀ y, y ∈ Ty.selL (cds z) → (y, Ty.gtD E7 y) ∈ E7 := fun y hy => by
      have k8 : E7.map (·.1) = Ty.selL (cds z) := by
        rw [k7, List.map_map]
        exact (List.map_congr_left fun y _ => rfl).trans (List.map_id _)
      rw [← k8] at hy
      obtain ⟨u, hu, rfl⟩ := List.mem_map.mp hy
      rw [gt_mem nd7 hu]
      exact hu
    have sel : ∀ y, subs z y → (y, Ty.gtD E7 y) ∈ E7 := fun y hy => inE y (by
      obtain ⟨u, hu, rfl⟩ := List.mem_map.mp hy
      exact sels_in _ u hu)
    refine ⟨sg, z, fl, Ty.gtD E7, rfl, hsg, hz, Nat.le_trans lz (by decide), ⟨(fl, fo) :: L, cl, _, _, LK, ⟨Lp.pinned_cons SA.clear eF, Lp.pin_some SA.clear hco9⟩, fun y H13 QQ s13 hy hQ => ?_⟩, fun y hy => ?_, fun H13 s13 => ?_⟩
    · refine ⟨_, rfl, _, rfl, _, rfl, dd, _, rfl, .inl ⟨_, _, .inl (keepN nf9 SA.clear s13 _ _ hD9), rfl, gt_kv nd7 (sel _ hy)⟩, hQ _ (Same.refl _)⟩
    · have := q7 _ (sel y hy)
      exact ⟨by have := this.1; show _ < Ty.gtD E7 y; omega, by have := this.2; show Ty.gtD E7 y < _; omega⟩
    have s14 := (same_upd (o := Lp.PinO fo) nf9).trans (Lp.same_unp SA.clear s13)
    dsimp only
    generalize Lp.unp L H13 = H14 at s14 ⊢
    clear LK C eF SA hco9 hl hco
    have x814 := e9.trans (LamX.ExtN.of s14)
    have T14 := T9.ext s14
    have hD14 : H14 dd = some (.dK (kvS E7)) := x814 _ _ hD8 fun ps z => nomatch z
    have hG14 : HeapAt H14 dH G := x814 _ _ hG8 fun ps z => nomatch z
    have hc14 := hc8.ext x814
    have b14 := b08.trans (ButN.ext x814)
    clear x814 s14 T9 e9 hD9 hD8 hG8 hc8 b08 T8 nf9 nf8
    refine ⟨_, rfl, _, rfl, dd, z, kvS E7, Ty.gtD E7, rfl, hD14, lz, fun p hp => ?_, ?_⟩
    · have := gt_kv (t := tx p.1) nd7 (inE p.1 (Ty.selL_pick _ p hp))
      exact this.symm
    refine ⟨rfl, _, rfl, ne_if ?_⟩
    refine ⟨_, rfl, _, rfl, T14, fun H15 e15 T15 fl fo cl nf15 nf14 hl hco L SA => ?_⟩
    have eF : (upd H15 fl (Lp.PinO fo)) fl = some (Lp.PinO fo) := upd_same
    have C := SA.at eF
    have LK := Lp.lam_ok (k := 3) (j := 10) (a := "_law_line_here") C hl (Lp.lamS1_by (sc := defScope sRight) (a := "_law_line_here") (by decide +kernel)) scRt.nd rfl (fun _ _ _ _ _ _ => rfl) (fun A' outer' s' H' hr' => pe_call GAt (hr'.mono (by decide)) (by rfl) DAt.m DAt.F.kp DAt.b .nil pass0 (pa_cons (pv 3) (pa_cons (pv 10) (pa_cons pe_non pa_nil))))
    have hco15 : (upd H15 fl (Lp.PinO fo)) cl = some (LamX.CodeO cl qRt) := same_upd nf15 _ _ hco
    have hG15 : HeapAt H15 dH G := e15 _ _ hG14 fun ps z => nomatch z
    have six : ∀ y, subs z y → y.length ≤ 6 := fun y hy => by
      obtain ⟨u, hu, rfl⟩ := List.mem_map.mp hy
      exact Nat.le_trans (sels_sub u hu).1 lz
    refine ⟨sg, z, fl, Ty.sm1 (Ty.gtD G), rfl, hsg, hz, Nat.le_trans lz (by decide), ⟨(fl, fo) :: L, cl, _, _, LK, ⟨Lp.pinned_cons SA.clear eF, Lp.pin_some SA.clear hco15⟩, fun y H17 QQ s17 hy hQ => ?_⟩, fun y hy => ?_, fun H17 s17 => ?_⟩
    · exact ⟨_, rfl, _, rfl, _, rfl, dH, y, G, rfl, keepN nf15 SA.clear s17 _ _ hG15, okG, Nat.le_trans (six _ hy) (by decide), fun H18 s18 => hQ H18 s18⟩
    · have := sm_bd vG (six y hy)
      constructor <;> omega
    have s18 := (same_upd (o := Lp.PinO fo) nf15).trans (Lp.same_unp SA.clear s17)
    dsimp only
    generalize Lp.unp L H17 = H18 at s18 ⊢
    clear LK C eF SA hco15 hl hco
    have x18 := e15.trans (LamX.ExtN.of s18)
    have T18 := T15.ext s18
    have hG18 : H18 dH = some (.dK (kvS G)) := x18 _ _ hG14 fun ps z => nomatch z
    have hc18 := hc14.ext x18
    have b18 := b14.trans (ButN.ext x18)
    clear x18 s18 T15 e15 hG15 hG14 hc14 b14 T14 nf15 nf14 hD14
    rw [Ty.wt_sm]
    have hval : (valV (kvS G) (Sum.inr z : Key)).getD (V.int 0) = V.int (Ty.gtD G (cds z)) := by
      have := valV_get G (cds z)
      rw [tx_cds] at this
      exact this
    refine ⟨_, rfl, dH, rfl, .inl ⟨_, .inl hG18⟩, _, rfl, _, DGet.k (k := (Sum.inr z : Key)) hG18, ?_⟩
    dsimp only
    rw [hval]
    refine ⟨rfl, _, rfl, ne_if ?_⟩
    refine ⟨(by show 1 ≤ sizeLine; decide), fun A1 n1 => ?_⟩
    refine ⟨_, rfl, _, rfl, sg, n, rfl, hsg, by omega, fun A2 H19 n2 s19 e19 => ?_⟩
    have e1 : H19 A1 = some (.lst [V.str ""]) := s19 _ _ upd_same
    have s19 := (same_upd (o := .lst [V.str ""]) n1).trans s19
    refine ⟨A1, A2, _, _, rfl, rfl, e1, e19, ?_, fun A3 n3 => ⟨A3, rfl, ⟨_, SqL.of upd_same⟩, fun L nL => ?_⟩⟩
    · rw [List.length_map]
      have := (all_nd hsg okn).2
      rw [← lines_all hsg okn, List.length_cons] at this
      show 1 + (lineL sg n).length ≤ sizeLine
      exact Nat.le_trans (show _ ≤ 20 by omega) (by decide)
    have eA : [V.str ""] ++ txs (lineL sg n) = (allT sg n).map V.str := by rw [← lines_all hsg okn]; rfl
    rw [eA]
    obtain ⟨ndA, lA⟩ := all_nd hsg okn
    have s20 := s19.trans (same_upd (o := .lst ((allT sg n).map V.str)) n3)
    have eA3 : (upd H19 A3 (.lst ((allT sg n).map V.str))) A3 = some (.lst ((allT sg n).map V.str)) := upd_same
    have hc20 := hc18.same s20
    have hAc : A3 ≠ c := (hc18.same s19).ne n3
    have nL : (upd H19 A3 (.lst ((allT sg n).map V.str))) L = none := by
      have := nL
      rw [eA] at this
      exact this
    generalize upd H19 A3 (.lst ((allT sg n).map V.str)) = H20 at s20 eA3 hc20 nL ⊢
    refine lc_draw (c := c) hc20 nL eA3 (Nat.lt_of_le_of_lt lA (by decide)) (fun _ => rfl) hAc ?_ ?_
    · intro i t H7 ht hc7 Q' q'
      refine ⟨_, rfl, _, rfl, c, 7, rfl, hc7, by decide, small9000 (by decide) (by decide), fun r H8 r0 r1 hc8 b8 => ⟨_, _, rfl, rfl, (by show 2 ≤ sizeLine; decide), fun b nb => ?_⟩⟩
      have s9 := same_upd (o := .tup [V.str t, V.int (r - 3)]) nb
      exact q' b (r - 3) _ (hc8.same s9) (b8.trans (But.of s9)) upd_same (by omega) (by omega)
    intro H21 ps2 E8 hc21 b21 e21 r21 k21 q21
    have nd8 : (E8.map (·.1)).Nodup := by
      rw [k21]
      exact List.Pairwise.map cds (fun a b n e => n (cds_ext e)) ndA
    refine ⟨L, ps2, kvS E8, rfl, SqL.of e21, paired_of r21, fun dk ndk => ?_⟩
    rw [merge_new (by rw [List.nil_append]; exact keys_kvS nd8), List.nil_append]
    have s22 := same_upd (o := .dK (kvS E8)) ndk
    have hD22 : (upd H21 dk (.dK (kvS E8))) dk = some (.dK (kvS E8)) := upd_same
    have e18 := b21 _ _ hcH (s20 _ _ hG18)
    have hG22 : HeapAt (upd H21 dk (.dK (kvS E8))) dH G := s22 _ _ e18
    have hc22 := hc21.same s22
    have T22 := (tabs_but hc20 b21 (T18.ext s20)).ext s22
    have b22 : ButN c H (upd H21 dk (.dK (kvS E8))) := b18.trans (ButN.of (((But.of s20).trans b21).trans (But.of s22)))
    have hKH : dk ≠ dH := fun y => by
      rw [← y, ndk] at e18
      cases e18
    generalize upd H21 dk (.dK (kvS E8)) = H22 at hD22 hG22 hc22 T22 b22 ⊢
    clear s22 ndk r21 e21 b21 hc21 nL eA3 hAc s20 n3 hc20 hG18 hc18 T18 b18 e18 s19 e19 n2 e1 n1 eA hval
    dsimp only [tSeq, gName]
    refine ⟨_, rfl, _, rfl, T22, fun H23 e23 T23 fl fo cl nf23 nf22 hl hco L SA => ?_⟩
    have eF : (upd H23 fl (Lp.PinO fo)) fl = some (Lp.PinO fo) := upd_same
    have C := SA.at eF
    have LK := Lp.lam_ok (k := 3) (j := 10) (a := "_law_line_here") C hl (Lp.lamS1_by (sc := defScope sRight) (a := "_law_line_here") (by decide +kernel)) scRt.nd rfl (fun _ _ _ _ _ _ => rfl) (fun A' outer' s' H' hr' => pe_dget (hu_of hr') (pv 6) (pv 10) (fun _ _ => rfl))
    have hco23 : (upd H23 fl (Lp.PinO fo)) cl = some (LamX.CodeO cl qRt) := same_upd nf23 _ _ hco
    have hD23 : H23 dk = some (.dK (kvS E8)) := e23 _ _ hD22 fun ps z => nomatch z
    have inK : ∀ y, upTo sg n y → (y, Ty.gtD E8 y) ∈ E8 := fun y hy => by
      have h1 : y ∈ E8.map (·.1) := by
        rw [k21]
        exact List.mem_map.mpr ⟨tx y, (laysAll n y hy.2).1 hy.1, rfl⟩
      obtain ⟨u, hu, rfl⟩ := List.mem_map.mp h1
      rw [gt_mem nd8 hu]
      exact hu
    refine ⟨sg, n, fl, Ty.gtD E8, rfl, hsg, okn, ⟨(fl, fo) :: L, cl, _, _, LK, ⟨Lp.pinned_cons SA.clear eF, Lp.pin_some SA.clear hco23⟩, fun y H13 QQ s13 hy hQ => ?_⟩, fun y hy => ?_, fun dt H24 s24 ndt hT24 => ?_⟩
    · exact ⟨_, rfl, _, rfl, _, rfl, dk, _, rfl, .inl ⟨_, _, .inl (keepN nf23 SA.clear s13 _ _ hD23), rfl, gt_kv nd8 (inK _ hy)⟩, hQ _ (Same.refl _)⟩
    · have := q21 _ (inK y hy)
      exact ⟨by have := this.1; show _ < Ty.gtD E8 y; omega, by have := this.2; show Ty.gtD E8 y < _; omega⟩
    obtain ⟨ot, ndt⟩ := pin_none ndt
    have hT25 : Lp.unp L H24 dt = some (.dK (kvS (wtsD (Ty.gtD E8) sg n))) := by rw [Lp.unp_off ot]; exact hT24
    have s25 := (same_upd (o := Lp.PinO fo) nf23).trans (Lp.same_unp SA.clear s24)
    dsimp only
    generalize Lp.unp L H24 = H25 at s25 hT25 ⊢
    clear LK C eF SA hco23 hl hco
    have x25 := e23.trans (LamX.ExtN.of s25)
    have T25 := T23.ext s25
    have hK25 : H25 dk = some (.dK (kvS E8)) := x25 _ _ hD22 fun ps z => nomatch z
    have hG25 : HeapAt H25 dH G := x25 _ _ hG22 fun ps z => nomatch z
    have hc25 := hc22.ext x25
    have b25 := b22.trans (ButN.ext x25)
    have hTK : dt ≠ dk := fun y => by
      have h1 := (same_upd (o := Lp.PinO fo) nf23) _ _ hD23
      rw [← y, ndt] at h1
      cases h1
    have hTH : dt ≠ dH := fun y => by
      have h1 := (same_upd (o := Lp.PinO fo) nf23) _ _ (e23 _ _ hG22 fun ps z => nomatch z)
      rw [← y, ndt] at h1
      cases h1
    clear x25 s25 T23 e23 hD23 hD22 hG22 hc22 b22 T22 nf23 nf22 hT24 s24 ndt ot
    dsimp only [tSeq, gName]
    refine ⟨dk, _, hK25, (by unfold Mut; simp), fun od => ?_⟩
    have off : ∀ b o, b ≠ dk → H25 b = some o → (upd H25 dk (.frz od (.dK (kvS E8)))) b = some o := fun b o n e => by rw [upd_ne n]; exact e
    have ed : (upd H25 dk (.frz od (.dK (kvS E8)))) dk = some (.frz od (.dK (kvS E8))) := upd_same
    have hT26 := off _ _ hTK hT25
    have bk : ∀ b o, (upd H25 dk (.frz od (.dK (kvS E8)))) b = some o → b ≠ dk → H25 b = some o := fun b o e n => by rw [upd_ne n] at e; exact e
    generalize upd H25 dk (.frz od (.dK (kvS E8))) = H26 at off ed hT26 bk ⊢
    have okW : okH (wtsD (Ty.gtD E8) sg n) := wts_ok ⟨ndA, lA⟩ (by omega)
    have kE : ∀ i (h : i < E8.length), upTo sg n E8[i].1 := fun i h => by
      refine mem_up ?_
      rw [← k21]
      exact List.mem_map.mpr ⟨_, List.getElem_mem h, rfl⟩
    have lE : E8.length ≤ 20 := by
      have := congrArg List.length k21
      rw [List.length_map, List.length_map] at this
      omega
    refine ⟨_, rfl, dk, od, rfl, .inl ⟨_, ed, fun L nL => ?_⟩⟩
    refine Lc.lc_keys (fun i H2 => Same H26 H2 ∧ H2 L = some (.lst [])) ⟨same_upd nL, upd_same⟩ (fun i H2 z => z.1 _ _ ed) ?_ ?_
    · rintro i k v H2 hk ⟨s2, e2⟩
      have hi := (List.getElem?_eq_some_iff.mp hk).1
      rw [List.length_map] at hi
      rw [List.getElem?_map, List.getElem?_eq_getElem hi] at hk
      cases hk
      have hu1 := kE i hi
      refine ⟨rfl, _, rfl, _, rfl, dt, tx E8[i].1, wtsD (Ty.gtD E8) sg n, rfl, s2 _ _ hT26, okW, by rw [tx_len]; exact Nat.le_trans hu1.1 (by omega), fun H3 s3 => ?_⟩
      have G1 : DGet H3 dk (kV (Sum.inr (tx E8[i].1))) (some (.int E8[i].2)) := .inl ⟨_, _, .inr ⟨od, s3 _ _ (s2 _ _ ed)⟩, rfl, (val_nd nd8 (List.getElem_mem hi)).symm⟩
      refine ⟨_, rfl, _, rfl, dk, _, rfl, G1, rfl, _, rfl, ?_⟩
      have ev : Ty.sm1 (Ty.gtD (wtsD (Ty.gtD E8) sg n)) (cds (tx E8[i].1)) = E8[i].2 := by
        show Ty.sm1 _ E8[i].1 = _
        rw [wts_sum ndA hu1, gt_mem nd8 (List.getElem_mem hi)]
      rw [ev]
      exact ne_if ⟨s2.trans s3, s3 _ _ e2⟩
    rintro H2 ⟨s2, e2⟩
    refine ⟨by decide, fun p np => ?_⟩
    have s27 := s2.trans (same_upd (o := .lst []) np)
    refine ⟨_, _, .lst (SqL.of (same_upd np _ _ e2)) .nil, .lst (SqL.of upd_same) .nil, rfl, rfl, _, rfl, iteF ?_⟩
    have hT27 := s27 _ _ hT26
    generalize upd H2 p (.lst []) = H27 at s27 hT27 ⊢
    refine ⟨_, rfl, dt, _, rfl, hT27, fun ql nq => ⟨ql, _, rfl, .inl (SqL.of upd_same), rfl, flat_kvS _, _, rfl, if_no wts_no0 ?_⟩⟩
    have s28 := s27.trans (same_upd (o := .lst ((kvS (wtsD (Ty.gtD E8) sg n)).map fun kv => kv.2)) nq)
    refine ⟨s28 _ _ ed, ?_⟩
    have s29 := same_back hK25 off s28
    generalize upd (upd H27 ql (.lst ((kvS (wtsD (Ty.gtD E8) sg n)).map fun kv => kv.2))) dk (.dK (kvS E8)) = H29 at s29 ⊢
    have hT29 := s29 _ _ hT25
    have hK29 := s29 _ _ hK25
    have hG29 : HeapAt H29 dH G := s29 _ _ hG25
    have hc29 := hc25.same s29
    have T29 := T25.ext s29
    have b29 := b25.trans (ButN.of (But.of s29))
    clear s29 s28 s27 hT27 nq np e2 s2 nL bk hT26 ed off hT25 hK25 hG25 hc25 T25 b25
    dsimp only [tSeq, gName]
    refine ⟨_, rfl, _, rfl, T29, fun H31 e31 T31 fl fo cl nf31 nf29 hl hco L SA => ?_⟩
    have eF : (upd H31 fl (Lp.PinO fo)) fl = some (Lp.PinO fo) := upd_same
    have C := SA.at eF
    have LK := Lp.lam_ok (k := 3) (j := 10) (a := "_law_line_here") C hl (Lp.lamS1_by (sc := defScope sRight) (a := "_law_line_here") (by decide +kernel)) scRt.nd rfl (fun _ _ _ _ _ _ => rfl) (fun A' outer' s' H' hr' => pe_op op_add (pe_dget (hu_of hr') (pv 6) (pv 10) (fun _ _ => rfl)) (pe_call GAt (hr'.mono (by decide)) (by rfl) DAt.m DAt.F.kp DAt.b .nil pass0 (pa_cons (pv 3) (pa_cons (pv 10) (pa_cons pe_non pa_nil)))))
    have hco31 : (upd H31 fl (Lp.PinO fo)) cl = some (LamX.CodeO cl qRt) := same_upd nf31 _ _ hco
    have hK31 : H31 dk = some (.dK (kvS E8)) := e31 _ _ hK29 fun ps z => nomatch z
    have hG31 : HeapAt H31 dH G := e31 _ _ hG29 fun ps z => nomatch z
    have hT31 : H31 dt = some (.dK (kvS (wtsD (Ty.gtD E8) sg n))) := e31 _ _ hT29 fun ps z => nomatch z
    refine ⟨sg, n, fl, fun y => Ty.gtD E8 y + Ty.sm1 (Ty.gtD G) y, rfl, hsg, okn, ⟨(fl, fo) :: L, cl, _, _, LK, ⟨Lp.pinned_cons SA.clear eF, Lp.pin_some SA.clear hco31⟩, fun y H13 QQ s13 hy hQ => ?_⟩, fun y hy => ?_, fun db H32 s32 ndb hB32 => ?_⟩
    · have kk := keepN nf31 SA.clear s13
      refine ⟨_, rfl, _, rfl, _, rfl, dk, _, rfl, .inl ⟨_, _, .inl (kk _ _ hK31), rfl, gt_kv nd8 (inK _ hy)⟩, ?_⟩
      refine ⟨_, rfl, _, rfl, dH, y, G, rfl, kk _ _ hG31, okG, ?_, fun H18 s18 => ⟨_, _, rfl, rfl, hQ H18 s18⟩⟩
      have h1 := hy.1
      rw [cds_len] at h1
      omega
    · have h1 := q21 _ (inK y hy)
      have h2 := sm_bd vG (Nat.le_trans hy.1 (show n ≤ 6 by omega))
      have := h1.1
      have := h1.2
      dsimp only at *
      constructor <;> omega
    obtain ⟨ob, ndb⟩ := pin_none ndb
    have hB33 : Lp.unp L H32 db = some (.dK (kvS (wtsD (fun y => Ty.gtD E8 y + Ty.sm1 (Ty.gtD G) y) sg n))) := by rw [Lp.unp_off ob]; exact hB32
    have s33 := (same_upd (o := Lp.PinO fo) nf31).trans (Lp.same_unp SA.clear s32)
    rw [both_eq ndA] at hB33
    generalize Lp.unp L H32 = H33 at s33 hB33 ⊢
    clear LK C eF SA hco31 hl hco
    have x33 := e31.trans (LamX.ExtN.of s33)
    have T33 := T31.ext s33
    have hK33 : H33 dk = some (.dK (kvS E8)) := x33 _ _ hK29 fun ps z => nomatch z
    have hG33 : HeapAt H33 dH G := x33 _ _ hG29 fun ps z => nomatch z
    have hT33 : H33 dt = some (.dK (kvS (wtsD (Ty.gtD E8) sg n))) := x33 _ _ hT29 fun ps z => nomatch z
    have hc33 := hc29.ext x33
    have b33 := b29.trans (ButN.ext x33)
    have hBK : db ≠ dk := fun y => by
      have h1 := (same_upd (o := Lp.PinO fo) nf31) _ _ hK31
      rw [← y, ndb] at h1
      cases h1
    clear x33 s33 T31 e31 hK31 hG31 hT31 hK29 hG29 hT29 hc29 b29 T29 nf31 nf29 hB32 s32 ndb ob
    dsimp only [tSeq, gName]
    refine ⟨dk, _, hK33, (by unfold Mut; simp), fun od => ?_⟩
    have off : ∀ b o, b ≠ dk → H33 b = some o → (upd H33 dk (.frz od (.dK (kvS E8)))) b = some o := fun b o n e => by rw [upd_ne n]; exact e
    have ed : (upd H33 dk (.frz od (.dK (kvS E8)))) dk = some (.frz od (.dK (kvS E8))) := upd_same
    have hT34 := off _ _ hTK hT33
    have hG34 := off _ _ hKH.symm hG33
    generalize upd H33 dk (.frz od (.dK (kvS E8))) = H34 at off ed hT34 hG34 ⊢
    refine ⟨_, rfl, dk, od, rfl, .inl ⟨_, ed, fun L nL => ?_⟩⟩
    have tup_keep : ∀ (H H' : Hp) (p : Addr) (x : Key × V), KT H H' → H p = some (.tup [kV x.1, x.2]) → H' p = some (.tup [kV x.1, x.2]) := fun H H' p x k h => k p _ h
    refine Lc.lcKR (R := fun (H : Hp) (p : Addr) (kv : Key × V) => H p = some (.tup [kV kv.1, kv.2])) tup_keep (fun _ => true) (fun kv => (kv.1, V.int (Ty.gtD (wtsD (Ty.gtD E8) sg n) (kcds kv.1) + Ty.gtD G (kcds kv.1)))) ed nL (by rw [List.length_map]; exact Nat.lt_of_le_of_lt lE (by decide)) (fun _ => rfl) (fun i k v H2 hk s2 TT hT => hT H2 (Same.refl _)) ?_ ?_
    · intro i k v H2 hk _ s2 Q' q'
      have hi := (List.getElem?_eq_some_iff.mp hk).1
      rw [List.length_map] at hi
      rw [List.getElem?_map, List.getElem?_eq_getElem hi] at hk
      cases hk
      have hT2 := s2 _ _ hT34
      have hG2 := s2 _ _ hG34
      refine ⟨_, rfl, _, rfl, dt, rfl, .inl ⟨_, .inl hT2⟩, _, rfl, _, DGet.k (k := (Sum.inr (tx E8[i].1) : Key)) hT2, ?_⟩
      refine ⟨_, rfl, dH, rfl, .inl ⟨_, .inl hG2⟩, _, rfl, _, DGet.k (k := (Sum.inr (tx E8[i].1) : Key)) hG2, ?_⟩
      dsimp only
      rw [valV_get, valV_get]
      refine ⟨_, _, rfl, rfl, (by show 2 ≤ sizeLine; decide), fun b nb => ?_⟩
      exact q' b _ (same_upd nb) upd_same
    intro H35 ps s35 e35 r35
    rw [kvS_map E8 fun y => Ty.gtD (wtsD (Ty.gtD E8) sg n) y + Ty.gtD G y] at r35
    have ndU : ((E8.map fun s => (s.1, Ty.gtD (wtsD (Ty.gtD E8) sg n) s.1 + Ty.gtD G s.1)).map (·.1)).Nodup := by
      rw [List.map_map]
      exact nd8
    have eU := due_eq (G := G) k21
    have lU : (E8.map fun s => (s.1, Ty.gtD (wtsD (Ty.gtD E8) sg n) s.1 + Ty.gtD G s.1)).length ≤ 20 := by rw [List.length_map]; exact lE
    generalize (E8.map fun s => (s.1, Ty.gtD (wtsD (Ty.gtD E8) sg n) s.1 + Ty.gtD G s.1)) = U at r35 ndU eU lU
    refine ⟨L, ps, kvS U, rfl, SqL.of e35, paired_of r35, fun du ndu => ?_⟩
    rw [merge_new (by rw [List.nil_append]; exact keys_kvS ndU), List.nil_append]
    have s36 := s35.trans (same_upd (o := .dK (kvS U)) ndu)
    have hU36 : (upd H35 du (.dK (kvS U))) du = some (.dK (kvS U)) := upd_same
    generalize upd H35 du (.dK (kvS U)) = H36 at s36 hU36 ⊢
    have eK36 := s36 _ _ ed
    refine ⟨eK36, ?_⟩
    have s37 := same_back hK33 off s36
    have hUK : du ≠ dk := fun y => by
      rw [y, eK36] at hU36
      cases hU36
    have hU37 : (upd H36 dk (.dK (kvS E8))) du = some (.dK (kvS U)) := by rw [upd_ne hUK]; exact hU36
    generalize upd H36 dk (.dK (kvS E8)) = H37 at s37 hU37 ⊢
    have hB37 := s37 _ _ hB33
    have hc37 := hc33.same s37
    have T37 := T33.ext s37
    have b37 := b33.trans (ButN.of (But.of s37))
    have hUB : du ≠ db := fun y => by
      have h1 := off _ _ hBK hB33
      have h2 := s35 _ _ h1
      rw [← y, ndu] at h2
      cases h2
    clear s37 hU36 eK36 s36 ndu r35 e35 s35 nL hG34 hT34 ed off hB33 hK33 hG33 hT33 hc33 T33 b33
    dsimp only [tSeq, gName]
    refine ⟨du, _, hU37, (by unfold Mut; simp), fun od => ?_⟩
    have off : ∀ b o, b ≠ du → H37 b = some o → (upd H37 du (.frz od (.dK (kvS U)))) b = some o := fun b o n e => by rw [upd_ne n]; exact e
    have ed : (upd H37 du (.frz od (.dK (kvS U)))) du = some (.frz od (.dK (kvS U))) := upd_same
    have hB38 := off _ _ hUB.symm hB37
    generalize upd H37 du (.frz od (.dK (kvS U))) = H38 at off ed hB38 ⊢
    refine ⟨_, rfl, _, rfl, du, od, rfl, .inl ⟨_, ed, fun L nL => ?_⟩⟩
    have gU : ∀ (i : Nat) (k : Key) (v : V) (H2 : Hp), (kvS U)[i]? = some (k, v) → Same H38 H2 → DGet H2 du (kV k) (some v) := fun i k v H2 hk s2 => by
      have hm := List.mem_of_getElem? hk
      obtain ⟨s, hs, e⟩ := List.mem_map.mp hm
      cases e
      exact .inl ⟨_, _, .inr ⟨od, s2 _ _ ed⟩, rfl, (val_nd ndU hs).symm⟩
    refine Lc.lcKR (R := fun (H : Hp) (p : Addr) (kv : Key × V) => H p = some (.tup [kV kv.1, kv.2])) tup_keep (fun kv => !decide (kv.2 = V.int 0)) (fun kv => kv) ed nL (by rw [List.length_map]; exact Nat.lt_of_le_of_lt lU (by decide)) (fun _ => rfl) (fun i k v H2 hk s2 TT hT => ?_) ?_ ?_
    · have G1 := gU i k v H2 hk s2
      obtain ⟨s, hs, e⟩ := List.mem_map.mp (List.mem_of_getElem? hk)
      cases e
      exact ⟨_, rfl, _, rfl, du, _, rfl, G1, rfl, _, rfl, hT H2 (Same.refl _)⟩
    · intro i k v H2 hk _ s2 Q' q'
      refine ⟨_, rfl, _, rfl, _, rfl, du, _, rfl, gU i k v H2 hk s2, (by show 2 ≤ sizeLine; decide), fun b nb => ?_⟩
      exact q' b _ (same_upd nb) upd_same
    intro H39 ps s39 e39 r39
    rw [kvS_nz] at r39
    have ndF : ((U.filter nzS).map (·.1)).Nodup := List.Nodup.sublist (List.Sublist.map _ List.filter_sublist) ndU
    refine ⟨L, ps, kvS (U.filter nzS), rfl, SqL.of e39, paired_of r39, fun df ndf => ?_⟩
    rw [merge_new (by rw [List.nil_append]; exact keys_kvS ndF), List.nil_append]
    have s40 := s39.trans (same_upd (o := .dK (kvS (U.filter nzS))) ndf)
    have hF40 : (upd H39 df (.dK (kvS (U.filter nzS)))) df = some (.dK (kvS (U.filter nzS))) := upd_same
    generalize upd H39 df (.dK (kvS (U.filter nzS))) = H40 at s40 hF40 ⊢
    have hB40 := s40 _ _ hB38
    rw [← eU] at hB40
    refine ⟨db, df, _, _, rfl, rfl, hB40, hF40, rfl, val_all ndF, ?_⟩
    refine ⟨s40 _ _ ed, ?_⟩
    have s41 := same_back hU37 off s40
    exact q _ (b37.trans (ButN.of (But.of s41))) (hc37.same s41) (T37.ext s41)
end
end K6

set_option Elab.async false
set_option linter.all false
set_option maxRecDepth 100000
set_option maxHeartbeats 6400000
namespace K6
open PySem L2 Tx Tg Tm Da RZ Lc
theorem mulT_ok {z : Str} {n : Int} (hz : z.length ≤ 100) (h1 : 1 ≤ n) (h2 : n ≤ 100) : MulOk z n := by
  refine ⟨?_, fun _ _ => ?_, fun _ _ => ?_⟩
  · rw [decide_eq_false (by omega), decide_eq_false (by omega)]
    rfl
  · have : (100 : Int) ≤ (2 ^ 63 - 1) / n := Int.le_ediv_of_mul_le (by omega) (by omega)
    omega
  · have e : PySem.Builtin.Str.tooLong (z.length * n.toNat) = decide (z.length * n.toNat > sizeLine) := rfl
    rw [e]
    refine decide_eq_false ?_
    have := Nat.mul_le_mul hz (show n.toNat ≤ 100 by omega)
    rw [sizeLine_eq]
    omega
section
variable {X : Cx}
theorem op_mulV : OpR X (binaryOp .Mult) (fun x y H Q => ∃ (z : Str) (n : Int), x = .str z ∧ y = .int n ∧ z.length ≤ 100 ∧ 1 ≤ n ∧ n ≤ 100 ∧ Q (.str (Txt.mul z n)) H) := by
  intro pins s σ H x y v u Q I rx ry h
  obtain ⟨z, n, rfl, rfl, hz, h1, h2, q⟩ := h
  obtain ⟨t, rfl⟩ := rx
  obtain ⟨t', rfl⟩ := ry
  exact SB.mul (mulT_ok hz h1 h2) fun t2 k => ⟨.str (Txt.mul z n), H, I.tok _, ⟨t2, rfl⟩, q⟩
end
/-! ### the law -/
abbrev qLaw : Str := ("law" : Str) ++ ".<locals>." ++ "<lambda>"
abbrev nLaw : List Str := ["_law_script", "_law_at_here", "_law_told", "_law_line_here"]
def spLaw (K : PySem.W.Frag) (T0 : List (Addr × Str)) : Sp := fun vs H Q _ => ∃ (a : Addr) (ns : List Int), vs = [.ref a] ∧ SqL K H a (ns.map V.int) ∧ ns.length ≤ 63 ∧ LamX.Tabs T0 H ∧ ∀ H', Q (.bl true) H'
theorem scLaw : FnScope nLaw ["_law_script"] (defScope sLaw) := ⟨rfl, rfl, rfl, by decide +kernel, rfl, by decide +kernel, by decide +kernel⟩
/-- a list of the script stays where all but the tables stays -/
theorem seq_ext {K : PySem.W.Frag} {H H' : Hp} {a : Addr} {xs : List V} (s : LamX.ExtN H H') (h : SqL K H a xs) : SqL K H' a xs := by
  rcases h with (e | ⟨o, e⟩) | r
  · exact .inl (.inl (s _ _ e fun ps z => nomatch z))
  · exact .inl (.inr ⟨o, s _ _ e fun ps z => nomatch z⟩)
  · exact .inr r
abbrev gCnt : List Nat → Int := fun y => (Txt.count (tx y) "a" : Int) * (Txt.count (tx y) "b" : Int)
abbrev gLen : List Nat → Int := fun y => ((tx y).length : Int) * ((tx y).length : Int)
abbrev g12 : List Nat → Int := fun y => if V.int ((tx y).length : Int) = V.int 12 then 1 else 0
theorem cnt_fin : ∀ y ∈ (Ty.sels (cds "ab")).map (·.1), (-(2 ^ 64) < (Txt.count (tx y) "b" : Int) ∧ (Txt.count (tx y) "b" : Int) < 2 ^ 64) ∧ -(2 ^ 64) < gCnt y ∧ gCnt y < 2 ^ 64 := by decide +kernel
theorem cnt_wt : Ty.wt gCnt (cds "ab") = 1 := by decide +kernel
theorem len_fin : ∀ y : List Nat, y.length ≤ 4 → -(2 ^ 64) < gLen y ∧ gLen y < 2 ^ 64 := fun y hy => by
  show -(2 ^ 64) < ((tx y).length : Int) * ((tx y).length : Int) ∧ ((tx y).length : Int) * ((tx y).length : Int) < 2 ^ 64
  rw [tx_len]
  have h1 : y.length * y.length ≤ 4 * 4 := Nat.mul_le_mul hy hy
  constructor <;> omega
theorem len_wt : Ty.wt gLen (cds "aa") = 2 := by decide +kernel
theorem len_wts : wtsD gLen "a" 4 = [([97], 1), ([97, 97], 2)] := by decide +kernel
theorem five_wts : wtsD (fun _ => 5) "ab" 0 = [([], 5)] := by decide +kernel
theorem t12 : Txt.mul "a" 12 = "aaaaaaaaaaaa" := by decide +kernel
theorem t12_wt : Ty.wt g12 (cds "aaaaaaaaaaaa") = 1 := by decide +kernel
theorem over_ok {sg z : Str} (h : (cds z).all (fun c => (cds sg).contains c) = true) : Over sg z := fun c hc => by
  have := List.all_eq_true.mp h c hc
  simpa using this
theorem subs_len {z : Str} {y : List Nat} (h : subs z y) : y.length ≤ z.length := by
  obtain ⟨s, hs, rfl⟩ := List.mem_map.mp h
  exact Nat.le_trans (sels_sub s hs).1 (by rw [cds_len]; exact Nat.le_refl _)
theorem tabs_lst {T : List (Addr × Str)} {a : Addr} {xs ys : List V} {H : Hp} (e : H a = some (.lst xs)) (h : LamX.Tabs T H) : LamX.Tabs T (upd H a (.lst ys)) := fun p hp => by
  obtain ⟨ps, e1, tr, kn⟩ := h p hp
  refine ⟨ps, by rw [upd_ne (fun z => by rw [z, e] at e1; cases e1)]; exact e1, tr, fun pos cv h => ?_⟩
  obtain ⟨c', e2, e3⟩ := kn pos cv h
  exact ⟨c', e2, by rw [upd_ne (fun z => by rw [z, e] at e3; cases e3)]; exact e3⟩
section
variable {P : Program} {w : World} {K : PySem.W.Frag} {mg : Str → Option Value} {base : Heap}
theorem ok_law {f fC fR fW fWs cL Pt : Addr} {fd dC dR dW dWs : FuncData} {T0 : List (Addr × Str)} (F : Lp.FunC K "law" sLaw f fd cL) (TB : LamX.TabB base mg cL Pt) (hm : (Pt, qLaw) ∈ T0) (hu0 : ∀ p ∈ T0, p.1 = Pt → p.2 = qLaw) (T : Txt K mg)
    (DC : Df K mg "_law_cup" sCup ["_law_script", "_law_at_here"] fC dC) (DR : Df K mg "_law_right" sRight ["_law_cup_here"] fR dR) (DW : Df K mg "weight" sWeight ["letters", "pattern", "call"] fW dW) (DWs : Df K mg "weights_up_to" sWeights ["letters", "depth", "call"] fWs dWs)
    (GC : FnOk P w K mg base CX0 1 fC dC ["_law_script", "_law_at_here"] (spCup K)) (GR : FnOk P w K mg base CX0 7 fR dR ["_law_cup_here"] (spRt T0)) (GW : FnOk P w K mg base CX0 6 fW dW ["letters", "pattern", "call"] (spWt P w K mg base)) (GWs : FnOk P w K mg base CX0 6 fWs dWs ["letters", "depth", "call"] (spWts P w K mg base)) :
    FnOk P w K mg base CX0 8 f fd ["_law_script"] (spLaw K T0) := by
  refine F.ok scLaw (fun vs H Q E h => ?_) (fun A outer s H vs Q E hr h => ?_)
  · obtain ⟨a, ns, rfl, _⟩ := h
    rfl
  · obtain ⟨a, ns, rfl, hS, hlen, hT, q⟩ := h
    have hu := hu_of hr
    refine ⟨_, (pss_cons (ps_for PassesOwn.never rfl (pi_range1 rfl T.range (pa_cons (pe_callB (call_max2 rfl) (by rfl) T.max (by decide +kernel) (pa_cons pe_int (pa_cons (pe_callB (call_min2 rfl) (by rfl) T.min (by decide +kernel) (pa_cons pe_int (pa_cons (pe_callB call_len (by rfl) T.len PySem.boot_len (pa_cons (pv 0) pa_nil)) pa_nil))) pa_nil))) pa_nil)) (pg_name (i := 1) scLaw.nd rfl (Or.inl rfl))
      (pss_one (ps_if (pt_not (pt_val (pe_call GR (hr.mono (by decide)) (by rfl) DR.m DR.F.kp DR.b .nil pass0 (pa_cons (pe_call GC (hr.mono (by decide)) (by rfl) DC.m DC.F.kp DC.b .nil pass0 (pa_cons (pv 0) (pa_cons (pv 1) pa_nil))) pa_nil)))) (pss_one (ps_ret pe_bl)) pss_nil)))
    (pss_cons (ps_set (i := 2) scLaw.nd rfl (Or.inl rfl) (pe_lst (pa_cons (Lp.pe_callp GW (hr.mono (by decide)) (by rfl) DW.m DW.F.kp DW.b (fun _ => rfl) (pa_cons pe_str (pa_cons pe_str (pa_cons (Lp.pe_lam (T := T0) (Lp.lamS1_by (sc := defScope sLaw) (a := "_law_line_here") (by decide +kernel)) TB rfl hm hu0) pa_nil)))) pa_nil)))
    (pss_cons (ps_expr (pe_bm PySem.F.plainAttrs_list PySem.F.slot_list_append PySem.F.type_list_append mt_append (pv 2) (pa_cons (Lp.pe_callp GW (hr.mono (by decide)) (by rfl) DW.m DW.F.kp DW.b (fun _ => rfl) (pa_cons pe_str (pa_cons pe_str (pa_cons (Lp.pe_lam (T := T0) (Lp.lamS1_by (sc := defScope sLaw) (a := "_law_line_here") (by decide +kernel)) TB rfl hm hu0) pa_nil)))) pa_nil)))
    (pss_cons (ps_expr (pe_bm PySem.F.plainAttrs_list PySem.F.slot_list_append PySem.F.type_list_append mt_append (pv 2) (pa_cons (Lp.pe_callp GWs (hr.mono (by decide)) (by rfl) DWs.m DWs.F.kp DWs.b (fun _ => rfl) (pa_cons pe_str (pa_cons pe_int (pa_cons (Lp.pe_lam (T := T0) (Lp.lamS1_by (sc := defScope sLaw) (a := "_law_line_here") (by decide +kernel)) TB rfl hm hu0) pa_nil)))) pa_nil)))
    (pss_cons (ps_expr (pe_bm PySem.F.plainAttrs_list PySem.F.slot_list_append PySem.F.type_list_append mt_append (pv 2) (pa_cons (Lp.pe_callp GWs (hr.mono (by decide)) (by rfl) DWs.m DWs.F.kp DWs.b (fun _ => rfl) (pa_cons pe_str (pa_cons pe_int (pa_cons (Lp.pe_lam (T := T0) (Lp.lamS1_by (sc := defScope sLaw) (a := "_law_line_here") (by decide +kernel)) TB rfl hm hu0) pa_nil)))) pa_nil)))
    (pss_cons (ps_expr (pe_bm PySem.F.plainAttrs_list PySem.F.slot_list_append PySem.F.type_list_append mt_append (pv 2) (pa_cons (Lp.pe_callp GW (hr.mono (by decide)) (by rfl) DW.m DW.F.kp DW.b (fun _ => rfl) (pa_cons pe_str (pa_cons (pe_op op_mulV pe_str pe_int) (pa_cons (Lp.pe_lam (T := T0) (Lp.lamS1_by (sc := defScope sLaw) (a := "_law_line_here") (by decide +kernel)) TB rfl hm hu0) pa_nil)))) pa_nil)))
    (pss_one (ps_ret (pe_cmpR (op_eqV hr.units) (pv 2) (pe_lst (pa_cons pe_int (pa_cons pe_int (pa_cons (pe_disp (pps_cons pe_str pe_int (pps_cons pe_str pe_int pps_nil)) (by rfl) (by rfl) (fun z => by cases z) (by decide)) (pa_cons (pe_disp (pps_cons pe_str pe_int pps_nil) (by rfl) (by rfl) (fun z => by cases z) (by decide)) (pa_cons pe_int pa_nil)))))) (nomark _)))))))))), ?_⟩
    have bj : ∀ n : Int, 0 ≤ n → n ≤ 63 → (-(2 ^ 62) ≤ (if (if n < 2 then n else 2) > 1 then (if n < 2 then n else 2) else 1) ∧ (if (if n < 2 then n else 2) > 1 then (if n < 2 then n else 2) else 1) < 2 ^ 62) ∧ (if (if n < 2 then n else 2) > 1 then (if n < 2 then n else 2) else (1 : Int)).toNat ≤ 2 := by
      intro n h0 h1
      repeat' split
      all_goals omega
    obtain ⟨⟨bj1, bj2⟩, bj3⟩ := bj ns.length (by omega) (by omega)
    refine ⟨_, rfl, _, ns.length, rfl, .inl ⟨_, hS, by rw [List.length_map]⟩, _, _, rfl, _, _, rfl, _, rfl, bj1, bj2, for_range (n := _) (fun i σ H1 => ∃ u1 : Option V, σ = [some (.ref a), u1, none, none] ∧ SqL K H1 a (ns.map V.int) ∧ LamX.Tabs T0 H1)
      ⟨none, rfl, hS, hT⟩ ?_ ?_⟩
    · rintro k σ H1 hk ⟨u1, rfl, hS1, hT1⟩
      have hk3 : k < 2 := Nat.lt_of_lt_of_le hk bj3
      refine ⟨_, rfl, _, rfl, a, ns, k, congrArg (fun z => [V.ref a, V.int z]) (Int.zero_add _), hS1, hlen, by omega, fun c H2 nc s2 hc2 => ?_⟩
      refine ⟨c, rfl, hc2, hT1.ext s2, fun H3 b3 hc3 hT3 => ⟨_, rfl, iteF ?_⟩⟩
      refine ⟨_, rfl, ?_, hT3⟩
      refine seq_ext (H := H1) (fun b o e t => ?_) hS1
      exact b3 _ _ (ne_of_none e nc) (s2 _ _ e) t
    rintro σ H1 ⟨u1, rfl, _, hT1⟩
    clear hT hS
    dsimp only [tSeq, gName]
    refine ⟨hT1, fun Hc ec Tc fl fo cl nfc nf1 hl hco L SA => ?_⟩
    have eF : (upd Hc fl (Lp.PinO fo)) fl = some (Lp.PinO fo) := upd_same
    have C := SA.at eF
    have LK := Lp.lam_ok (k := 3) (j := 3) (a := "_law_line_here") (tb := tOp (rI CMul fun i j => .int (i * j)) (tBM K "str" (fun x xs H Q => ∃ a b, x = .str a ∧ xs = [.str b] ∧ Q (.int (Txt.count a b)) H) (tVar 3) (tCons (tC (.str "a")) tNil)) (tBM K "str" (fun x xs H Q => ∃ a b, x = .str a ∧ xs = [.str b] ∧ Q (.int (Txt.count a b)) H) (tVar 3) (tCons (tC (.str "b")) tNil))) C hl (Lp.lamS1_by (sc := defScope sLaw) (a := "_law_line_here") (by decide +kernel)) scLaw.nd rfl (fun _ _ _ _ _ _ => rfl) (fun A' outer' s' H' hr' => pe_op op_mul (pe_bm PySem.F.plainAttrs_str PySem.F.slot_str_count PySem.F.type_str_count mt_count (pv 3) (pa_cons pe_str pa_nil)) (pe_bm PySem.F.plainAttrs_str PySem.F.slot_str_count PySem.F.type_str_count mt_count (pv 3) (pa_cons pe_str pa_nil)))
    have hco1 : (upd Hc fl (Lp.PinO fo)) cl = some (LamX.CodeO cl qLaw) := same_upd nfc _ _ hco
    refine ⟨"ab", "ab", fl, gCnt, rfl, .inl rfl, over_ok (by decide +kernel), by decide, ⟨(fl, fo) :: L, cl, _, _, LK, ⟨Lp.pinned_cons SA.clear eF, Lp.pin_some SA.clear hco1⟩, fun y Hd QQ sd hy hQ => ?_⟩, fun y hy => (cnt_fin y hy).2, fun Hd sd => ?_⟩
    · have b := (cnt_fin _ hy).1
      have hQ := hQ _ (Same.refl _)
      dsimp only [gCnt] at b hQ
      rw [tx_cds] at b hQ
      exact ⟨_, rfl, _, rfl, rfl, y, "a", rfl, rfl, _, rfl, rfl, y, "b", rfl, rfl, _, _, rfl, rfl, .inr b, hQ⟩
    have s1 := (same_upd (o := Lp.PinO fo) nfc).trans (Lp.same_unp SA.clear sd)
    dsimp only
    generalize Lp.unp L Hd = He at s1 ⊢
    have T1 := Tc.ext s1
    clear LK C eF SA hco1 hl hco
    rw [cnt_wt]
    refine ⟨by decide, fun AL nA => ?_⟩
    have T2 := T1.ext (same_upd (o := .lst [V.int 1]) nA)
    have e2 : (upd He AL (.lst [V.int 1])) AL = some (.lst [V.int 1]) := upd_same
    generalize upd He AL (.lst [V.int 1]) = H2 at T2 e2 ⊢
    clear T1 s1 nA Tc ec nfc nf1 hT1
    dsimp only [tSeq, gName]
    refine ⟨_, rfl, .inl ⟨rfl, _, SqL.of e2⟩, T2, fun Hc ec Tc fl fo cl nfc nf1 hl hco L SA => ?_⟩
    have eF : (upd Hc fl (Lp.PinO fo)) fl = some (Lp.PinO fo) := upd_same
    have C := SA.at eF
    have LK := Lp.lam_ok (k := 3) (j := 3) (a := "_law_line_here")  C hl (Lp.lamS1_by (sc := defScope sLaw) (a := "_law_line_here") (by decide +kernel)) scLaw.nd rfl (fun _ _ _ _ _ _ => rfl) (fun A' outer' s' H' hr' => pe_op op_mul (pe_callB call_len_str (by rfl) T.len PySem.boot_len (pa_cons (pv 3) pa_nil)) (pe_callB call_len_str (by rfl) T.len PySem.boot_len (pa_cons (pv 3) pa_nil)))
    have hco1 : (upd Hc fl (Lp.PinO fo)) cl = some (LamX.CodeO cl qLaw) := same_upd nfc _ _ hco
    refine ⟨"a", "aa", fl, gLen, rfl, .inr (.inr (.inl rfl)), over_ok (by decide +kernel), by decide, ⟨(fl, fo) :: L, cl, _, _, LK, ⟨Lp.pinned_cons SA.clear eF, Lp.pin_some SA.clear hco1⟩, fun y Hd QQ sd hy hQ => ?_⟩, fun y hy => len_fin y (Nat.le_trans (subs_len hy) (by decide)), fun Hd sd => ?_⟩
    · have hQ := hQ _ (Same.refl _)
      have l4 : y.length ≤ 4 := by
        have := subs_len hy
        rw [cds_len] at this
        exact Nat.le_trans this (by decide)
      dsimp only [gLen] at hQ
      rw [tx_cds] at hQ
      exact ⟨_, rfl, _, rfl, y, rfl, Nat.le_trans l4 (by decide), _, rfl, y, rfl, Nat.le_trans l4 (by decide), _, _, rfl, rfl, .inr ⟨by omega, by omega⟩, hQ⟩
    have s1 := (same_upd (o := Lp.PinO fo) nfc).trans (Lp.same_unp SA.clear sd)
    dsimp only
    have e3 : Lp.unp L Hd AL = some (.lst [V.int 1]) := s1 _ _ (ec _ _ e2 fun ps z => nomatch z)
    generalize Lp.unp L Hd = He at s1 e3 ⊢
    have T3 := Tc.ext s1
    clear LK C eF SA hco1 hl hco
    rw [len_wt]
    refine ⟨AL, _, _, rfl, rfl, e3, Nat.lt_of_le_of_lt (show _ ≤ 10 by simp) (by decide), ?_⟩
    have e2 : (upd He AL (.lst ([V.int 1] ++ [V.int 2]))) AL = some (.lst ([V.int 1] ++ [V.int 2])) := upd_same
    have T2 : LamX.Tabs T0 (upd He AL (.lst ([V.int 1] ++ [V.int 2]))) := tabs_lst e3 T3
    generalize upd He AL (.lst ([V.int 1] ++ [V.int 2])) = H2 at T2 e2 ⊢
    clear T3 s1 e3 Tc ec nfc nf1
    dsimp only [tSeq, gName, List.append, List.cons_append, List.nil_append]
    refine ⟨_, rfl, .inl ⟨rfl, _, SqL.of e2⟩, T2, fun Hc ec Tc fl fo cl nfc nf1 hl hco L SA => ?_⟩
    have eF : (upd Hc fl (Lp.PinO fo)) fl = some (Lp.PinO fo) := upd_same
    have C := SA.at eF
    have LK := Lp.lam_ok (k := 3) (j := 3) (a := "_law_line_here")  C hl (Lp.lamS1_by (sc := defScope sLaw) (a := "_law_line_here") (by decide +kernel)) scLaw.nd rfl (fun _ _ _ _ _ _ => rfl) (fun A' outer' s' H' hr' => pe_op op_mul (pe_callB call_len_str (by rfl) T.len PySem.boot_len (pa_cons (pv 3) pa_nil)) (pe_callB call_len_str (by rfl) T.len PySem.boot_len (pa_cons (pv 3) pa_nil)))
    have hco1 : (upd Hc fl (Lp.PinO fo)) cl = some (LamX.CodeO cl qLaw) := same_upd nfc _ _ hco
    have ea := same_upd (o := Lp.PinO fo) nfc _ _ (ec _ _ e2 fun ps z => nomatch z)
    refine ⟨"a", 4, fl, gLen, rfl, .inr (.inr (.inl rfl)), by decide, ⟨(fl, fo) :: L, cl, _, _, LK, ⟨Lp.pinned_cons SA.clear eF, Lp.pin_some SA.clear hco1⟩, fun y Hd QQ sd hy hQ => ?_⟩, fun y hy => len_fin y hy.1, fun d1 Hd sd nd hd => ?_⟩
    · have hQ := hQ _ (Same.refl _)
      have l4 : y.length ≤ 4 := by
        have := hy.1
        rw [cds_len] at this
        exact this
      dsimp only [gLen] at hQ
      rw [tx_cds] at hQ
      exact ⟨_, rfl, _, rfl, y, rfl, Nat.le_trans l4 (by decide), _, rfl, y, rfl, Nat.le_trans l4 (by decide), _, _, rfl, rfl, .inr ⟨by omega, by omega⟩, hQ⟩
    obtain ⟨od, nd⟩ := pin_none nd
    have hd1 : Lp.unp L Hd d1 = some (.dK (kvS (wtsD gLen "a" 4))) := by rw [Lp.unp_off od]; exact hd
    rw [len_wts] at hd1
    have s1 := (same_upd (o := Lp.PinO fo) nfc).trans (Lp.same_unp SA.clear sd)
    dsimp only
    have nd1 : d1 ≠ AL := fun z => by
      rw [z, ea] at nd
      cases nd
    have e3 : Lp.unp L Hd AL = some (.lst ([V.int 1] ++ [V.int 2])) := s1 _ _ (ec _ _ e2 fun ps z => nomatch z)
    generalize Lp.unp L Hd = He at s1 e3 hd1 ⊢
    have T3 := Tc.ext s1
    clear LK C eF SA hco1 hl hco
    refine ⟨AL, _, _, rfl, rfl, e3, Nat.lt_of_le_of_lt (show _ ≤ 10 by simp) (by decide), ?_⟩
    have hd1 := (upd_ne (o := .lst (([V.int 1] ++ [V.int 2]) ++ [V.ref d1])) nd1).trans hd1
    have e2 : (upd He AL (.lst (([V.int 1] ++ [V.int 2]) ++ [V.ref d1]))) AL = some (.lst (([V.int 1] ++ [V.int 2]) ++ [V.ref d1])) := upd_same
    have T2 : LamX.Tabs T0 (upd He AL (.lst (([V.int 1] ++ [V.int 2]) ++ [V.ref d1]))) := tabs_lst e3 T3
    generalize upd He AL (.lst (([V.int 1] ++ [V.int 2]) ++ [V.ref d1])) = H2 at T2 e2 hd1 ⊢
    clear T3 s1 e3 Tc ec nfc nf1
    dsimp only [tSeq, gName, List.append, List.cons_append, List.nil_append]
    refine ⟨_, rfl, .inl ⟨rfl, _, SqL.of e2⟩, T2, fun Hc ec Tc fl fo cl nfc nf1 hl hco L SA => ?_⟩
    have eF : (upd Hc fl (Lp.PinO fo)) fl = some (Lp.PinO fo) := upd_same
    have C := SA.at eF
    have LK := Lp.lam_ok (k := 3) (j := 3) (a := "_law_line_here")  C hl (Lp.lamS1_by (sc := defScope sLaw) (a := "_law_line_here") (by decide +kernel)) scLaw.nd rfl (fun _ _ _ _ _ _ => rfl) (fun A' outer' s' H' hr' => pe_int)
    have hco1 : (upd Hc fl (Lp.PinO fo)) cl = some (LamX.CodeO cl qLaw) := same_upd nfc _ _ hco
    have ea := same_upd (o := Lp.PinO fo) nfc _ _ (ec _ _ e2 fun ps z => nomatch z)
    refine ⟨"ab", 0, fl, fun _ => 5, rfl, .inl rfl, by decide, ⟨(fl, fo) :: L, cl, _, _, LK, ⟨Lp.pinned_cons SA.clear eF, Lp.pin_some SA.clear hco1⟩, fun y Hd QQ sd hy hQ => ?_⟩, fun y hy => ⟨by show -(2 ^ 64) < (5 : Int); decide, by show (5 : Int) < 2 ^ 64; decide⟩, fun d2 Hd sd nd hd => ?_⟩
    · exact ⟨_, rfl, hQ _ (Same.refl _)⟩
    obtain ⟨od, nd⟩ := pin_none nd
    have hd2 : Lp.unp L Hd d2 = some (.dK (kvS (wtsD (fun _ => 5) "ab" 0))) := by rw [Lp.unp_off od]; exact hd
    rw [five_wts] at hd2
    have s1 := (same_upd (o := Lp.PinO fo) nfc).trans (Lp.same_unp SA.clear sd)
    dsimp only
    have nd2 : d2 ≠ AL := fun z => by
      rw [z, ea] at nd
      cases nd
    have e3 : Lp.unp L Hd AL = some (.lst ([V.int 1] ++ [V.int 2] ++ [V.ref d1])) := s1 _ _ (ec _ _ e2 fun ps z => nomatch z)
    have hd1 := s1 _ _ (ec _ _ hd1 fun ps z => nomatch z)
    generalize Lp.unp L Hd = He at s1 e3 hd2 hd1 ⊢
    have T3 := Tc.ext s1
    clear LK C eF SA hco1 hl hco
    refine ⟨AL, _, _, rfl, rfl, e3, Nat.lt_of_le_of_lt (show _ ≤ 10 by simp) (by decide), ?_⟩
    have hd2 := (upd_ne (o := .lst ([V.int 1] ++ [V.int 2] ++ [V.ref d1] ++ [V.ref d2])) nd2).trans hd2
    have hd1 := (upd_ne (o := .lst ([V.int 1] ++ [V.int 2] ++ [V.ref d1] ++ [V.ref d2])) nd1).trans hd1
    have e2 : (upd He AL (.lst ([V.int 1] ++ [V.int 2] ++ [V.ref d1] ++ [V.ref d2]))) AL = some (.lst ([V.int 1] ++ [V.int 2] ++ [V.ref d1] ++ [V.ref d2])) := upd_same
    have T2 : LamX.Tabs T0 (upd He AL (.lst ([V.int 1] ++ [V.int 2] ++ [V.ref d1] ++ [V.ref d2]))) := tabs_lst e3 T3
    generalize upd He AL (.lst ([V.int 1] ++ [V.int 2] ++ [V.ref d1] ++ [V.ref d2])) = H2 at T2 e2 hd1 hd2 ⊢
    clear T3 s1 e3 Tc ec nfc nf1
    dsimp only [tSeq, gName, List.append, List.cons_append, List.nil_append]
    refine ⟨_, rfl, .inl ⟨rfl, _, SqL.of e2⟩, "a", 12, rfl, rfl, by decide, by decide, by decide, T2, fun Hc ec Tc fl fo cl nfc nf1 hl hco L SA => ?_⟩
    have eF : (upd Hc fl (Lp.PinO fo)) fl = some (Lp.PinO fo) := upd_same
    have C := SA.at eF
    have LK := Lp.lam_ok (k := 3) (j := 3) (a := "_law_line_here")  C hl (Lp.lamS1_by (sc := defScope sLaw) (a := "_law_line_here") (by decide +kernel)) scLaw.nd rfl (fun _ _ _ _ _ _ => rfl) (fun A' outer' s' H' hr' => pe_callTy call_int1 (by rfl) T.int (by decide +kernel) (pa_cons (pe_cmpR op_eq (pe_callB call_len_str (by rfl) T.len PySem.boot_len (pa_cons (pv 3) pa_nil)) pe_int (nomark _)) pa_nil))
    have hco1 : (upd Hc fl (Lp.PinO fo)) cl = some (LamX.CodeO cl qLaw) := same_upd nfc _ _ hco
    rw [t12]
    refine ⟨"a", "aaaaaaaaaaaa", fl, g12, rfl, .inr (.inr (.inl rfl)), over_ok (by decide +kernel), by decide, ⟨(fl, fo) :: L, cl, _, _, LK, ⟨Lp.pinned_cons SA.clear eF, Lp.pin_some SA.clear hco1⟩, fun y Hd QQ sd hy hQ => ?_⟩, fun y hy => ?_, fun Hd sd => ?_⟩
    · have hQ := hQ _ (Same.refl _)
      have l4 : y.length ≤ 12 := by
        have := subs_len hy
        rw [cds_len] at this
        exact Nat.le_trans this (by decide)
      dsimp only [g12] at hQ
      rw [tx_cds] at hQ
      refine ⟨_, rfl, _, rfl, y, rfl, Nat.le_trans l4 (by decide), rfl, .inr ⟨_, rfl, ?_⟩⟩
      simpa only [decide_eq_true_eq] using hQ
    · dsimp only [g12]
      split <;> decide
    have s1 := (same_upd (o := Lp.PinO fo) nfc).trans (Lp.same_unp SA.clear sd)
    dsimp only
    have e3 : Lp.unp L Hd AL = some (.lst ([V.int 1] ++ [V.int 2] ++ [V.ref d1] ++ [V.ref d2])) := s1 _ _ (ec _ _ e2 fun ps z => nomatch z)
    have hd1 := s1 _ _ (ec _ _ hd1 fun ps z => nomatch z)
    have hd2 := s1 _ _ (ec _ _ hd2 fun ps z => nomatch z)
    generalize Lp.unp L Hd = He at s1 e3 hd1 hd2 ⊢
    clear LK C eF SA hco1 hl hco
    rw [t12_wt]
    refine ⟨AL, _, _, rfl, rfl, e3, Nat.lt_of_le_of_lt (show _ ≤ 10 by simp) (by decide), ?_⟩
    have hd2 := (upd_ne (o := .lst ([V.int 1] ++ [V.int 2] ++ [V.ref d1] ++ [V.ref d2] ++ [V.int 1])) nd2).trans hd2
    have hd1 := (upd_ne (o := .lst ([V.int 1] ++ [V.int 2] ++ [V.ref d1] ++ [V.ref d2] ++ [V.int 1])) nd1).trans hd1
    have e2 : (upd He AL (.lst ([V.int 1] ++ [V.int 2] ++ [V.ref d1] ++ [V.ref d2] ++ [V.int 1]))) AL = some (.lst ([V.int 1] ++ [V.int 2] ++ [V.ref d1] ++ [V.ref d2] ++ [V.int 1])) := upd_same
    generalize upd He AL (.lst ([V.int 1] ++ [V.int 2] ++ [V.ref d1] ++ [V.ref d2] ++ [V.int 1])) = H2 at e2 hd1 hd2 ⊢
    clear s1 e3 Tc ec nfc nf1
    dsimp only [tSeq, gName, List.append, List.cons_append, List.nil_append] at e2 hd1 hd2 ⊢
    refine ⟨_, rfl, ?_⟩
    intro p1 np1
    refine ⟨upd_same, [((Sum.inr "a" : Key), V.int 1), (Sum.inr "aa", V.int 2)], rfl, by decide, ?_⟩
    have s1 := same_put (o := .dK (mergeK [] [((Sum.inr "a" : Key), V.int 1), (Sum.inr "aa", V.int 2)])) (same_upd (o := .dK []) np1) np1
    have e1 : (upd (upd H2 p1 (.dK [])) p1 (.dK (mergeK [] [((Sum.inr "a" : Key), V.int 1), (Sum.inr "aa", V.int 2)]))) p1 = some (.dK [((Sum.inr "a" : Key), V.int 1), (Sum.inr "aa", V.int 2)]) := by
      rw [upd_same]
      exact congrArg (fun z => some (HO.dK z)) (by rfl)
    generalize upd (upd H2 p1 (.dK [])) p1 (.dK (mergeK [] [((Sum.inr "a" : Key), V.int 1), (Sum.inr "aa", V.int 2)])) = H5 at s1 e1 ⊢
    intro p2 np2
    refine ⟨upd_same, [((Sum.inr "" : Key), V.int 5)], rfl, by decide, ?_⟩
    have s2 := same_put (o := .dK (mergeK [] [((Sum.inr "" : Key), V.int 5)])) (same_upd (o := .dK []) np2) np2
    have e2' : (upd (upd H5 p2 (.dK [])) p2 (.dK (mergeK [] [((Sum.inr "" : Key), V.int 5)]))) p2 = some (.dK [((Sum.inr "" : Key), V.int 5)]) := by
      rw [upd_same]
      exact congrArg (fun z => some (HO.dK z)) (by rfl)
    generalize upd (upd H5 p2 (.dK [])) p2 (.dK (mergeK [] [((Sum.inr "" : Key), V.int 5)])) = H6 at s2 e2' ⊢
    refine ⟨by show 5 ≤ sizeLine; decide, fun p3 np3 => ?_⟩
    have s3 := same_upd (o := .lst [V.int 1, V.int 2, V.ref p1, V.ref p2, V.int 1]) np3
    have t3 := s3 _ _ (s2 _ _ (s1 _ _ e2))
    have t4 := s3 _ _ (s2 _ _ (s1 _ _ hd1))
    have t5 := s3 _ _ (s2 _ _ (s1 _ _ hd2))
    have t6 := s3 _ _ (s2 _ _ e1)
    have t7 := s3 _ _ e2'
    refine ⟨3, by decide, .inl ⟨AL, p3, _, _, rfl, rfl, SqL.of t3, SqL.of upd_same, .cons (.inl ⟨rfl, rfl⟩) (.cons (.inl ⟨rfl, rfl⟩) (.cons (.inr (.inr (.inr ⟨d1, p1, _, _, rfl, rfl, t4, t6, rfl, fun p hp => ?_⟩))) (.cons (.inr (.inr (.inr ⟨d2, p2, _, _, rfl, rfl, t5, t7, rfl, fun p hp => ?_⟩))) (.cons (.inl ⟨rfl, rfl⟩) .nil))))⟩, q _⟩
    · rcases List.mem_cons.mp hp with rfl | hp
      · exact ⟨V.int 1, by rfl, .inl ⟨rfl, rfl⟩⟩
      · rw [List.mem_singleton.mp hp]
        exact ⟨V.int 2, by rfl, .inl ⟨rfl, rfl⟩⟩
    · rw [List.mem_singleton.mp hp]
      exact ⟨V.int 5, by rfl, .inl ⟨rfl, rfl⟩⟩
end
end K6

set_option Elab.async false
set_option linter.all false
set_option maxRecDepth 100000
set_option maxHeartbeats 6400000
namespace K6
open PySem L2 PyProof.Rows Tx Tg Tm Da
theorem df_mk {K : PySem.W.Frag} {h : Heap} {mg : Str → Option Value} {x : Str} {st : Stmt} {ps : List Str} {f : Addr} {oc kV dc pm cd ct : Value} {od an : Option Addr} {sl : Array (Option Value)} (X : K.In h) (G : h.Ns mainGlobals mg)
    (a : PySem.W.nsIn K mainGlobals x = some (some (.ref f))) (l : K.lookup f = some ⟨oc, od, .func (PySem.W.fnOf x x (defArgs st) (defBody st) (defScope st) .none kV dc pm an cd ct), sl⟩)
    (c : PySem.W.codeIn K cd x = true) (k : PySem.W.keepIn K (.ref f) = true)
    (hb : ∀ (kV doc pm : Value) (an : Option Addr) (cdv ct : Value) (us : List Value), us.length = ps.length → bindArgs (PySem.W.fnOf x x (defArgs st) (defBody st) (defScope st) .none kV doc pm an cdv ct) ⟨us, []⟩ = pure (ps.zip us)) :
    Df K mg x st ps f (PySem.W.fnOf x x (defArgs st) (defBody st) (defScope st) .none kV dc pm an cd ct) :=
  have F := fun_mk (st := st) l c k
  ⟨F, PySem.W.mg_of X G a, F.binds hb⟩
theorem kit_self {K : PySem.W.Frag} {C : Addr} : PySem.W.kitOne K (.ref C) (.ref C) = some true := by
  unfold PySem.W.kitOne
  rw [if_pos (beq_self_eq_true _)]
theorem all_mk {l : PySem.W.OpenLaw} {w : World} {K : PySem.W.Frag} {h : Heap} {mg : Str → Option Value} {fa  : Addr} (X : K.In h) (G : h.Ns mainGlobals mg) (hfa : mg "law" = some (.ref fa))
    (hx1 : ∃ n t, n = 10 ^ 200 ∧ mg "LEAST_TOO_LONG" = some (.int n t))
    {f1 : Addr} {od1 an1 : Option Addr} {sl1 : Array (Option Value)} {oc1 kV1 dc1 pm1 cd1 ct1 : Value}
    (a1 : PySem.W.nsIn K mainGlobals "is_integer" = some (some (.ref f1))) (l1 : K.lookup f1 = some ⟨oc1, od1, .func (PySem.W.fnOf "is_integer" "is_integer" (defArgs sInt) (defBody sInt) (defScope sInt) .none kV1 dc1 pm1 an1 cd1 ct1), sl1⟩) (c1 : PySem.W.codeIn K cd1 "is_integer" = true) (k1 : PySem.W.keepIn K (.ref f1) = true)
    {f2 : Addr} {od2 an2 : Option Addr} {sl2 : Array (Option Value)} {oc2 kV2 dc2 pm2 cd2 ct2 : Value}
    (a2 : PySem.W.nsIn K mainGlobals "is_letters" = some (some (.ref f2))) (l2 : K.lookup f2 = some ⟨oc2, od2, .func (PySem.W.fnOf "is_letters" "is_letters" (defArgs sLetters) (defBody sLetters) (defScope sLetters) .none kV2 dc2 pm2 an2 cd2 ct2), sl2⟩) (c2 : PySem.W.codeIn K cd2 "is_letters" = true) (k2 : PySem.W.keepIn K (.ref f2) = true)
    {f3 : Addr} {od3 an3 : Option Addr} {sl3 : Array (Option Value)} {oc3 kV3 dc3 pm3 cd3 ct3 : Value}
    (a3 : PySem.W.nsIn K mainGlobals "is_pattern" = some (some (.ref f3))) (l3 : K.lookup f3 = some ⟨oc3, od3, .func (PySem.W.fnOf "is_pattern" "is_pattern" (defArgs sPattern) (defBody sPattern) (defScope sPattern) .none kV3 dc3 pm3 an3 cd3 ct3), sl3⟩) (c3 : PySem.W.codeIn K cd3 "is_pattern" = true) (k3 : PySem.W.keepIn K (.ref f3) = true)
    {f4 : Addr} {od4 an4 : Option Addr} {sl4 : Array (Option Value)} {oc4 kV4 dc4 pm4 cd4 ct4 : Value}
    (a4 : PySem.W.nsIn K mainGlobals "check_letters" = some (some (.ref f4))) (l4 : K.lookup f4 = some ⟨oc4, od4, .func (PySem.W.fnOf "check_letters" "check_letters" (defArgs sCheck) (defBody sCheck) (defScope sCheck) .none kV4 dc4 pm4 an4 cd4 ct4), sl4⟩) (c4 : PySem.W.codeIn K cd4 "check_letters" = true) (k4 : PySem.W.keepIn K (.ref f4) = true)
    {f5 : Addr} {od5 an5 : Option Addr} {sl5 : Array (Option Value)} {oc5 kV5 dc5 pm5 cd5 ct5 : Value}
    (a5 : PySem.W.nsIn K mainGlobals "has_only" = some (some (.ref f5))) (l5 : K.lookup f5 = some ⟨oc5, od5, .func (PySem.W.fnOf "has_only" "has_only" (defArgs sHas) (defBody sHas) (defScope sHas) .none kV5 dc5 pm5 an5 cd5 ct5), sl5⟩) (c5 : PySem.W.codeIn K cd5 "has_only" = true) (k5 : PySem.W.keepIn K (.ref f5) = true)
    {f6 : Addr} {od6 an6 : Option Addr} {sl6 : Array (Option Value)} {oc6 kV6 dc6 pm6 cd6 ct6 : Value}
    (a6 : PySem.W.nsIn K mainGlobals "check_pattern" = some (some (.ref f6))) (l6 : K.lookup f6 = some ⟨oc6, od6, .func (PySem.W.fnOf "check_pattern" "check_pattern" (defArgs sCPattern) (defBody sCPattern) (defScope sCPattern) .none kV6 dc6 pm6 an6 cd6 ct6), sl6⟩) (c6 : PySem.W.codeIn K cd6 "check_pattern" = true) (k6 : PySem.W.keepIn K (.ref f6) = true)
    {f7 : Addr} {od7 an7 : Option Addr} {sl7 : Array (Option Value)} {oc7 kV7 dc7 pm7 cd7 ct7 : Value}
    (a7 : PySem.W.nsIn K mainGlobals "check_between" = some (some (.ref f7))) (l7 : K.lookup f7 = some ⟨oc7, od7, .func (PySem.W.fnOf "check_between" "check_between" (defArgs sCBetween) (defBody sCBetween) (defScope sCBetween) .none kV7 dc7 pm7 an7 cd7 ct7), sl7⟩) (c7 : PySem.W.codeIn K cd7 "check_between" = true) (k7 : PySem.W.keepIn K (.ref f7) = true)
    {f8 : Addr} {od8 an8 : Option Addr} {sl8 : Array (Option Value)} {oc8 kV8 dc8 pm8 cd8 ct8 : Value}
    (a8 : PySem.W.nsIn K mainGlobals "check_most" = some (some (.ref f8))) (l8 : K.lookup f8 = some ⟨oc8, od8, .func (PySem.W.fnOf "check_most" "check_most" (defArgs sCMost) (defBody sCMost) (defScope sCMost) .none kV8 dc8 pm8 an8 cd8 ct8), sl8⟩) (c8 : PySem.W.codeIn K cd8 "check_most" = true) (k8 : PySem.W.keepIn K (.ref f8) = true)
    {f9 : Addr} {od9 an9 : Option Addr} {sl9 : Array (Option Value)} {oc9 kV9 dc9 pm9 cd9 ct9 : Value}
    (a9 : PySem.W.nsIn K mainGlobals "all_texts" = some (some (.ref f9))) (l9 : K.lookup f9 = some ⟨oc9, od9, .func (PySem.W.fnOf "all_texts" "all_texts" (defArgs sAllT) (defBody sAllT) (defScope sAllT) .none kV9 dc9 pm9 an9 cd9 ct9), sl9⟩) (c9 : PySem.W.codeIn K cd9 "all_texts" = true) (k9 : PySem.W.keepIn K (.ref f9) = true)
    {f10 : Addr} {od10 an10 : Option Addr} {sl10 : Array (Option Value)} {oc10 kV10 dc10 pm10 cd10 ct10 : Value}
    (a10 : PySem.W.nsIn K mainGlobals "selections" = some (some (.ref f10))) (l10 : K.lookup f10 = some ⟨oc10, od10, .func (PySem.W.fnOf "selections" "selections" (defArgs sSelections) (defBody sSelections) (defScope sSelections) .none kV10 dc10 pm10 an10 cd10 ct10), sl10⟩) (c10 : PySem.W.codeIn K cd10 "selections" = true) (k10 : PySem.W.keepIn K (.ref f10) = true)
    {f11 : Addr} {od11 an11 : Option Addr} {sl11 : Array (Option Value)} {oc11 kV11 dc11 pm11 cd11 ct11 : Value}
    (a11 : PySem.W.nsIn K mainGlobals "alternating_sum" = some (some (.ref f11))) (l11 : K.lookup f11 = some ⟨oc11, od11, .func (PySem.W.fnOf "alternating_sum" "alternating_sum" (defArgs sAlter) (defBody sAlter) (defScope sAlter) .none kV11 dc11 pm11 an11 cd11 ct11), sl11⟩) (c11 : PySem.W.codeIn K cd11 "alternating_sum" = true) (k11 : PySem.W.keepIn K (.ref f11) = true)
    {f12 : Addr} {od12 an12 : Option Addr} {sl12 : Array (Option Value)} {oc12 kV12 dc12 pm12 cd12 ct12 : Value}
    (a12 : PySem.W.nsIn K mainGlobals "weight" = some (some (.ref f12))) (l12 : K.lookup f12 = some ⟨oc12, od12, .func (PySem.W.fnOf "weight" "weight" (defArgs sWeight) (defBody sWeight) (defScope sWeight) .none kV12 dc12 pm12 an12 cd12 ct12), sl12⟩) (c12 : PySem.W.codeIn K cd12 "weight" = true) (k12 : PySem.W.keepIn K (.ref f12) = true)
    {f13 : Addr} {od13 an13 : Option Addr} {sl13 : Array (Option Value)} {oc13 kV13 dc13 pm13 cd13 ct13 : Value}
    (a13 : PySem.W.nsIn K mainGlobals "weights_up_to" = some (some (.ref f13))) (l13 : K.lookup f13 = some ⟨oc13, od13, .func (PySem.W.fnOf "weights_up_to" "weights_up_to" (defArgs sWeights) (defBody sWeights) (defScope sWeights) .none kV13 dc13 pm13 an13 cd13 ct13), sl13⟩) (c13 : PySem.W.codeIn K cd13 "weights_up_to" = true) (k13 : PySem.W.keepIn K (.ref f13) = true)
    {f14 : Addr} {od14 an14 : Option Addr} {sl14 : Array (Option Value)} {oc14 kV14 dc14 pm14 cd14 ct14 : Value}
    (a14 : PySem.W.nsIn K mainGlobals "_law_cup" = some (some (.ref f14))) (l14 : K.lookup f14 = some ⟨oc14, od14, .func (PySem.W.fnOf "_law_cup" "_law_cup" (defArgs sCup) (defBody sCup) (defScope sCup) .none kV14 dc14 pm14 an14 cd14 ct14), sl14⟩) (c14 : PySem.W.codeIn K cd14 "_law_cup" = true) (k14 : PySem.W.keepIn K (.ref f14) = true)
    {f15 : Addr} {od15 an15 : Option Addr} {sl15 : Array (Option Value)} {oc15 kV15 dc15 pm15 cd15 ct15 : Value}
    (a15 : PySem.W.nsIn K mainGlobals "_law_bit" = some (some (.ref f15))) (l15 : K.lookup f15 = some ⟨oc15, od15, .func (PySem.W.fnOf "_law_bit" "_law_bit" (defArgs sBit) (defBody sBit) (defScope sBit) .none kV15 dc15 pm15 an15 cd15 ct15), sl15⟩) (c15 : PySem.W.codeIn K cd15 "_law_bit" = true) (k15 : PySem.W.keepIn K (.ref f15) = true)
    {f16 : Addr} {od16 an16 : Option Addr} {sl16 : Array (Option Value)} {oc16 kV16 dc16 pm16 cd16 ct16 : Value}
    (a16 : PySem.W.nsIn K mainGlobals "_law_pick" = some (some (.ref f16))) (l16 : K.lookup f16 = some ⟨oc16, od16, .func (PySem.W.fnOf "_law_pick" "_law_pick" (defArgs sPick) (defBody sPick) (defScope sPick) .none kV16 dc16 pm16 an16 cd16 ct16), sl16⟩) (c16 : PySem.W.codeIn K cd16 "_law_pick" = true) (k16 : PySem.W.keepIn K (.ref f16) = true)
    {f17 : Addr} {od17 an17 : Option Addr} {sl17 : Array (Option Value)} {oc17 kV17 dc17 pm17 cd17 ct17 : Value}
    (a17 : PySem.W.nsIn K mainGlobals "_law_signs" = some (some (.ref f17))) (l17 : K.lookup f17 = some ⟨oc17, od17, .func (PySem.W.fnOf "_law_signs" "_law_signs" (defArgs sSigns) (defBody sSigns) (defScope sSigns) .none kV17 dc17 pm17 an17 cd17 ct17), sl17⟩) (c17 : PySem.W.codeIn K cd17 "_law_signs" = true) (k17 : PySem.W.keepIn K (.ref f17) = true)
    {f18 : Addr} {od18 an18 : Option Addr} {sl18 : Array (Option Value)} {oc18 kV18 dc18 pm18 cd18 ct18 : Value}
    (a18 : PySem.W.nsIn K mainGlobals "_law_rest" = some (some (.ref f18))) (l18 : K.lookup f18 = some ⟨oc18, od18, .func (PySem.W.fnOf "_law_rest" "_law_rest" (defArgs sLRest) (defBody sLRest) (defScope sLRest) .none kV18 dc18 pm18 an18 cd18 ct18), sl18⟩) (c18 : PySem.W.codeIn K cd18 "_law_rest" = true) (k18 : PySem.W.keepIn K (.ref f18) = true)
    {f19 : Addr} {od19 an19 : Option Addr} {sl19 : Array (Option Value)} {oc19 kV19 dc19 pm19 cd19 ct19 : Value}
    (a19 : PySem.W.nsIn K mainGlobals "_law_line" = some (some (.ref f19))) (l19 : K.lookup f19 = some ⟨oc19, od19, .func (PySem.W.fnOf "_law_line" "_law_line" (defArgs sLine) (defBody sLine) (defScope sLine) .none kV19 dc19 pm19 an19 cd19 ct19), sl19⟩) (c19 : PySem.W.codeIn K cd19 "_law_line" = true) (k19 : PySem.W.keepIn K (.ref f19) = true)
    {f20 : Addr} {od20 an20 : Option Addr} {sl20 : Array (Option Value)} {oc20 kV20 dc20 pm20 cd20 ct20 : Value}
    (a20 : PySem.W.nsIn K mainGlobals "_law_lines_to" = some (some (.ref f20))) (l20 : K.lookup f20 = some ⟨oc20, od20, .func (PySem.W.fnOf "_law_lines_to" "_law_lines_to" (defArgs sLinesTo) (defBody sLinesTo) (defScope sLinesTo) .none kV20 dc20 pm20 an20 cd20 ct20), sl20⟩) (c20 : PySem.W.codeIn K cd20 "_law_lines_to" = true) (k20 : PySem.W.keepIn K (.ref f20) = true)
    {f21 : Addr} {od21 an21 : Option Addr} {sl21 : Array (Option Value)} {oc21 kV21 dc21 pm21 cd21 ct21 : Value}
    (a21 : PySem.W.nsIn K mainGlobals "_law_spread" = some (some (.ref f21))) (l21 : K.lookup f21 = some ⟨oc21, od21, .func (PySem.W.fnOf "_law_spread" "_law_spread" (defArgs sSpread) (defBody sSpread) (defScope sSpread) .none kV21 dc21 pm21 an21 cd21 ct21), sl21⟩) (c21 : PySem.W.codeIn K cd21 "_law_spread" = true) (k21 : PySem.W.keepIn K (.ref f21) = true)
    {f22 : Addr} {od22 an22 : Option Addr} {sl22 : Array (Option Value)} {oc22 kV22 dc22 pm22 cd22 ct22 : Value}
    (a22 : PySem.W.nsIn K mainGlobals "_law_heap" = some (some (.ref f22))) (l22 : K.lookup f22 = some ⟨oc22, od22, .func (PySem.W.fnOf "_law_heap" "_law_heap" (defArgs sHeap) (defBody sHeap) (defScope sHeap) .none kV22 dc22 pm22 an22 cd22 ct22), sl22⟩) (c22 : PySem.W.codeIn K cd22 "_law_heap" = true) (k22 : PySem.W.keepIn K (.ref f22) = true)
    {f23 : Addr} {od23 an23 : Option Addr} {sl23 : Array (Option Value)} {oc23 kV23 dc23 pm23 cd23 ct23 : Value}
    (a23 : PySem.W.nsIn K mainGlobals "_law_cleared_heap" = some (some (.ref f23))) (l23 : K.lookup f23 = some ⟨oc23, od23, .func (PySem.W.fnOf "_law_cleared_heap" "_law_cleared_heap" (defArgs sCleared) (defBody sCleared) (defScope sCleared) .none kV23 dc23 pm23 an23 cd23 ct23), sl23⟩) (c23 : PySem.W.codeIn K cd23 "_law_cleared_heap" = true) (k23 : PySem.W.keepIn K (.ref f23) = true)
    {f24 : Addr} {od24 an24 : Option Addr} {sl24 : Array (Option Value)} {oc24 kV24 dc24 pm24 cd24 ct24 : Value}
    (a24 : PySem.W.nsIn K mainGlobals "_law_at" = some (some (.ref f24))) (l24 : K.lookup f24 = some ⟨oc24, od24, .func (PySem.W.fnOf "_law_at" "_law_at" (defArgs sAtH) (defBody sAtH) (defScope sAtH) .none kV24 dc24 pm24 an24 cd24 ct24), sl24⟩) (c24 : PySem.W.codeIn K cd24 "_law_at" = true) (k24 : PySem.W.keepIn K (.ref f24) = true)
    {f25 : Addr} {od25 an25 : Option Addr} {sl25 : Array (Option Value)} {oc25 kV25 dc25 pm25 cd25 ct25 : Value}
    (a25 : PySem.W.nsIn K mainGlobals "_law_signed_sum" = some (some (.ref f25))) (l25 : K.lookup f25 = some ⟨oc25, od25, .func (PySem.W.fnOf "_law_signed_sum" "_law_signed_sum" (defArgs sSigned) (defBody sSigned) (defScope sSigned) .none kV25 dc25 pm25 an25 cd25 ct25), sl25⟩) (c25 : PySem.W.codeIn K cd25 "_law_signed_sum" = true) (k25 : PySem.W.keepIn K (.ref f25) = true)
    {f26 : Addr} {od26 an26 : Option Addr} {sl26 : Array (Option Value)} {oc26 kV26 dc26 pm26 cd26 ct26 : Value}
    (a26 : PySem.W.nsIn K mainGlobals "_law_selected" = some (some (.ref f26))) (l26 : K.lookup f26 = some ⟨oc26, od26, .func (PySem.W.fnOf "_law_selected" "_law_selected" (defArgs sSelected) (defBody sSelected) (defScope sSelected) .none kV26 dc26 pm26 an26 cd26 ct26), sl26⟩) (c26 : PySem.W.codeIn K cd26 "_law_selected" = true) (k26 : PySem.W.keepIn K (.ref f26) = true)
    {f27 : Addr} {od27 an27 : Option Addr} {sl27 : Array (Option Value)} {oc27 kV27 dc27 pm27 cd27 ct27 : Value}
    (a27 : PySem.W.nsIn K mainGlobals "_law_right" = some (some (.ref f27))) (l27 : K.lookup f27 = some ⟨oc27, od27, .func (PySem.W.fnOf "_law_right" "_law_right" (defArgs sRight) (defBody sRight) (defScope sRight) .none kV27 dc27 pm27 an27 cd27 ct27), sl27⟩) (c27 : PySem.W.codeIn K cd27 "_law_right" = true) (k27 : PySem.W.keepIn K (.ref f27) = true)
    {f28 : Addr} {od28 an28 : Option Addr} {sl28 : Array (Option Value)} {oc28 kV28 dc28 pm28 cd28 ct28 : Value}
    (a28 : PySem.W.nsIn K mainGlobals "law" = some (some (.ref f28))) (l28 : K.lookup f28 = some ⟨oc28, od28, .func (PySem.W.fnOf "law" "law" (defArgs sLaw) (defBody sLaw) (defScope sLaw) .none kV28 dc28 pm28 an28 cd28 ct28), sl28⟩) (c28 : PySem.W.codeIn K cd28 "law" = true) (k28 : PySem.W.keepIn K (.ref f28) = true)
    {cR0 PR0 : Addr} {oK0 : Value} {dK0 : Option Addr} {vsC0 : Array Value} {slC0 : Array (Option Value)} {cR1 PR1 : Addr} {oK1 : Value} {dK1 : Option Addr} {vsC1 : Array Value} {slC1 : Array (Option Value)} {cR2 PR2 : Addr} {oK2 : Value} {dK2 : Option Addr} {vsC2 : Array Value} {slC2 : Array (Option Value)}
    (qC0 : cd23 = .ref cR0)
    (qL0 : K.lookup cR0 = some ⟨oK0, dK0, .fields vsC0, slC0⟩)
    (qV0 : (vsC0[11]? : Option Value) = some (.ref PR0))
    (qNo0 : K.lookup PR0 = none)
    (qC1 : cd27 = .ref cR1)
    (qL1 : K.lookup cR1 = some ⟨oK1, dK1, .fields vsC1, slC1⟩)
    (qV1 : (vsC1[11]? : Option Value) = some (.ref PR1))
    (qNo1 : K.lookup PR1 = none)
    (qC2 : cd28 = .ref cR2)
    (qL2 : K.lookup cR2 = some ⟨oK2, dK2, .fields vsC2, slC2⟩)
    (qV2 : (vsC2[11]? : Option Value) = some (.ref PR2))
    (qNo2 : K.lookup PR2 = none)
    (qU01 : PR0 ≠ PR1)
    (qU02 : PR0 ≠ PR2)
    (qU12 : PR1 ≠ PR2)
    (z1 : PySem.W.nsIn K mainGlobals "isinstance" = some none)
    (z2 : PySem.W.nsIn K mainGlobals "int" = some none)
    (z3 : PySem.W.nsIn K mainGlobals "str" = some none)
    (z4 : PySem.W.nsIn K mainGlobals "bool" = some none)
    (z5 : PySem.W.nsIn K mainGlobals "abs" = some none)
    (z6 : PySem.W.nsIn K mainGlobals "len" = some none)
    (z7 : PySem.W.nsIn K mainGlobals "list" = some none)
    (z8 : PySem.W.nsIn K mainGlobals "set" = some none)
    (z9 : PySem.W.nsIn K mainGlobals "sorted" = some none)
    (z10 : PySem.W.nsIn K mainGlobals "repr" = some none)
    (z11 : PySem.W.nsIn K mainGlobals "range" = some none)
    (z12 : PySem.W.nsIn K mainGlobals "max" = some none)
    (z13 : PySem.W.nsIn K mainGlobals "min" = some none)
    (z14 : PySem.W.nsIn K mainGlobals "all" = some none)
    (z15 : PySem.W.nsIn K mainGlobals "tuple" = some none)
    (z16 : PySem.W.nsIn K mainGlobals "dict" = some none)
    (z17 : PySem.W.nsIn K mainGlobals "zip" = some none)
    (z18 : PySem.W.nsIn K mainGlobals "sum" = some none)
    (z19 : PySem.W.nsIn K mainGlobals "enumerate" = some none)
    {t1 : Tok} (v1 : PySem.W.nsIn K mainGlobals "ALPHABET" = some (some (.str alpha t1)))
    {t2 : Tok} (v2 : PySem.W.nsIn K mainGlobals "MAX_LETTERS" = some (some (.int 3 t2)))
    {t3 : Tok} (v3 : PySem.W.nsIn K mainGlobals "MAX_PATTERN" = some (some (.int 400 t3)))
    {t4 : Tok} (v4 : PySem.W.nsIn K mainGlobals "MAX_DEPTH" = some (some (.int 5 t4)))
    {t5 : Tok} (v5 : PySem.W.nsIn K mainGlobals "MAX_WEIGHT" = some (some (.int 12 t5))) :
    ∃ (fd : FuncData) (cs : List (Addr × Addr)) (sp : Sp), PySem.W.EachIs (fun (p : Addr × Addr) (y : Str) => PySem.W.tabIn K y = some p ∧ K.lookup p.2 = none) cs (["_law_cleared_heap", "_law_right", "law"] : List Str) ∧ (∀ (s : Shared) (v : Value), BindsTo s fd ⟨[v], []⟩ [("_law_script", v)]) ∧
      (∀ (H : Hp) (a : Addr) (ns : List Int), ns.length ≤ 63 → (∀ p ∈ cs, H p.2 = some (.tbl #[])) → SqL K H a (ns.map V.int) → sp [.ref a] H (fun v _ => v = .bl true) fun _ _ _ => False) ∧
      ∀ base : Heap, K.In base → base.Ns mainGlobals mg → (∀ p ∈ cs, LamX.TabB base mg p.1 p.2) → FnOk l.prog w K mg base CX0 8 fa fd ["_law_script"] sp := by
  have e := hfa.symm.trans (PySem.W.mg_of X G a28)
  cases e
  obtain ⟨n1, t01, en1, hx1⟩ := hx1
  subst en1
  have T : Txt K mg := ⟨PySem.W.mg_none_of X G z1, PySem.W.mg_none_of X G z2, PySem.W.mg_none_of X G z3, PySem.W.mg_none_of X G z4, PySem.W.mg_none_of X G z5, PySem.W.mg_none_of X G z6, PySem.W.mg_none_of X G z7, PySem.W.mg_none_of X G z8, PySem.W.mg_none_of X G z9, PySem.W.mg_none_of X G z10, PySem.W.mg_none_of X G z11, PySem.W.mg_none_of X G z12, PySem.W.mg_none_of X G z13, PySem.W.mg_none_of X G z14, PySem.W.mg_none_of X G z15, PySem.W.mg_none_of X G z16, PySem.W.mg_none_of X G z17, ⟨_, hx1⟩, ⟨_, PySem.W.mg_of X G v1⟩, ⟨_, PySem.W.mg_of X G v2⟩, ⟨_, PySem.W.mg_of X G v3⟩, ⟨_, PySem.W.mg_of X G v4⟩, ⟨_, PySem.W.mg_of X G v5⟩, PySem.W.mg_none_of X G z18, PySem.W.mg_none_of X G z19⟩
  have D1 : Df K mg "is_integer" sInt ["value"] f1 _ := df_mk X G a1 l1 c1 k1 fun _ _ _ _ _ _ us hl => match us, hl with | [_], _ => rfl
  have D2 : Df K mg "is_letters" sLetters ["value"] f2 _ := df_mk X G a2 l2 c2 k2 fun _ _ _ _ _ _ us hl => match us, hl with | [_], _ => rfl
  have D3 : Df K mg "is_pattern" sPattern ["letters", "value"] f3 _ := df_mk X G a3 l3 c3 k3 fun _ _ _ _ _ _ us hl => match us, hl with | [_, _], _ => rfl
  have D4 : Df K mg "check_letters" sCheck ["value"] f4 _ := df_mk X G a4 l4 c4 k4 fun _ _ _ _ _ _ us hl => match us, hl with | [_], _ => rfl
  have D5 : Df K mg "has_only" sHas ["value", "signs", "most"] f5 _ := df_mk X G a5 l5 c5 k5 fun _ _ _ _ _ _ us hl => match us, hl with | [_, _, _], _ => rfl
  have D6 : Df K mg "check_pattern" sCPattern ["letters", "value"] f6 _ := df_mk X G a6 l6 c6 k6 fun _ _ _ _ _ _ us hl => match us, hl with | [_, _], _ => rfl
  have D7 : Df K mg "check_between" sCBetween ["value", "least", "most"] f7 _ := df_mk X G a7 l7 c7 k7 fun _ _ _ _ _ _ us hl => match us, hl with | [_, _, _], _ => rfl
  have D8 : Df K mg "check_most" sCMost ["many", "limit"] f8 _ := df_mk X G a8 l8 c8 k8 fun _ _ _ _ _ _ us hl => match us, hl with | [_, _], _ => rfl
  have D9 : Df K mg "all_texts" sAllT ["letters", "size"] f9 _ := df_mk X G a9 l9 c9 k9 fun _ _ _ _ _ _ us hl => match us, hl with | [_, _], _ => rfl
  have D10 : Df K mg "selections" sSelections ["text"] f10 _ := df_mk X G a10 l10 c10 k10 fun _ _ _ _ _ _ us hl => match us, hl with | [_], _ => rfl
  have D11 : Df K mg "alternating_sum" sAlter ["pattern", "numbers"] f11 _ := df_mk X G a11 l11 c11 k11 fun _ _ _ _ _ _ us hl => match us, hl with | [_, _], _ => rfl
  have D12 : Df K mg "weight" sWeight ["letters", "pattern", "call"] f12 _ := df_mk X G a12 l12 c12 k12 fun _ _ _ _ _ _ us hl => match us, hl with | [_, _, _], _ => rfl
  have D13 : Df K mg "weights_up_to" sWeights ["letters", "depth", "call"] f13 _ := df_mk X G a13 l13 c13 k13 fun _ _ _ _ _ _ us hl => match us, hl with | [_, _, _], _ => rfl
  have D14 : Df K mg "_law_cup" sCup ["_law_script", "_law_at_here"] f14 _ := df_mk X G a14 l14 c14 k14 fun _ _ _ _ _ _ us hl => match us, hl with | [_, _], _ => rfl
  have D15 : Df K mg "_law_bit" sBit ["_law_cup_here", "_law_much"] f15 _ := df_mk X G a15 l15 c15 k15 fun _ _ _ _ _ _ us hl => match us, hl with | [_, _], _ => rfl
  have D16 : Df K mg "_law_pick" sPick ["_law_cup_here", "_law_items"] f16 _ := df_mk X G a16 l16 c16 k16 fun _ _ _ _ _ _ us hl => match us, hl with | [_, _], _ => rfl
  have D17 : Df K mg "_law_signs" sSigns ["_law_cup_here"] f17 _ := df_mk X G a17 l17 c17 k17 fun _ _ _ _ _ _ us hl => match us, hl with | [_], _ => rfl
  have D18 : Df K mg "_law_rest" sLRest ["_law_much", "_law_kind"] f18 _ := df_mk X G a18 l18 c18 k18 fun _ _ _ _ _ _ us hl => match us, hl with | [_, _], _ => rfl
  have D19 : Df K mg "_law_line" sLine ["_law_cup_here", "_law_signs_here", "_law_most"] f19 _ := df_mk X G a19 l19 c19 k19 fun _ _ _ _ _ _ us hl => match us, hl with | [_, _, _], _ => rfl
  have D20 : Df K mg "_law_lines_to" sLinesTo ["_law_signs_here", "_law_deep"] f20 _ := df_mk X G a20 l20 c20 k20 fun _ _ _ _ _ _ us hl => match us, hl with | [_, _], _ => rfl
  have D21 : Df K mg "_law_spread" sSpread ["_law_line_here", "_law_piece"] f21 _ := df_mk X G a21 l21 c21 k21 fun _ _ _ _ _ _ us hl => match us, hl with | [_, _], _ => rfl
  have D22 : Df K mg "_law_heap" sHeap ["_law_cup_here", "_law_signs_here", "_law_most", "_law_many", "_law_kind"] f22 _ := df_mk X G a22 l22 c22 k22 fun _ _ _ _ _ _ us hl => match us, hl with | [_, _, _, _, _], _ => rfl
  have D23 : Df K mg "_law_cleared_heap" sCleared ["_law_heap_here"] f23 _ := df_mk X G a23 l23 c23 k23 fun _ _ _ _ _ _ us hl => match us, hl with | [_], _ => rfl
  have D24 : Df K mg "_law_at" sAtH ["_law_heap_here", "_law_line_here", "_law_kind"] f24 _ := df_mk X G a24 l24 c24 k24 fun _ _ _ _ _ _ us hl => match us, hl with | [_, _, _], _ => rfl
  have D25 : Df K mg "_law_signed_sum" sSigned ["_law_known", "_law_piece"] f25 _ := df_mk X G a25 l25 c25 k25 fun _ _ _ _ _ _ us hl => match us, hl with | [_, _], _ => rfl
  have D26 : Df K mg "_law_selected" sSelected ["_law_piece"] f26 _ := df_mk X G a26 l26 c26 k26 fun _ _ _ _ _ _ us hl => match us, hl with | [_], _ => rfl
  have D27 : Df K mg "_law_right" sRight ["_law_cup_here"] f27 _ := df_mk X G a27 l27 c27 k27 fun _ _ _ _ _ _ us hl => match us, hl with | [_], _ => rfl
  have D28 : Df K mg "law" sLaw ["_law_script"] fa _ := df_mk X G a28 l28 c28 k28 fun _ _ _ _ _ _ us hl => match us, hl with | [_], _ => rfl
  have qTab0 := Lp.tab_mk a23 l23 qC0 qL0 qV0
  have qTab1 := Lp.tab_mk a27 l27 qC1 qL1 qV1
  have qTab2 := Lp.tab_mk a28 l28 qC2 qL2 qV2
  refine ⟨PySem.W.fnOf "law" "law" (defArgs sLaw) (defBody sLaw) (defScope sLaw) .none kV28 dc28 pm28 an28 cd28 ct28, [(cR0, PR0), (cR1, PR1), (cR2, PR2)], spLaw K [(PR0, qCl), (PR1, qRt), (PR2, qLaw)], .cons ⟨qTab0, qNo0⟩ (.cons ⟨qTab1, qNo1⟩ (.cons ⟨qTab2, qNo2⟩ .nil)), fun s v => .of_eq rfl, fun H a ns hl hH hS => ⟨a, ns, rfl, hS, hl, fun p hp => ?_, fun _ => rfl⟩, fun base _ _ TB => ?_⟩
  · simp only [List.mem_cons, List.not_mem_nil, or_false] at hp
    rcases hp with rfl | rfl | rfl
    · exact LamX.TabS.nil (hH _ (List.Mem.head _))
    · exact LamX.TabS.nil (hH _ (List.Mem.tail _ (List.Mem.head _)))
    · exact LamX.TabS.nil (hH _ (List.Mem.tail _ (List.Mem.tail _ (List.Mem.head _))))
  have LO : Low K mg _ _ _ _ _ _ _ _ _ _ := ⟨D1, D5, D2, D4, D3⟩
  have hu0 : ∀ p ∈ ([(PR0, qCl), (PR1, qRt), (PR2, qLaw)] : List (Addr × Str)), p.1 = PR0 → p.2 = qCl := (fun p hp e => by
    simp only [List.mem_cons, List.not_mem_nil, or_false] at hp
    rcases hp with rfl | rfl | rfl
    · exact rfl
    · exact absurd e qU01.symm
    · exact absurd e qU02.symm
    )
  have hu1 : ∀ p ∈ ([(PR0, qCl), (PR1, qRt), (PR2, qLaw)] : List (Addr × Str)), p.1 = PR1 → p.2 = qRt := (fun p hp e => by
    simp only [List.mem_cons, List.not_mem_nil, or_false] at hp
    rcases hp with rfl | rfl | rfl
    · exact absurd e qU01
    · exact rfl
    · exact absurd e qU12.symm
    )
  have hu2 : ∀ p ∈ ([(PR0, qCl), (PR1, qRt), (PR2, qLaw)] : List (Addr × Str)), p.1 = PR2 → p.2 = qLaw := (fun p hp e => by
    simp only [List.mem_cons, List.not_mem_nil, or_false] at hp
    rcases hp with rfl | rfl | rfl
    · exact absurd e qU02
    · exact absurd e qU12
    · exact rfl
    )
  have GCl := ok_cl (P := l.prog) (w := w) (T0 := [(PR0, qCl), (PR1, qRt), (PR2, qLaw)]) (Lp.FunC.of a23 l23 c23 qTab0) (TB _ (List.Mem.head _)) (List.Mem.head _) hu0 T
  have GW := ok_wt (P := l.prog) (w := w) (base := base) D12.F T LO D6 D8 D10 D11
  have GWs := ok_wts (P := l.prog) (w := w) (base := base) D13.F T LO D7 D9 D10 D11
  have U : Up l.prog w K mg base [(PR0, qCl), (PR1, qRt), (PR2, qLaw)] _ _ _ _ _ _ _ _ _ _ _ _ _ _ _ _ _ _ _ _ := ⟨D17, D15, D22, D19, D26, D25, D20, D24, D12, D13,
    ok_signs D17.F T D15 D16, ok_bit D15.F T, ok_hp D22.F T D15 D16 D18 D19 D23 GCl, ok_line D19.F T D15 D16, ok_sd D26.F T, ok_sg D25.F T, ok_lines D20.F T,
    ok_atH D24.F T D18 D21, GW, GWs⟩
  have GRt := ok_rt (Lp.FunC.of a27 l27 c27 qTab1) (TB _ (List.Mem.tail _ (List.Mem.head _))) (List.Mem.tail _ (List.Mem.head _)) hu1 T U
  exact ok_law (Lp.FunC.of a28 l28 c28 qTab2) (TB _ (List.Mem.tail _ (List.Mem.tail _ (List.Mem.head _)))) (List.Mem.tail _ (List.Mem.tail _ (List.Mem.head _))) hu2 T D14 D27 D12 D13 (ok_cup D14.F T) GRt GW GWs
theorem fin {l : PySem.W.OpenLaw} {q : Program} {loose : List Str} {XP : (Str → Option Value) → Heap → Prop} {YP : World → Heap → Prop} {d : DefRec} {K : Params → PySem.W.Frag} (hn : l.most = some 63) (hdf : d.params.defaults = [])
    (hrec : (((["_law_cleared_heap", "_law_right", "law"] : List Str)).all fun y => ((PyProof.Rows.recsOf q).find? fun e => e.name == y).isSome) = true) (hY : ∀ (w : World) (h : Heap), YP w h → (K w.params).In h)
    (F : ∀ (w : World) (mg : Str → Option Value) (fa : Addr) (h : Heap), (K w.params).In h → h.Ns mainGlobals mg → mg d.name = some (.ref fa) → XP mg h →
      ∃ (fd : FuncData) (cs : List (Addr × Addr)) (sp : Sp), PySem.W.EachIs (fun (p : Addr × Addr) (y : Str) => PySem.W.tabIn (K w.params) y = some p ∧ (K w.params).lookup p.2 = none) cs (["_law_cleared_heap", "_law_right", "law"] : List Str) ∧ (∀ (s : Shared) (v : Value), BindsTo s fd ⟨[v], []⟩ [("_law_script", v)]) ∧
        (∀ (H : Hp) (a : Addr) (ns : List Int), ns.length ≤ 63 → (∀ p ∈ cs, H p.2 = some (.tbl #[])) → SqL (K w.params) H a (ns.map V.int) → sp [.ref a] H (fun v _ => v = .bl true) fun _ _ _ => False) ∧
        ∀ base : Heap, (K w.params).In base → base.Ns mainGlobals mg → (∀ p ∈ cs, LamX.TabB base mg p.1 p.2) → FnOk l.prog w (K w.params) mg base CX0 8 fa fd ["_law_script"] sp) :
    PySem.W.WalkO q loose XP YP l.row.toRowW d [] (fun f vs => PySem.call f vs) :=
  Lp.walkTs (n := 63) (k := 8) (x := "_law_script") (ys := (["_law_cleared_heap", "_law_right", "law"] : List Str)) (cx := fun _ => CX0) hn (by decide) hdf ⟨rfl, by decide, by decide⟩ hY hrec F fun _ _ _ _ _ z => z
end K6

set_option Elab.async false
set_option maxRecDepth 100000
open PySem PySem.W PyProof.Rows
set_option maxRecDepth 100000 in
set_option maxHeartbeats 0 in
theorem PySem.Challenge.cw_whatcounts_k06_whole_weights_of_function_holds : PySem.Challenge.rw_whatcounts_k06_whole_weights_of_function.Holds := by
  w_on; o_law; k_head; (case hw => w_witness2)
  k_fill
  refine K6.fin (l := PySem.Challenge.rw_whatcounts_k06_whole_weights_of_function) rfl rfl (by first | rfl | decide +kernel) (fun w h Y => PySem.W.km_in_of Y) ?F
  case F =>
    intro w mg fa h KX G hmg hx
    have hx1 : ∃ n t, n = 10 ^ 200 ∧ mg "LEAST_TOO_LONG" = some (.int n t) := by
      first
      | (obtain ⟨v, e, r⟩ := hx.2.val _ (List.Mem.head _); cases r; exact ⟨_, _, by decide +kernel, e⟩)
      | (obtain ⟨v, e, r⟩ := hx.2.val _ (List.Mem.tail _ (List.Mem.head _)); cases r; exact ⟨_, _, by decide +kernel, e⟩)
      | (obtain ⟨v, e, r⟩ := hx.2.val _ (List.Mem.tail _ (List.Mem.tail _ (List.Mem.head _))); cases r; exact ⟨_, _, by decide +kernel, e⟩)
      | (obtain ⟨v, e, r⟩ := hx.2.val _ (List.Mem.tail _ (List.Mem.tail _ (List.Mem.tail _ (List.Mem.head _)))); cases r; exact ⟨_, _, by decide +kernel, e⟩)
      | (obtain ⟨v, e, r⟩ := hx.2.val _ (List.Mem.tail _ (List.Mem.tail _ (List.Mem.tail _ (List.Mem.tail _ (List.Mem.head _))))); cases r; exact ⟨_, _, by decide +kernel, e⟩)
      | (obtain ⟨v, e, r⟩ := hx.2.val _ (List.Mem.tail _ (List.Mem.tail _ (List.Mem.tail _ (List.Mem.tail _ (List.Mem.tail _ (List.Mem.head _)))))); cases r; exact ⟨_, _, by decide +kernel, e⟩)
      | (obtain ⟨v, e, r⟩ := hx.2.val _ (List.Mem.tail _ (List.Mem.tail _ (List.Mem.tail _ (List.Mem.tail _ (List.Mem.tail _ (List.Mem.tail _ (List.Mem.head _))))))); cases r; exact ⟨_, _, by decide +kernel, e⟩)
      | (obtain ⟨v, e, r⟩ := hx.2.val _ (List.Mem.tail _ (List.Mem.tail _ (List.Mem.tail _ (List.Mem.tail _ (List.Mem.tail _ (List.Mem.tail _ (List.Mem.tail _ (List.Mem.head _)))))))); cases r; exact ⟨_, _, by decide +kernel, e⟩)
    refine' K6.all_mk KX G hmg hx1 ?a1 ?l1 ?c1 ?k1 ?a2 ?l2 ?c2 ?k2 ?a3 ?l3 ?c3 ?k3 ?a4 ?l4 ?c4 ?k4 ?a5 ?l5 ?c5 ?k5 ?a6 ?l6 ?c6 ?k6 ?a7 ?l7 ?c7 ?k7 ?a8 ?l8 ?c8 ?k8 ?a9 ?l9 ?c9 ?k9 ?a10 ?l10 ?c10 ?k10 ?a11 ?l11 ?c11 ?k11 ?a12 ?l12 ?c12 ?k12 ?a13 ?l13 ?c13 ?k13 ?a14 ?l14 ?c14 ?k14 ?a15 ?l15 ?c15 ?k15 ?a16 ?l16 ?c16 ?k16 ?a17 ?l17 ?c17 ?k17 ?a18 ?l18 ?c18 ?k18 ?a19 ?l19 ?c19 ?k19 ?a20 ?l20 ?c20 ?k20 ?a21 ?l21 ?c21 ?k21 ?a22 ?l22 ?c22 ?k22 ?a23 ?l23 ?c23 ?k23 ?a24 ?l24 ?c24 ?k24 ?a25 ?l25 ?c25 ?k25 ?a26 ?l26 ?c26 ?k26 ?a27 ?l27 ?c27 ?k27 ?a28 ?l28 ?c28 ?k28 ?qC0 ?qL0 ?qV0 ?qNo0 ?qC1 ?qL1 ?qV1 ?qNo1 ?qC2 ?qL2 ?qV2 ?qNo2 ?qU01 ?qU02 ?qU12 ?z1 ?z2 ?z3 ?z4 ?z5 ?z6 ?z7 ?z8 ?z9 ?z10 ?z11 ?z12 ?z13 ?z14 ?z15 ?z16 ?z17 ?z18 ?z19 ?v1 ?v2 ?v3 ?v4 ?v5
    (case a1 => k_is)
    (case l1 => k_is)
    (case c1 => k_is)
    (case k1 => k_is)
    (case a2 => k_is)
    (case l2 => k_is)
    (case c2 => k_is)
    (case k2 => k_is)
    (case a3 => k_is)
    (case l3 => k_is)
    (case c3 => k_is)
    (case k3 => k_is)
    (case a4 => k_is)
    (case l4 => k_is)
    (case c4 => k_is)
    (case k4 => k_is)
    (case a5 => k_is)
    (case l5 => k_is)
    (case c5 => k_is)
    (case k5 => k_is)
    (case a6 => k_is)
    (case l6 => k_is)
    (case c6 => k_is)
    (case k6 => k_is)
    (case a7 => k_is)
    (case l7 => k_is)
    (case c7 => k_is)
    (case k7 => k_is)
    (case a8 => k_is)
    (case l8 => k_is)
    (case c8 => k_is)
    (case k8 => k_is)
    (case a9 => k_is)
    (case l9 => k_is)
    (case c9 => k_is)
    (case k9 => k_is)
    (case a10 => k_is)
    (case l10 => k_is)
    (case c10 => k_is)
    (case k10 => k_is)
    (case a11 => k_is)
    (case l11 => k_is)
    (case c11 => k_is)
    (case k11 => k_is)
    (case a12 => k_is)
    (case l12 => k_is)
    (case c12 => k_is)
    (case k12 => k_is)
    (case a13 => k_is)
    (case l13 => k_is)
    (case c13 => k_is)
    (case k13 => k_is)
    (case a14 => k_is)
    (case l14 => k_is)
    (case c14 => k_is)
    (case k14 => k_is)
    (case a15 => k_is)
    (case l15 => k_is)
    (case c15 => k_is)
    (case k15 => k_is)
    (case a16 => k_is)
    (case l16 => k_is)
    (case c16 => k_is)
    (case k16 => k_is)
    (case a17 => k_is)
    (case l17 => k_is)
    (case c17 => k_is)
    (case k17 => k_is)
    (case a18 => k_is)
    (case l18 => k_is)
    (case c18 => k_is)
    (case k18 => k_is)
    (case a19 => k_is)
    (case l19 => k_is)
    (case c19 => k_is)
    (case k19 => k_is)
    (case a20 => k_is)
    (case l20 => k_is)
    (case c20 => k_is)
    (case k20 => k_is)
    (case a21 => k_is)
    (case l21 => k_is)
    (case c21 => k_is)
    (case k21 => k_is)
    (case a22 => k_is)
    (case l22 => k_is)
    (case c22 => k_is)
    (case k22 => k_is)
    (case a23 => k_is)
    (case l23 => k_is)
    (case c23 => k_is)
    (case k23 => k_is)
    (case a24 => k_is)
    (case l24 => k_is)
    (case c24 => k_is)
    (case k24 => k_is)
    (case a25 => k_is)
    (case l25 => k_is)
    (case c25 => k_is)
    (case k25 => k_is)
    (case a26 => k_is)
    (case l26 => k_is)
    (case c26 => k_is)
    (case k26 => k_is)
    (case a27 => k_is)
    (case l27 => k_is)
    (case c27 => k_is)
    (case k27 => k_is)
    (case a28 => k_is)
    (case l28 => k_is)
    (case c28 => k_is)
    (case k28 => k_is)
    (case qC0 => exact rfl)
    (case qL0 => k_is)
    (case qV0 => first | exact rfl | k_is)
    (case qNo0 => first | kernel_rfl | exact rfl | decide +kernel)
    (case qC1 => exact rfl)
    (case qL1 => k_is)
    (case qV1 => first | exact rfl | k_is)
    (case qNo1 => first | kernel_rfl | exact rfl | decide +kernel)
    (case qC2 => exact rfl)
    (case qL2 => k_is)
    (case qV2 => first | exact rfl | k_is)
    (case qNo2 => first | kernel_rfl | exact rfl | decide +kernel)
    (case qU01 => first | decide | decide +kernel)
    (case qU02 => first | decide | decide +kernel)
    (case qU12 => first | decide | decide +kernel)
    (case z1 => k_is)
    (case z2 => k_is)
    (case z3 => k_is)
    (case z4 => k_is)
    (case z5 => k_is)
    (case z6 => k_is)
    (case z7 => k_is)
    (case z8 => k_is)
    (case z9 => k_is)
    (case z10 => k_is)
    (case z11 => k_is)
    (case z12 => k_is)
    (case z13 => k_is)
    (case z14 => k_is)
    (case z15 => k_is)
    (case z16 => k_is)
    (case z17 => k_is)
    (case z18 => k_is)
    (case z19 => k_is)
    (case v1 => k_is)
    (case v2 => k_is)
    (case v3 => k_is)
    (case v4 => k_is)
    (case v5 => k_is)

