import PyProof.Rows.All
import Wide.All
import OpenK.AllK
import Wide.FinOn
import HandS.ForMost
import HandS.IsInst
import HandS.Wide
import HandS.Strs
import HandS.SetTxt0
import HandS.Set
import HandS.SetTxtIn
import HandS.Exc
import HandS.TryOnly
import HandS.ExcOwn
import HandS.WordsExc
import PyProof.ReprReads
import PyProof.Rows.StrCut
import KE.KEqNest
import HandS.StrMore
import HandS.TupAny
import HandS.Conv
import HandS.Iter
import HandS.Defaults
import HandS.DictComp
import HandS.Style
import HandS.Zip
import KE.SortLaws
import HandS.More
import PyProof.ReprLen
import KE.KOpsOwn
import PyProof.InstNe
import KE.KCallOwn
import KE.KOwnIter
import OpenK.KMeth
import HandS.Property
import HandS.FStr
import HandS.RaiseMore
import HandS.ListItems
import KE.GoesMore
import PyProof.EnumMake
import PyProof.Draws
import PyProof.Rows.SortShell
import KE.GoesEnum
import KE.KDictDisplayH
import KE.SortData
import HandS.Sort
import HandS.SetFor
import HandS.TupSets
import HandS.BoundDict
import KE.GoesDict
import HandS.DictSubView0
import HandS.Deep
import KE.KRevSl
import KE.KStrOpen
import PySem.Challenge.RW_whatcounts_k29_whole_merges
set_option Elab.async false
set_option linter.all false
set_option maxRecDepth 100000
set_option maxHeartbeats 3200000
/-! sets of texts: made of a text, sorted -/
namespace Tx
open PySem PySem.Spec PyProof.Rows L2

/-- the text that an entry holds -/
def tx (e : Int × Value) : Str := match e.2 with
  | .str y _ => y
  | _ => Str.empty
/-- an entry of a set of texts -/
def Ent (w : World) (e : Int × Value) : Prop := ∃ y u, e.2 = Value.str y u ∧ e.1 = hashStr w y

/-- at a stands a set whose members are the texts ys, in some order -/
def At (w : World) (h : Heap) (a : Addr) (ys : List Str) : Prop :=
  ∃ (o : Obj) (es : Array (Int × Value)) (ep : Nat) (t : SetTable), h.get? a = some o ∧ o.ExactSet ∧ o.data = .set es ep t ∧
    (∀ e ∈ es.toList, Ent w e) ∧ (es.toList.map tx).Perm ys ∧ es.size < scanBound ∧ t.fits es.size = true ∧
    Ris t.place.toList ∧ (w.params.followText "set-order" = true ∨ t.led = true)

section
variable {P : Program} {w : World} {h h' : Heap} {a : Addr} {ys : List Str}
theorem At.stays (R : At w h a ys) (k : ∀ o, h.get? a = some o → h'.get? a = some o) : At w h' a ys :=
  let ⟨o, es, ep, t, ho, r⟩ := R
  ⟨o, es, ep, t, k o ho, r⟩
theorem Ent.elems {l : List (Int × Value)} (g : ∀ e ∈ l, Ent w e) : ElemsOf (strKind P w) l := by
  intro e he
  obtain ⟨y, u, q1, q2⟩ := g e he
  refine ⟨⟨y, ?_, q2⟩, ?_⟩
  · rw [q1]
    exact Froz.is_str y u
  · rw [q1]
    rfl
theorem Ent.is {e : Int × Value} (g : Ent w e) (k : Str) : (strKind P w).is k e.2 = true ↔ tx e = k := by
  obtain ⟨y, u, q1, _⟩ := g
  unfold tx
  rw [q1]
  constructor
  · intro q
    exact ((strKind P w).inj (.str y u) k y q (Froz.is_str y u)).symm
  · intro q
    subst q
    exact Froz.is_str _ u
theorem Ent.mem {l : List (Int × Value)} (g : ∀ e ∈ l, Ent w e) (k : Str) : k ∈ l.map tx ↔ ∃ e ∈ l, (strKind P w).is k e.2 = true := by
  rw [List.mem_map]
  exact ⟨fun ⟨e, he, q⟩ => ⟨e, he, ((g e he).is k).mpr q⟩, fun ⟨e, he, q⟩ => ⟨e, he, ((g e he).is k).mp q⟩⟩
end

section
variable {P : Program} {w : World} {A : Around} {E : Value → Shared → Prop} {s : Shared} {a : Addr} {ys : List Str}
theorem add_tail {g : Bool → Sem Unit} (hg : ∀ (b : Bool) (z : Shared) (R : Unit → Shared → Prop), R () z → wpAny (model P w) A (g b) R E z)
    {o : Obj} {es : Array (Int × Value)} {ep : Nat} {t : SetTable} (ho : s.heap.get? a = some o) (hx : o.ExactSet) (hd : o.data = .set es ep t)
    {es1 : Array (Int × Value)} {t2 : SetTable} (g1 : ∀ e ∈ es1.toList, Ent w e) (m1 : (es1.toList.map tx).Perm ys)
    (hb1 : es1.size < scanBound) (hf2 : t2.fits es1.size = true) (hr : Ris t2.place.toList) (hl : w.params.followText "set-order" = true ∨ t2.led = true)
    {was : Bool} {R : Option Bool → Shared → Prop}
    (hR : ∀ h', Heap.SameBut a s.heap h' → At w h' a ys → R (some true) { s with heap := h' }) :
    wpAny (model P w) A (do
        storeSet a es1 t2
        if (!was && t2.tooFull) = true then do
            g (relayAll t2 es1 (SetTable.grown es1.size)).2.2
            storeSet a (relayAll t2 es1 (SetTable.grown es1.size)).1 (relayAll t2 es1 (SetTable.grown es1.size)).2.1
            pure (some true)
          else pure (some true)) R E s := by
  refine wpAny_bind (wpAny_storeSet_of ho hd ?_ (fits_of_scanBound hb1))
  have q1 := store_at (es' := es1) (t' := t2) ho hd
  have sb := Heap.SameBut.update s.heap a (Obj.putSet es1 t2)
  split
  · have p3 := relayAll_perm t2 es1 (SetTable.grown es1.size)
    have f3 := relayAll_fits t2 es1 (SetTable.grown es1.size)
    have r3 := relayAll_ris t2 es1 (SetTable.grown es1.size)
    have l3 := relayAll_led t2 es1 (SetTable.grown es1.size)
    generalize relayAll t2 es1 (SetTable.grown es1.size) = Z at p3 f3 r3 l3 ⊢
    obtain ⟨es2, t3, gave⟩ := Z
    dsimp only at p3 f3 r3 l3 ⊢
    have z2 : es2.size = es1.size := by
      have := p3.length_eq
      rw [Array.length_toList, Array.length_toList] at this
      exact this
    refine wpAny_bind (hg _ _ _ ?_)
    refine wpAny_bind (wpAny_storeSet_of q1 rfl ?_ (fits_of_scanBound (by rw [z2]; exact hb1)))
    have q2 := store_at (es' := es2) (t' := t3) q1 rfl
    refine wpAny_pure (hR _ (sb.trans (Heap.SameBut.update _ a _)) ?_)
    exact ⟨_, es2, _, t3, q2, hx, rfl, fun e he => g1 e (p3.mem_iff.mp he), (p3.map tx).trans m1, by rw [z2]; exact hb1, f3, r3, hl.imp id fun z => l3.trans z⟩
  · exact wpAny_pure (hR _ sb ⟨_, es1, _, t2, q1, hx, rfl, g1, m1, hb1, hf2, hr, hl⟩)

theorem add_hashed {k : Str} {u : Tok} {Q : Bool → Shared → Prop} (R : At w s.heap a ys) (room : ys.length + 1 < scanBound)
    (hQ : ∀ h', Heap.SameBut a s.heap h' → At w h' a (if k ∈ ys then ys else k :: ys) → Q (!decide (k ∈ ys)) { s with heap := h' }) :
    wpAny (model P w) A (setAddHashed a (.str k u) (hashStr w k)) Q E s := by
  obtain ⟨o, es, ep, t, ho, hx, hd, g, pm, hb, hf, hr, hl⟩ := R
  have hkey : (strKind P w).is k (.str k u) = true := Froz.is_str k u
  have hel : ElemsOf (strKind P w) es.toList := Ent.elems g
  have hz : es.size = ys.length := by
    have := pm.length_eq
    rw [List.length_map, Array.length_toList] at this
    exact this
  unfold setAddHashed setAddHashedIn
  refine wpAny_holding (wpAny_bind (wpAny_setState_of ho hd hf ?_))
  dsimp only
  rw [byScan_of (x := Value.str k u) rfl hb hel]
  simp only [↓reduceIte]
  unfold setAddByScan
  refine wpAny_bind ?_
  refine wpAny_bind (wpAny_rule ?_)
  refine wpAny_bind (wpAny_setScan_of (knd := strKind P w) (k := k) hkey ho hd hf hel ?_)
  cases hfi : List.findIdx? (fun e => (strKind P w).is k e.2) es.toList with
  | some j =>
    dsimp only
    obtain ⟨hj, pj, _⟩ := List.findIdx?_eq_some_iff_getElem.mp hfi
    have hk : k ∈ ys := pm.mem_iff.mp ((Ent.mem (P := P) g k).mpr ⟨es.toList[j], List.getElem_mem hj, pj⟩)
    refine wpAny_pure (wpAny_pure ?_)
    have q := hQ s.heap (Heap.SameBut.refl a s.heap) (by rw [if_pos hk]; exact ⟨o, es, ep, t, ho, hx, hd, g, pm, hb, hf, hr, hl⟩)
    rw [decide_eq_true hk] at q
    exact q
  | none =>
    dsimp only
    have hk : k ∉ ys := fun z => by
      obtain ⟨e, he, q⟩ := (Ent.mem (P := P) g k).mp (pm.mem_iff.mpr z)
      have c := List.findIdx?_eq_none_iff.mp hfi e he
      rw [q] at c
      cases c
    have hgw : ∀ (b : Bool) {z : Shared} {R : Unit → Shared → Prop}, R () z → wpAny (model P w) A (match b with | true => rule "set.scan.the-table-gave-way" | false => pure ()) R E z := by
      intro b z R q
      cases b
      · exact wpAny_pure q
      · exact wpAny_rule q
    have p1 := layNew_perm t es (hashStr w k) (.str k u)
    have f1 := layNew_fits t es (hashStr w k) (.str k u)
    have r1 := layNew_ris t es (hashStr w k) (.str k u) hr
    have l1 := layNew_led t es (hashStr w k) (.str k u)
    generalize layNew t es (hashStr w k) (.str k u) = Z at p1 f1 r1 l1 ⊢
    obtain ⟨es1, t1, was, gave⟩ := Z
    dsimp only at p1 f1 r1 l1 ⊢
    rw [Array.toList_push] at p1
    have pc : es1.toList.Perm ((hashStr w k, Value.str k u) :: es.toList) := p1.trans (List.perm_append_singleton _ _)
    have pk : (es1.toList.map tx).Perm (k :: ys) := (pc.map tx).trans (List.Perm.cons k pm)
    have g1 : ∀ e ∈ es1.toList, Ent w e := by
      intro e he
      cases List.mem_cons.mp (pc.mem_iff.mp he) with
      | inl z => exact ⟨k, u, by rw [z], by rw [z]⟩
      | inr z => exact g e z
    have hb1 : es1.size < scanBound := by
      have e1 : es1.size = ys.length + 1 := by
        have := pk.length_eq
        rw [List.length_map, Array.length_toList] at this
        exact this
      rw [e1]
      exact room
    have hld : w.params.followText "set-order" = true ∨ t1.led = true := hl.imp id fun z => l1.trans z
    have fin : ∀ h', Heap.SameBut a s.heap h' → At w h' a (k :: ys) → Q true { s with heap := h' } := by
      intro h' sb r
      have q := hQ h' sb (by rw [if_neg hk]; exact r)
      rw [decide_eq_false hk] at q
      exact q
    refine wpAny_bind (hgw _ ?_)
    split
    · refine wpAny_bind ?_
      rw [hashByValue_scannable 8 (x := Value.str k u) rfl]
      refine wpAny_pure ?_
      refine add_tail (ys := k :: ys) ?_ ho hx hd g1 pk hb1 ?_ ?_ ?_ ?_
      · intro b z R q
        cases b
        · exact wpAny_pure q
        · exact wpAny_rule q
      · first | (split <;> first | exact f1 | exact SetTable.fits_plain_off f1) | exact f1
      · first | (split <;> exact r1) | exact r1
      · first | (split <;> exact hld) | exact hld
      · intro h' sb r
        dsimp only
        exact wpAny_pure (fin h' sb r)
    · refine wpAny_bind (wpAny_pure ?_)
      simp only [↓reduceIte]
      refine add_tail (ys := k :: ys) ?_ ho hx hd g1 pk hb1 f1 r1 hld ?_
      · intro b z R q
        cases b
        · exact wpAny_pure q
        · exact wpAny_rule q
      · intro h' sb r
        dsimp only
        exact wpAny_pure (fin h' sb r)
end

/-! ### the signs of a text, each once -/
abbrev one (c : Nat) : Str := ⟨#[c]⟩
theorem one_inj {c d : Nat} (h : one c = one d) : c = d := by
  have q : [c] = [d] := congrArg (fun y : Str => y.cps.toList) h
  exact (List.cons.inj q).1
/-- the members behind the first signs -/
def met : List Nat → List Nat → List Nat
  | acc, [] => acc
  | acc, c :: r => met (if c ∈ acc then acc else c :: acc) r
theorem met_len (l : List Nat) : ∀ acc : List Nat, (met acc l).length ≤ acc.length + l.length := by
  induction l with
  | nil => intro acc; exact Nat.le_refl _
  | cons c r ih =>
    intro acc
    have h := ih (if c ∈ acc then acc else c :: acc)
    show (met (if c ∈ acc then acc else c :: acc) r).length ≤ acc.length + (r.length + 1)
    split at h <;> rename_i hc
    · rw [if_pos hc]; omega
    · rw [if_neg hc]
      rw [List.length_cons] at h
      omega
theorem met_mem (l : List Nat) : ∀ (acc : List Nat) (c : Nat), c ∈ met acc l ↔ c ∈ acc ∨ c ∈ l := by
  induction l with
  | nil => intro acc c; simp [met]
  | cons d r ih =>
    intro acc c
    show c ∈ met (if d ∈ acc then acc else d :: acc) r ↔ _
    rw [ih]
    by_cases hd : d ∈ acc
    · rw [if_pos hd, List.mem_cons]
      constructor
      · rintro (q | q)
        · exact .inl q
        · exact .inr (.inr q)
      · rintro (q | q | q)
        · exact .inl q
        · exact .inl (q ▸ hd)
        · exact .inr q
    · rw [if_neg hd, List.mem_cons, List.mem_cons]
      constructor
      · rintro ((q | q) | q)
        · exact .inr (.inl q)
        · exact .inl q
        · exact .inr (.inr q)
      · rintro (q | q | q)
        · exact .inl (.inr q)
        · exact .inl (.inl q)
        · exact .inr q
theorem met_nodup (l : List Nat) : ∀ acc : List Nat, acc.Nodup → (met acc l).Nodup := by
  induction l with
  | nil => intro acc h; exact h
  | cons d r ih =>
    intro acc h
    refine ih _ ?_
    by_cases hd : d ∈ acc
    · rw [if_pos hd]; exact h
    · rw [if_neg hd]; exact List.nodup_cons.mpr ⟨hd, h⟩
theorem met_mono (l : List Nat) : ∀ (acc : List Nat), acc.length ≤ (met acc l).length := by
  induction l with
  | nil => intro acc; exact Nat.le_refl _
  | cons d r ih =>
    intro acc
    refine Nat.le_trans ?_ (ih _)
    by_cases hd : d ∈ acc
    · rw [if_pos hd]; exact Nat.le_refl _
    · rw [if_neg hd]; exact Nat.le_succ _
theorem mem_one {c : Nat} {l : List Nat} : one c ∈ l.map one ↔ c ∈ l := by
  rw [List.mem_map]
  exact ⟨fun ⟨d, hd, q⟩ => one_inj q ▸ hd, fun q => ⟨c, q, rfl⟩⟩

section
variable {P : Program} {w : World} {A : Around} {R : Result → Shared → Prop} {I : Addr} {fp wr : List Addr} {St : Nat → Heap → Prop} {x : Str}
/-- the making: sign by sign into the set at S -/
theorem loop (W : Walks P w A.in1 I fp wr x.cps.size (SignAt x) St) (S : Addr) (hS : S ∉ fp) (hfew : (met [] x.cps.toList).length + 1 < scanBound) :
    ∀ (r : List Nat) (i : Nat) (acc : List Nat) (s : Shared), x.cps.toList.drop i = r → i ≤ x.cps.size → met acc r = met [] x.cps.toList → St i s.heap → At w s.heap S (acc.map one) →
      (∀ h' tk, (∀ b o, b ≠ S → b ∉ wr → s.heap.get? b = some o → h'.get? b = some o) → At w h' S ((met [] x.cps.toList).map one) → R (.ok (.ret .none)) { s with heap := h', toks := tk }) →
      codeAny (model P w) A (.builtin "set.update.loop" ⟨[.ref S, .ref I], []⟩) R s := by
  have hSw : S ∉ wr := fun z => hS (W.sub _ z)
  intro r
  induction r with
  | nil =>
    intro i acc s hr hi hm hst hat hR
    have hin : i = x.cps.size := by
      have := List.drop_eq_nil_iff.mp hr
      rw [Array.length_toList] at this
      omega
    subst hin
    refine codeAny_builtin PyProof.Rows.F.entry_set_update_loop ?_
    rw [Around.under_plainId PyProof.Rows.F.plain_set_update_loop _]
    show wpAny _ A.in1 (pyNext (.ref I) >>= _) _ _ s
    refine wpAny_bind (W.done s _ _ hst fun h' tk k => ?_)
    show wpAny _ A.in1 (ret Value.none) _ _ _
    refine wpAny_pure (hR h' tk (fun b o _ hb e => k b o hb e) ?_)
    have e : acc = met [] x.cps.toList := hm
    rw [← e]
    exact hat.stays fun o e => k S o hSw e
  | cons c r ih =>
    intro i acc s hr hi hm hst hat hR
    obtain ⟨hx, hr2⟩ := Froz.at_of hr
    have hlt : i < x.cps.size := by
      rcases Nat.lt_or_ge i x.cps.size with z | z
      · exact z
      · rw [Array.getElem?_eq_none z] at hx
        cases hx
    refine codeAny_builtin PyProof.Rows.F.entry_set_update_loop ?_
    rw [Around.under_plainId PyProof.Rows.F.plain_set_update_loop _]
    show wpAny _ A.in1 (pyNext (.ref I) >>= _) _ _ s
    refine wpAny_bind (W.item i s _ _ hlt hst fun v h1 tk1 hv hst1 k1 => ?_)
    obtain ⟨d, u, hd, rfl⟩ := hv
    have ed : d = c := Option.some.inj (hd.symm.trans hx)
    subst ed
    have hat1 : At w h1 S (acc.map one) := hat.stays fun o e => k1 S o hSw e
    show wpAny _ A.in1 (holding [Value.str (one d) u] (setAdd S (.str (one d) u)) >>= _) _ _ _
    refine wpAny_bind (wpAny_holding ?_)
    unfold setAdd
    refine wpAny_holding ?_
    refine wpAny_bind ((strKind P w).pyHash (k := one d) (Froz.is_str _ _) ?_)
    have hlen : (acc.map one).length + 1 < scanBound := by
      rw [List.length_map]
      have := met_mono (d :: r) acc
      rw [hm] at this
      omega
    refine add_hashed (ys := acc.map one) (s := { s with heap := h1, toks := tk1 + 1 }) hat1 hlen fun h2 sb hat2 => ?_
    have e2 : (if one d ∈ acc.map one then acc.map one else one d :: acc.map one) = (if d ∈ acc then acc else d :: acc).map one := by
      by_cases z : d ∈ acc
      · rw [if_pos z, if_pos (mem_one.mpr z)]
      · rw [if_neg z, if_neg (fun q => z (mem_one.mp q))]
        rfl
    rw [e2] at hat2
    have k2 : ∀ b o, b ≠ S → h1.get? b = some o → h2.get? b = some o := fun b o hb e => (sb.2 b hb).trans e
    refine wpAny_pure ⟨plainId_quiet PyProof.Rows.F.plain_set_update_loop _, ih (i + 1) _ _ hr2 hlt hm (W.frame _ _ _ hst1 fun b hb o e => k2 b o (fun z => hS (z ▸ hb)) e) hat2 fun h3 tk3 k3 hat3 => ?_⟩
    exact hR h3 tk3 (fun b o hb hw e => k3 b o hb hw (k2 b o hb (k1 b o hw e))) hat3
end
end Tx

set_option Elab.async false
set_option linter.all false
set_option maxRecDepth 100000
set_option maxHeartbeats 3200000
/-! sets of texts: set(a text), sorted(it), as calls -/
namespace Tx
open PySem PySem.Spec PyProof.Rows L2

section
variable {P : Program} {w : World} {A : Around} {E : Value → Shared → Prop} {s : Shared}
theorem fresh_at (w : World) (h : Heap) (led : Bool) (hl : w.params.followText "set-order" = true ∨ led = true) :
    At w (h.push { cls := .type "set", dict := none, data := .set #[] 0 (.fresh 0 0 led) }) h.objs.size ([] : List Str) :=
  ⟨_, #[], 0, .fresh 0 0 led, Heap.get?_push_size _ rfl, ⟨rfl, rfl, rfl⟩, rfl, (fun e he => by simp at he), by simp, by decide, by rfl, List.Pairwise.nil, hl⟩

/-- a new set, as set.__new__ lays it -/
theorem new_set (v : Value) {R : Value → Shared → Prop}
    (h : R (.ref s.heap.objs.size) { s with heap := s.heap.push { cls := .type "set", dict := none, data := .set #[] 0 (.fresh 0 0 (!w.params.followText "set-order")) } }) :
    codeAny (model P w) A (.call (.builtin "set.__new__") ⟨[.type "set", v], []⟩) (wants R E) s := by
  refine codeAny_of_tree ?_
  show wpAny _ A.in1 (do
    checkBuiltinCall "set.__new__" ⟨[.type "set", v], []⟩
    again (.builtin "set.__new__" ⟨[.type "set", v], []⟩)) _ _ s
  refine wpAny_bind (wpAny_of_eq (F.newCall_set_1 v) (wpAny_pure ⟨plainId_quiet F.plain_set_new _, codeAny_builtin F.entry_set_new ?_⟩))
  rw [Around.under_plainId F.plain_set_new _]
  unfold Builtin.«set.__new__»
  unfold Builtin.Frozenset.newClass
  have hsub := sub_set_self
  obtain ⟨hp, g, d, tk, os⟩ := s
  dsimp only
  wp_walk
  refine wpAny_askSetting (wpAny_pure ?_)
  dsimp only
  simp only [newObj]
  exact wpAny_bind (wpAny_alloc (wpAny_pure (wpAny_pure h)))

theorem call_set_text {x : Str} {t : Tok} {Q : Value → Shared → Prop} (hh : A.handled = none) (hfew : (met [] x.cps.toList).length + 1 < scanBound)
    (h : ∀ (h' : Heap) (tk : Nat), At w h' s.heap.objs.size ((met [] x.cps.toList).map one) → (∀ b o, s.heap.get? b = some o → h'.get? b = some o) → Q (.ref s.heap.objs.size) { s with heap := h', toks := tk }) :
    wpAny (model P w) A (call (.type "set") [.str x t]) Q E s := by
  obtain ⟨c, tl, hmro⟩ := PySem.F.called_set.mro
  have hmade := PySem.F.called_set.made
  have hsub := PySem.F.called_set.sub
  refine wpAny_call (codeAny_of_tree ?_)
  show wpAny _ _ (callAny (.type "set") _) _ _ _
  refine wpAny_pure ⟨Code.quiet_builtin _ (by decide +kernel), codeAny_builtin PySem.F.entry_type_call ?_⟩
  rw [Around.under_plain (weight_type_call_type "set" [.str x t] []) rfl]
  have h1 := PySem.F.called_set.notType
  have h2 := PySem.F.called_set.canCreate
  have hct := PySem.F.typeCall_set_1 (.str x t)
  repeat (any_goals (first | assumption | wp_step))
  refine codeAny_mono (new_set (P := P) (w := w) (E := E) (.str x t) (R := fun obj z => ∃ led : Bool, (w.params.followText "set-order" = true ∨ led = true) ∧ obj = .ref s.heap.objs.size ∧ z = { s with heap := s.heap.push { cls := .type "set", dict := none, data := .set #[] 0 (.fresh 0 0 led) } }) ⟨_, ?_, rfl, rfl⟩) fun r z hr => ?_
  · cases w.params.followText "set-order"
    · exact .inr rfl
    · exact .inl rfl
  cases r with
  | error e => exact hr
  | ok fl =>
    cases fl with
    | ret obj =>
      obtain ⟨led, hled, rfl, rfl⟩ := hr
      have hS : (s.heap.push { cls := .type "set", dict := none, data := .set #[] 0 (.fresh 0 0 led) }).get? s.heap.objs.size = some { cls := .type "set", dict := none, data := .set #[] 0 (.fresh 0 0 led) } := Heap.get?_push_size _ rfl
      have hT : Shared.TypeIs { s with heap := s.heap.push { cls := .type "set", dict := none, data := .set #[] 0 (.fresh 0 0 led) } } (.ref s.heap.objs.size) "set" := ⟨_, hS, rfl⟩
      have hli := PySem.F.called_set.init.lookup
      have hbi := PySem.F.called_set.init.bind (.ref s.heap.objs.size)
      repeat (any_goals (first | assumption | wp_step))
      refine codeAny_mono (codeAny_call_builtin (R := wants (fun r z => r = .none ∧ ∃ h' tk, z = { s with heap := h', toks := tk } ∧ At w h' s.heap.objs.size ((met [] x.cps.toList).map one) ∧
          (∀ b o, s.heap.get? b = some o → h'.get? b = some o)) E) PySem.F.called_set.init.plain PySem.F.entry_set_init (check_set_init_1 hT ?_)) fun r₂ s₂ hr₂ => ?_
      · unfold Builtin.«set.__init__» noKeywords Builtin.Frozenset.updateFrom
        generalize hPI : pyIter = PI
        generalize hAS : Builtin.Frozenset.isAnySet = AS
        wp_walk
        subst hPI
        subst hAS
        refine L2.Fz.anySet ?_
        simp only [Bool.false_eq_true, ↓reduceIte]
        refine wpAny_bind (wpAny_typeOf (typeIs_str _ _ _) ?_)
        have hsd : (Value.type "str" == Value.type "dict") = false := by decide
        simp only [hsd, Bool.false_eq_true, ↓reduceIte]
        refine wpAny_bind (wpAny_pyIter_str fun o St W hst => ?_)
        refine wpAny_bind (wpAny_runValue ?_)
        have hne : s.heap.objs.size ∉ [(s.heap.push { cls := .type "set", dict := none, data := .set #[] 0 (.fresh 0 0 led) }).objs.size] := by
          rw [Heap.size_push, List.mem_singleton]
          exact Nat.ne_of_lt (Nat.lt_succ_self _)
        refine loop (W _ (by simp [hh])) s.heap.objs.size hne hfew _ 0 [] _ (by rfl) (Nat.zero_le _) rfl hst ?_ ?_
        · exact (fresh_at w s.heap led hled).stays fun o e => Heap.get?_push_of_some _ e
        · intro h' tk k hat
          refine wpAny_pure ?_
          show wpAny _ _ (ret Value.none) _ _ _
          refine wpAny_pure ⟨rfl, h', tk, rfl, hat, fun b o e => ?_⟩
          have hb := Heap.lt_size e
          refine k b o (Nat.ne_of_lt hb) ?_ (Heap.get?_push_of_some _ (Heap.get?_push_of_some _ e))
          rw [Heap.size_push, List.mem_singleton]
          exact Nat.ne_of_lt (Nat.lt_succ_of_lt hb)
      · cases r₂ with
        | error e => exact hr₂
        | ok fl₂ =>
          cases fl₂ with
          | ret r =>
            obtain ⟨rfl, h', tk, rfl, hS', hk'⟩ := hr₂
            repeat (any_goals (first | assumption | wp_step))
            exact h _ _ hS' hk'
          | _ => exact hr₂.elim
    | _ => exact hr.elim

/-! ### sorted(a set of one-sign texts) -/
theorem vals_strs {vs : List Value} : ∀ {es : List (Int × Value)}, (∀ e ∈ es, Ent w e) → vs.Perm (es.map (·.2)) → StrsAre vs (vs.map strOf) ∧ (vs.map strOf).Perm (es.map tx) := by
  intro es g p
  refine ⟨strsAre_map vs fun v hv => ?_, ?_⟩
  · obtain ⟨e, he, q⟩ := List.mem_map.mp (p.mem_iff.mp hv)
    obtain ⟨y, u, q1, _⟩ := g e he
    exact ⟨y, u, by rw [← q]; exact q1⟩
  · have q := p.map strOf
    rw [List.map_map] at q
    have e : es.map (strOf ∘ (·.2)) = es.map tx := List.map_congr_left fun e he => by
      obtain ⟨y, u, q1, _⟩ := g e he
      show strOf e.2 = tx e
      unfold tx
      rw [q1]
      rfl
    rw [e] at q
    exact q
theorem pairwise_of_sortedS : ∀ (l : List Str), sortedS l = true → l.Pairwise (fun a b => ltCps b.cps.toList a.cps.toList = false) := by
  have trans : ∀ a b c : List Nat, ltCps b a = false → ltCps c b = false → ltCps c a = false := by
    intro a b c h1 h2
    rw [ltCps_eq] at h1 h2 ⊢
    have h1' := of_decide_eq_false h1
    have h2' := of_decide_eq_false h2
    refine decide_eq_false fun z => ?_
    have n1 : a ≤ b := List.not_lt.mp h1'
    have n2 : b ≤ c := List.not_lt.mp h2'
    exact absurd z (List.not_lt.mpr (List.le_trans n1 n2))
  have all : ∀ (l : List Str) (p : Str), risingS p l = true → (p :: l).Pairwise (fun a b => ltCps b.cps.toList a.cps.toList = false) := by
    intro l
    induction l with
    | nil => intro p _; exact List.pairwise_singleton _ _
    | cons x r ih =>
      intro p h
      have h' : (!ltCps x.cps.toList p.cps.toList && risingS x r) = true := h
      rw [Bool.and_eq_true, Bool.not_eq_true'] at h'
      have q := ih x h'.2
      refine List.pairwise_cons.mpr ⟨fun y hy => ?_, q⟩
      rcases List.mem_cons.mp hy with z | z
      · rw [z]; exact h'.1
      · exact trans _ _ _ h'.1 ((List.pairwise_cons.mp q).1 y z)
  intro l h
  cases l with
  | nil => exact List.Pairwise.nil
  | cons x r => exact all r x h
theorem lt_one {c d : Nat} (h : ltCps (one d).cps.toList (one c).cps.toList = false) : c ≤ d := by
  rw [ltCps_eq] at h
  have q := of_decide_eq_false h
  rcases Nat.lt_or_ge d c with z | z
  · exact absurd (show [d] < [c] from List.cons_lt_cons_iff.mpr (.inl z)) q
  · exact z
/-- sorted one-sign texts, each once, are a rising row of signs -/
theorem rising {ss : List Str} {acc : List Nat} (p : ss.Perm (acc.map one)) (hs : sortedS ss = true) (hn : acc.Nodup) : ∃ ns : List Nat, ss = ns.map one ∧ ns.Perm acc ∧ ns.Pairwise (· < ·) := by
  have back : ∀ l : List Nat, (l.map one).map (fun y => y.cps.toList.headD 0) = l := by
    intro l
    rw [List.map_map]
    exact (List.map_congr_left fun c _ => rfl).trans (List.map_id l)
  have e : ss = (ss.map (fun y => y.cps.toList.headD 0)).map one := by
    rw [List.map_map]
    refine ((List.map_congr_left fun y hy => ?_).trans (List.map_id ss)).symm
    obtain ⟨c, _, q⟩ := List.mem_map.mp (p.mem_iff.mp hy)
    subst q
    rfl
  have pm : (ss.map (fun y => y.cps.toList.headD 0)).Perm acc := by
    have q := p.map (fun y => y.cps.toList.headD 0)
    rw [back] at q
    exact q
  refine ⟨_, e, pm, ?_⟩
  generalize ss.map (fun y => y.cps.toList.headD 0) = ns at e pm ⊢
  subst e
  have h1 := List.pairwise_map.mp (pairwise_of_sortedS _ hs)
  have h2 : ns.Nodup := pm.nodup_iff.mpr hn
  have h3 : ns.Pairwise (· ≠ ·) := h2
  refine List.Pairwise.imp₂ (fun x y a b => ?_) h1 h3
  have c := lt_one a
  omega

theorem sorted_text {a : Addr} {acc : List Nat} {Q : Value → Shared → Prop} (R : At w s.heap a (acc.map one)) (hn : acc.Nodup) (hh : A.handled = none) (h64 : acc.length < 64)
    (hQ : ∀ z p (out : Array Value) (c : Nat) (ns : List Nat), (∀ b o, s.heap.get? b = some o → z.heap.get? b = some o) → z.gens = s.gens → z.os = s.os → s.heap.objs.size ≤ p →
      z.heap.get? p = some (seqObj "list" out c) → StrsAre out.toList (ns.map one) → ns.Pairwise (· < ·) → ns.Perm acc → Q (.ref p) z) :
    wpAny (model P w) A (call (.builtin "sorted") [.ref a]) Q E s := by
  obtain ⟨o, es, ep, t, ho, hx, hd, g, pm, hb, hf, hr, hl⟩ := R
  refine Calls.call_function_entry kind_sorted plain_sorted entry_sorted (args_sorted1 _) ?_
  unfold Builtin.«sorted»
  refine wpAny_bind (m := checkCount "sorted" 1 1 _) (wpAny_pure ?_)
  refine wpAny_bind (collect_set (A := A.in1) hh ⟨o, ho, hx.1, hd⟩ hf hb hr hl fun s1 vs k1 hz g1 o1 pv => ?_)
  obtain ⟨hS, ps⟩ := vals_strs (w := w) g pv
  have ps2 := ps.trans pm
  have hvl : vs.length < 64 := by
    have q := ps2.length_eq
    rw [List.length_map, List.length_map] at q
    rw [q]; exact h64
  refine wpAny_bind (wpAny_newList ?_ (by rw [sizeLine_eq]; omega))
  have hoL : (s1.heap.push (seqObj "list" vs.toArray 0)).get? s1.heap.objs.size = some (seqObj "list" vs.toArray 0) := Heap.get?_push_size _ rfl
  refine wpAny_bind (wpAny_holding (wpAny_call_entry slot_list_sort ⟨_, hoL, rfl⟩ entry_list_sort
    (list_sort_treeK strKind_oneLt hoL hS.keysOf (fun v₁ v₂ rest e => keyKind_strs (by rw [← e]; exact hS)) hvl fun st' hp hs => ⟨_, rfl, ?_⟩) (args_list_sort _)))
  obtain ⟨ss, b1, b2, b3⟩ := sorted_out_str hS hp hs
  obtain ⟨ns, e, pn, ris⟩ := rising (b2.trans ps2) b3 hn
  subst e
  obtain ⟨c, hc⟩ := sortedHeap_at (vs := vs) (out := (arrOf st').map (·.2)) hoL
  refine wpAny_pure ⟨_, rfl, hQ _ s1.heap.objs.size _ c ns (fun b u e => ?_) g1 o1 hz hc b1 ris pn⟩
  have q := k1 b u e
  have hlt := Heap.lt_size q
  show (sortedHeap (s1.heap.push (seqObj "list" vs.toArray 0)) s1.heap.objs.size vs _).get? b = some u
  rw [sortedHeap_old (Nat.ne_of_lt hlt) (by rw [size_push']; exact Nat.lt_succ_of_lt hlt)]
  exact Heap.get?_push_of_some _ q
end
end Tx

set_option Elab.async false
set_option linter.all false
set_option maxRecDepth 100000
set_option maxHeartbeats 3200000
/-! defs that show data by repr: what is known of a call's guards goes along -/
namespace Tg
open PySem PySem.Spec PyProof.Rows L2

/-- nothing is being shown where the call stands -/
abbrev Still (A : Around) : Prop := A.guards = some []

/-- a def's promise, kept where nothing is being shown -/
structure Kept (P : Program) (w : World) (K : PySem.W.Frag) (mg : Str → Option Value) (base : Heap) (cx : CXT) (k : Nat) (f : Addr) (fd : FuncData) (ps : List Str) (sp : Sp) : Prop where
  long : ∀ xs H Q E, sp xs H Q E → xs.length = ps.length
  goes : ∀ (A : Around) (out : List Env) (s : Shared) (H : Hp) (args : Args) (us : List Value) (xs : List V) (Q : VK) (E : XK), Room k A → Still A → Env0 P w K mg base A out s H →
    BindsTo s fd args (ps.zip us) → Vals xs us → sp xs H Q E → codeAny (model P w) A (.call (.ref f) args) (CR cx out P w H s Q E) s

section
variable {P : Program} {w : World} {K : PySem.W.Frag} {mg : Str → Option Value} {base : Heap}
theorem Kept.ok {cx : CXT} {k : Nat} {f : Addr} {name qual : Str} {params : Arguments} {body : List Stmt} {scope : Scope} {dV kV doc pm cdv ct oc : Value} {an od : Option Addr}
    {osl : Array (Option Value)} {N ps : List Str} {sp : Sp}
    (look : K.lookup f = some ⟨oc, od, .func (PySem.W.fnOf name qual params body scope dV kV doc pm an cdv ct), osl⟩)
    (code : PySem.W.codeIn K cdv qual = true) (S : FnScope N ps scope) (long : ∀ xs H Q E, sp xs H Q E → xs.length = ps.length)
    (inner : ∀ (A : Around) (out : List Env) (s : Shared) (H : Hp) (xs : List V) (Q : VK) (E : XK), Room k (A.deeper (envOfC qual scope s.heap.objs.size f cdv)) →
      Still (A.deeper (envOfC qual scope s.heap.objs.size f cdv)) → sp xs H Q E →
      ∃ t, PSs (cxOf cx P w K mg base N qual scope f cdv A out s H E) body t ∧ t { nx := fun _ H2 => Q .non H2, rt := Q } (start N xs) H) :
    Kept P w K mg base cx (k + 1) f (PySem.W.fnOf name qual params body scope dV kV doc pm an cdv ct) ps sp where
  long := long
  goes := by
    intro A out s H args us xs Q E room still e0 bound rel hsp
    have hl := long _ _ _ _ hsp
    have inK : K.In s.heap := e0.mod.kin.keeps fun b o e => (e0.bs b o e).1
    have limit : s.heap.NoLimit := e0.mod.nolimit.keeps fun b o e => (e0.bs b o e).1
    have kinds : ∀ y ∈ ps.zip us, scope.names.lookup y.1 = some .local ∨
        (scope.names.lookup y.1 = some .cell ∧ ((cellsFrom (s.heap.objs.size + 1) scope.names []).lookup y.1).isSome = true) := by
      rintro ⟨n, v⟩ hy
      cases S.par n (List.of_mem_zip hy).1 with
      | inl q => exact .inl q
      | inr q => exact .inr ⟨q, PySem.W.cellsFrom_some _ _ _ (.inl q)⟩
    refine codeAny_call_function room.depth (inK _ _ look) rfl S.co S.gen rfl (PySem.W.codeRec_of inK code) (bound _ _ _ _ ?_)
    refine wpAny_newFunctionEnv_cells S.kind kinds fun env he z x => ?_
    subst he
    refine ⟨limit.keeps x.toInCall.keep, codeAny_func ?_⟩
    obtain ⟨t, ht, hq⟩ := inner A out s H xs Q E (room.deeper _) still hsp
    have J0 : Inv (cxOf cx P w K mg base N qual scope f cdv A out s H E) [] (start N xs) H z := inv_start S room.hd e0 hl rel x
    refine wpAny_mono (ht.run [] z (start N xs) H _ J0 hq) (fun fl z' hs => ?_) fun e z' hs => hs
    have close : ∀ {σ' : L2.St} {H2 : Hp} {v : V} {u : Value}, Inv (cxOf cx P w K mg base N qual scope f cdv A out s H E) [] σ' H2 z' → RelV v u → Q v H2 → CE out P w H s Q u z' := by
      intro σ' H2 v u J rv q
      exact ⟨v, H2, J.os, J.bare, J.base, J.hok, rv, q⟩
    cases fl with
    | ret u =>
      obtain ⟨v, σ', H2, J, rv, q⟩ := hs
      exact close J rv q
    | next =>
      obtain ⟨σ', H2, J, q⟩ := hs
      exact close (v := V.non) (u := Value.none) J rfl q
    | brk =>
      obtain ⟨_, _, _, q⟩ := hs
      exact q.elim
    | cont =>
      obtain ⟨_, _, _, q⟩ := hs
      exact q.elim

/-- for a def of the text that lets nothing out -/
theorem Kept.fn {x qual : Str} {st : Stmt} {f : Addr} {fd : FuncData} {N ps : List Str} {k : Nat} {sp : Sp} (F : Fun K x qual st f fd) (S : FnScope N ps (defScope st))
    (long : ∀ xs H Q E, sp xs H Q E → xs.length = ps.length)
    (inner : ∀ (cdv : Value) (A : Around) (out : List Env) (s : Shared) (H : Hp) (xs : List V) (Q : VK) (E : XK), Room k (A.deeper (envOfC qual (defScope st) s.heap.objs.size f cdv)) →
      Still (A.deeper (envOfC qual (defScope st) s.heap.objs.size f cdv)) → sp xs H Q E →
      ∃ t, PSs (cxOf CX0 P w K mg base N qual (defScope st) f cdv A out s H E).nox (defBody st) t ∧ t { nx := fun _ H2 => Q .non H2, rt := Q } (start N xs) H) :
    Kept P w K mg base CX0 (k + 1) f fd ps sp := by
  obtain ⟨oc, od, kV, doc, pm, an, cdv, ct, osl, e, look, code⟩ := F.ex
  subst e
  refine Kept.ok look code S long fun A out s H xs Q E room still hsp => ?_
  obtain ⟨t, h, q⟩ := inner cdv A out s H xs Q E room still hsp
  exact ⟨t, h.nox, q⟩
end

section
variable {X : Cx} {cx : CXT} {k : Nat} {f : Addr} {fd : FuncData} {ps : List Str} {sp : Sp} {dvs : List V} {ds : List Value} {E : XK} {x : Str} {p pos : Pos} {e : Expr} {es : List Expr} {t : TA}
theorem Kept.runs {pins : List (Addr × Obj)} {σ : L2.St} {H : Hp} {s : Shared} {Q : VK} {us : List Value} {xs : List V} (F : Kept X.prog X.w X.K X.mg X.base cx k f fd ps sp) (room : Room k X.A) (still : Still X.A)
    (hb : Binds X.K fd ps ds) (hd : Vals dvs ds) (hx : Passes cx X E) (I : Inv X pins σ H s) (r : Vals xs us) (h : sp (xs ++ dvs) H Q E) :
    wpAny (model X.prog X.w) X.A (call (.ref f) us) (EP X pins σ Q) X.xe s := by
  have r2 : Vals (xs ++ dvs) (us ++ ds) := r.append hd
  have hl : (us ++ ds).length = ps.length := r2.length.symm.trans (F.long _ _ _ _ h)
  refine wpAny_call (codeAny_mono (F.goes X.A X.stack s H ⟨us, []⟩ (us ++ ds) (xs ++ dvs) Q E room still I.env0 (hb s us I.kIn hl) r2 h) fun r z hq => ?_)
  match r, hq with
  | .error e, hq => exact hx pins σ H s e z I hq
  | .ok (.ret u), hq => exact I.after hq
  | .ok .next, hq => exact False.elim hq
  | .ok .brk, hq => exact False.elim hq
  | .ok .cont, hq => exact False.elim hq
/-- f(e, ..) of such a def -/
theorem pe_callG (F : Kept X.prog X.w X.K X.mg X.base cx k f fd ps sp) (room : Room k X.A) (still : Still X.A) (hg : Gl X x) (hm : X.mg x = some (.ref f)) (hk : PySem.W.keepIn X.K (.ref f) = true)
    (hb : Binds X.K fd ps ds) (hd : Vals dvs ds) (hx : Passes cx X E) (ha : PA X (e :: es) t) (hdb : (x == ("__debug__" : Str)) = false := by decide)
    (he : starEach (e :: es) X.env = (false, eval e X.env) :: starEach es X.env := by rfl) (hpl : (backTo pos (starEach es X.env)).any (·.1) = false := by rfl) :
    PE X (.Call (.Name x p) (e :: es) [] pos) (tCall sp dvs E t) := by
  constructor
  intro pins s σ H Q I h
  refine wpAny_Call_Name_kw (ld_glob I hg hm ?_ hdb)
  refine PySem.W.callWith_K (h₀ := X.base) I.ok.mod.kin hk ?_ he hpl
  exact thn (ha.run pos pins s σ H _ I h) fun us z ⟨xs, H1, J, r, q⟩ => ⟨J.kIn, F.runs room still hb hd hx J r q⟩

/-- data as it stands in the abstract heap: none, bools, ints, texts, lists, tuples, and dicts of texts and ints -/
inductive Data (K : PySem.W.Frag) (H : Hp) : V → PyData → Prop
  | flat {v : V} {d : PyData} (h : Dp K H v d) (n : d.hasDict = false) : Data K H v d
  | dict {a : Addr} {kvs : List (Str × Int)} (h : H a = some (.dK (kvs.map fun p => (Sum.inr p.1, V.int p.2)))) : Data K H (.ref a) (.dict (kvs.map fun p => (.str p.1, .int p.2)))

theorem keys_flat (h : Heap) : ∀ (kvs : List (Str × Int)) (es : List DictEntry) (vs : List (Key × Value)), Pairs (mixKind X.prog X.w) es vs → KV (kvs.map fun p => (Sum.inr p.1, V.int p.2)) vs →
    ReadsAll h (es.map (·.key)) ((kvs.map fun p => ((PyData.str p.1, PyData.int p.2) : PyData × PyData)).map (·.1)) [] ∧ ReadsAll h (es.map (·.val)) ((kvs.map fun p => ((PyData.str p.1, PyData.int p.2) : PyData × PyData)).map (·.2)) [] := by
  intro kvs
  induction kvs with
  | nil =>
    intro es vs hp rel
    cases rel
    cases hp
    exact ⟨.nil, .nil⟩
  | cons p kvs ih =>
    intro es vs hp rel
    cases rel with
    | @cons _ kv _ vs' r1 r2 =>
      cases hp with
      | @cons e _ es' _ hk hv hp' =>
        obtain ⟨q1, q2⟩ := ih _ _ hp' r2
        obtain ⟨k0, v0⟩ := kv
        obtain ⟨r3, r4⟩ := r1
        dsimp only at r3 r4 hk hv
        subst r3
        obtain ⟨t, r4⟩ := r4
        rcases keyIs_shape (show keyIs (Sum.inr p.1 : Key) e.key = true from hk) with ⟨i, t', z, _⟩ | ⟨x, t', z, e'⟩
        · cases z
        · cases z
          refine ⟨?_, ?_⟩
          · show ReadsAll h (e.key :: _) (PyData.str p.1 :: _) ([] ++ [])
            rw [e']
            exact .cons (.str _ _) q1
          · show ReadsAll h (e.val :: _) (PyData.int p.2 :: _) ([] ++ [])
            rw [hv, r4]
            exact .cons (.int _ _) q2
theorem Data.reads {pins : List (Addr × Obj)} {σ : L2.St} {H : Hp} {s : Shared} (I : Inv X pins σ H s) {v : V} {u : Value} {d : PyData} (h : Data X.K H v d) (r : RelV v u) :
    ∃ as, Reads s.heap u d as ∧ (d.hasDict = true → sysModules ∉ as) := by
  cases h with
  | flat h n =>
    obtain ⟨as, q⟩ := Dp.reads I d v u h r
    exact ⟨as, q, fun z => by rw [n] at z; cases z⟩
  | @dict a kvs h =>
    cases r
    obtain ⟨hz, hs, vs, rel, o, es, ep, ho, hx, hd, _, hp, _⟩ := I.hok a _ h
    obtain ⟨q1, q2⟩ := keys_flat (X := X) s.heap kvs _ _ hp rel
    refine ⟨_, Reads.dict ho hx.1 hd q1 q2, fun _ z => ?_⟩
    simp only [List.append_nil, List.mem_singleton] at z
    rw [z] at hs
    simp at hs

/-- repr(x) -/
def rShow (K : PySem.W.Frag) : List V → Hp → VK → Prop := fun xs H Q => ∃ (x : V) (d : PyData), xs = [x] ∧ Data K H x d ∧ d.showable = true ∧ d.depth < 60 ∧ d.shown.length ≤ sizeLine ∧ Q (.str d.shown) H
theorem call_show (still : Still X.A) (hu : X.A.units + 64 < cLine) : CallR X (.builtin "repr") (rShow X.K) := by
  intro pins s σ H xs us Q I r h
  obtain ⟨x, d, rfl, hd, h1, h3, h4, q⟩ := h
  obtain ⟨u, rfl, r1⟩ : ∃ u, us = [u] ∧ RelV x u := by
    cases r with
    | cons a b => cases b; exact ⟨_, rfl, a⟩
  obtain ⟨as, rd, hsm⟩ := Data.reads I hd r1
  cases rd with
  | none => exact P.repr_of_none ⟨.str (PyData.shown .none), H, I.tok _, ⟨_, rfl⟩, q⟩
  | bool b => exact P.repr_of_bool ⟨.str (PyData.shown (.bool b)), H, I.tok _, ⟨_, rfl⟩, q⟩
  | int i t => exact P.repr_of_int (of_decide_eq_true h1) ⟨.str (PyData.shown (.int i)), H, I.tok _, ⟨_, rfl⟩, q⟩
  | str z t => exact P.repr_of_str ⟨.str (PyData.shown (.str z)), H, I.tok _, ⟨_, rfl⟩, q⟩ h4
  | list a1 a2 a3 a4 => exact repr_of_reads' (Reads.list a1 a2 a3 a4) h1 hsm still (by omega) (fun _ _ e => e) (fun h' u tk hk => ⟨.str (PyData.shown _), H, I.kept (t' := tk) hk, ⟨_, rfl⟩, q⟩) h4
  | tuple a1 a2 a3 a4 => exact repr_of_reads' (Reads.tuple a1 a2 a3 a4) h1 hsm still (by omega) (fun _ _ e => e) (fun h' u tk hk => ⟨.str (PyData.shown _), H, I.kept (t' := tk) hk, ⟨_, rfl⟩, q⟩) h4
  | dict a1 a2 a3 a4 a5 => exact repr_of_reads' (Reads.dict a1 a2 a3 a4 a5) h1 hsm still (by omega) (fun _ _ e => e) (fun h' u tk hk => ⟨.str (PyData.shown _), H, I.kept (t' := tk) hk, ⟨_, rfl⟩, q⟩) h4
end

/-! ### the head: the law's call, nothing being shown -/
section
variable {P : Program} {w : World} {K : PySem.W.Frag} {mg mb : Str → Option Value} {cx : CXT} {k : Nat} {fa a : Addr} {fd : FuncData} {x : Str} {sp : Sp} {s₁ : Shared} {vs : List Value} {ns : List Int}
/-- from one abstract heap in which at most the script stands -/
theorem law_core (KX : K.In s₁.heap) (hns : s₁.heap.Ns mainGlobals mg) (hb : s₁.heap.Ns builtinsNs mb) (hbb : ∀ x : Str, x ≠ "__name__" → mb x = bootBuiltins x) (hlim : s₁.heap.NoLimit) (hg : s₁.gens = #[])
    (ha : s₁.heap.get? a = some { cls := .type "list", data := .seq vs.toArray }) (room : Room k callerA)
    (F : ∀ base : Heap, K.In base → base.Ns mainGlobals mg → Kept P w K mg base cx k fa fd [x] sp) (hbind : ∀ (s : Shared) (u : Value), BindsTo s fd ⟨[u], []⟩ [(x, u)])
    (hcx : ∀ H e z, cx [] H s₁ (fun _ _ _ => False) e z → False)
    (H : Hp) (only : Only H) (want : sp [.ref a] H (fun v _ => v = .bl true) fun _ _ _ => False) (hok : HOk P w H s₁.heap) (at_a : ∀ b, H b ≠ none → b = a) (notK : H a ≠ none → K.lookup a = none) :
    codeAny (model P w) callerA (.call (.ref fa) ⟨[.ref a], []⟩) (fun r z => r = .ok (.ret (.bool true)) ∧ OldK s₁.heap z.heap ∧ z.os = s₁.os ∧ AllBare z.gens) s₁ := by
  have under : ∀ {b : Addr} {o : Obj}, s₁.heap.get? b = some o → H b = none → (hidT s₁.heap H).get? b = some o := fun e n => hidT_get e n
  have away : ∀ {b : Addr}, (b = a → False) → H b = none := by
    intro b n
    cases q : H b with
    | none => rfl
    | some u => exact (n (at_a b (by rw [q]; simp))).elim
  have noDict : ∀ {b : Addr} {o : Obj} {es : Array DictEntry} {ep : Nat}, s₁.heap.get? b = some o → o.data = .dict es ep → H b = none := by
    intro b o es ep e d
    refine away fun z => ?_
    subst z
    rw [ha] at e
    cases e
    cases d
  have names : ∀ {b : Addr} {m : Str → Option Value}, s₁.heap.Ns b m → (hidT s₁.heap H).Ns b m := by
    rintro b m ⟨o, es, ep, e, d, r⟩
    exact ⟨o, es, ep, under e (noDict e d), d, r⟩
  have inB : K.In (hidT s₁.heap H) := by
    intro b o e
    refine under (KX b o e) ?_
    cases q : H b with
    | none => rfl
    | some u =>
      have z := at_a b (by rw [q]; simp)
      subst z
      have n := notK (by rw [q]; simp)
      rw [n] at e
      cases e
  have md : Mod K mg (hidT s₁.heap H) := ⟨inB, names hns, ⟨mb, names hb, hbb⟩, let ⟨mc, h1, h2⟩ := hlim; ⟨mc, names h1, h2⟩⟩
  have e0 : Env0 P w K mg (hidT s₁.heap H) callerA [] s₁ H := by
    refine ⟨rfl, md, fun b o e => of_hidT e, Nat.le_of_eq (hidT_size _ _), trivial, fun b hb => ?_, hok, .of_eq hg⟩
    exact absurd (show b ∈ ([] : List Addr) from hb) (by simp)
  refine codeAny_mono ((F _ inB (names hns)).goes callerA [] s₁ H ⟨[.ref a], []⟩ [.ref a] [.ref a] _ _ room rfl e0 (hbind s₁ (.ref a)) (.cons rfl .nil) want) fun r z h => ?_
  match r, h with
  | .error e, h => exact (hcx H e z h).elim
  | .ok .next, h => exact False.elim h
  | .ok .brk, h => exact False.elim h
  | .ok .cont, h => exact False.elim h
  | .ok (.ret u), h =>
    obtain ⟨v, H2, os, bare, un, hok2, r2, q⟩ := h
    have q' : v = .bl true := q
    subst q'
    obtain rfl : u = Value.bool true := r2
    refine ⟨rfl, OldK.of_keep fun b o e => ?_, os, bare⟩
    cases q : H b with
    | none =>
      refine un.keep b o e q (fun y => ?_) (by simp)
      exact absurd (show b ∈ ([] : List Addr) from y) (by simp)
    | some u =>
      rcases only b with y | ⟨ob, xs, y⟩
      · rw [q] at y
        cases y
      · have y2 := un.frzs b ob _ y
        obtain ⟨e1, _⟩ := hok b _ y
        obtain ⟨e2, _⟩ := hok2 b _ y2
        rw [e] at e1
        cases e1
        exact e2

theorem law_call (KX : K.In s₁.heap) (hns : s₁.heap.Ns mainGlobals mg) (hb : s₁.heap.Ns builtinsNs mb) (hbb : ∀ x : Str, x ≠ "__name__" → mb x = bootBuiltins x) (hlim : s₁.heap.NoLimit) (hg : s₁.gens = #[])
    (ha : s₁.heap.get? a = some { cls := .type "list", data := .seq vs.toArray }) (hi : IntsAre vs ns) (hl : ns.length ≤ sizeLine) (room : Room k callerA)
    (F : ∀ base : Heap, K.In base → base.Ns mainGlobals mg → Kept P w K mg base cx k fa fd [x] sp) (hbind : ∀ (s : Shared) (u : Value), BindsTo s fd ⟨[u], []⟩ [(x, u)])
    (hsp : ∀ H : Hp, Only H → SqL K H a (ns.map V.int) → sp [.ref a] H (fun v _ => v = .bl true) fun _ _ _ => False)
    (hcx : ∀ H e z, cx [] H s₁ (fun _ _ _ => False) e z → False) :
    codeAny (model P w) callerA (.call (.ref fa) ⟨[.ref a], []⟩) (fun r z => r = .ok (.ret (.bool true)) ∧ OldK s₁.heap z.heap ∧ z.os = s₁.os ∧ AllBare z.gens) s₁ := by
  have rel := vals_ints hi
  have len := hi.length
  have core := law_core KX hns hb hbb hlim hg ha room F hbind hcx
  cases hk : K.lookup a with
  | some o =>
    have e := KX a o hk
    rw [ha] at e
    cases e
    have only : Only (fun _ => none) := fun _ => .inl rfl
    refine core (fun _ => none) only (hsp _ only ?_) (fun b u z => nomatch (show (none : Option HO) = some u from z)) (fun b z => absurd rfl z) fun z => absurd rfl z
    exact .inr ⟨_, vs.toArray, _, hk, rfl, rfl, rfl, by rw [List.size_toArray, len]; exact hl, by simpa using rel⟩
  | none =>
    have only : Only (fun b => if b = a then some (.frz { cls := .type "list", data := .seq vs.toArray } (.lst (ns.map V.int))) else none) := by
      intro b
      by_cases z : b = a
      · exact .inr ⟨_, _, if_pos z⟩
      · exact .inl (if_neg z)
    refine core _ only (hsp _ only ?_) (fun b u z => ?_) (fun b z => ?_) fun _ => hk
    · exact .inl (.inr ⟨{ cls := .type "list", data := .seq vs.toArray }, if_pos rfl⟩)
    · by_cases y : b = a
      · have z' := (if_pos y).symm.trans z
        cases z'
        subst y
        exact ⟨ha, by rw [List.length_map]; exact hl, vs, _, rel, ha⟩
      · have z' := (if_neg y).symm.trans z
        cases z'
    · by_cases y : b = a
      · exact y
      · exact absurd (if_neg y) z
end

/-- the goal that the head leaves -/
theorem walk {l : PySem.W.OpenLaw} {n k : Nat} {q : Program} {loose : List Str} {XP : (Str → Option Value) → Heap → Prop} {YP : World → Heap → Prop} {d : DefRec} {K : Params → PySem.W.Frag} {cx : World → CXT} {sp : World → Sp} {x : Str}
    (hn : l.most = some n) (hn2 : n ≤ sizeLine) (hdf : d.params.defaults = []) (room : Room k callerA) (hY : ∀ (w : World) (h : Heap), YP w h → (K w.params).In h)
    (F : ∀ (w : World) (mg : Str → Option Value) (fa : Addr) (h : Heap), (K w.params).In h → h.Ns mainGlobals mg → mg d.name = some (.ref fa) → XP mg h →
      ∃ fd : FuncData, (∀ (s : Shared) (u : Value), BindsTo s fd ⟨[u], []⟩ [(x, u)]) ∧
        ∀ base : Heap, (K w.params).In base → base.Ns mainGlobals mg → Kept l.prog w (K w.params) mg base (cx w) k fa fd [x] (sp w))
    (hsp : ∀ (w : World) (H : Hp) (a : Addr) (ns : List Int), ns.length ≤ n → Only H → SqL (K w.params) H a (ns.map V.int) → sp w [.ref a] H (fun v _ => v = .bl true) fun _ _ _ => False)
    (hcx : ∀ (w : World) (H : Hp) (s : Shared) (e : Value) (z : Shared), cx w [] H s (fun _ _ _ => False) e z → False) :
    PySem.W.WalkO q loose XP YP l.row.toRowW d [] (fun f vs => PySem.call f vs) := by
  refine Att.attach_call hn hdf ?_
  intro w s₀ s₁ mg mb fa o pm cd doc a vs ns G Y ho hd hcd hmg hobj hints hlen hg
  have KX := hY w _ Y
  obtain ⟨fd, hb, hF⟩ := F w mg fa _ KX G.T.g hmg G.X
  exact law_call KX G.T.g G.T.b G.T.builtins G.T.nolimit hg hobj hints (Nat.le_trans hlen hn2) room hF hb (fun H hO hS => hsp w H a ns hlen hO hS) fun H e z => hcx w H s₁ e z
end Tg

set_option Elab.async false
set_option linter.all false
set_option maxRecDepth 100000
set_option maxHeartbeats 3200000
/-! set(a text), sorted(it), list(a text), as rules -/
namespace Tx
open PySem PySem.Spec PyProof.Rows L2

/-- the signs of a text, each once, rising -/
def ups (l : List Nat) : List Nat := (met [] l).mergeSort (fun a b => decide (a ≤ b))
theorem ups_perm (l : List Nat) : (ups l).Perm (met [] l) := List.mergeSort_perm _ _
theorem ups_mem (l : List Nat) (c : Nat) : c ∈ ups l ↔ c ∈ l := by
  rw [(ups_perm l).mem_iff, met_mem]
  simp
theorem ups_nodup (l : List Nat) : (ups l).Nodup := (ups_perm l).nodup_iff.mpr (met_nodup l [] List.nodup_nil)
theorem ups_up (l : List Nat) : (ups l).Pairwise (· < ·) := by
  have h1 : (ups l).Pairwise (fun a b => decide (a ≤ b) = true) :=
    List.pairwise_mergeSort (le := fun a b : Nat => decide (a ≤ b)) (fun a b c h1 h2 => by
      have h1' := of_decide_eq_true h1
      have h2' := of_decide_eq_true h2
      exact decide_eq_true (Nat.le_trans h1' h2')) (fun a b => by
      rcases Nat.le_total a b with z | z
      · simp [z]
      · simp [z]) (met [] l)
  have h2 : (ups l).Pairwise (· ≠ ·) := ups_nodup l
  refine List.Pairwise.imp₂ (fun x y a b => ?_) h1 h2
  have a' := of_decide_eq_true a
  omega
theorem up_eq : ∀ {l m : List Nat}, l.Pairwise (· < ·) → m.Pairwise (· < ·) → (∀ c, c ∈ l ↔ c ∈ m) → l = m
  | [], [], _, _, _ => rfl
  | [], y :: m, _, _, h => by have := (h y).mpr List.mem_cons_self; simp at this
  | x :: l, [], _, _, h => by have := (h x).mp List.mem_cons_self; simp at this
  | x :: l, y :: m, h1, h2, h => by
    obtain ⟨a1, a2⟩ := List.pairwise_cons.mp h1
    obtain ⟨b1, b2⟩ := List.pairwise_cons.mp h2
    have e : x = y := by
      rcases List.mem_cons.mp ((h x).mp List.mem_cons_self) with z | z
      · exact z
      · rcases List.mem_cons.mp ((h y).mpr List.mem_cons_self) with u | u
        · exact u.symm
        · have := a1 y u
          have := b1 x z
          omega
    subst e
    rw [up_eq a2 b2 fun c => ?_]
    constructor
    · intro q
      rcases List.mem_cons.mp ((h c).mp (List.mem_cons_of_mem _ q)) with z | z
      · subst z
        exact absurd (a1 _ q) (Nat.lt_irrefl _)
      · exact z
    · intro q
      rcases List.mem_cons.mp ((h c).mpr (List.mem_cons_of_mem _ q)) with z | z
      · subst z
        exact absurd (b1 _ q) (Nat.lt_irrefl _)
      · exact z
theorem ups_of {l ns : List Nat} (h : ns.Pairwise (· < ·)) (p : ns.Perm (met [] l)) : ns = ups l :=
  up_eq h (ups_up l) fun c => by rw [p.mem_iff, ups_mem, met_mem]; simp

/-- one-sign texts as values -/
abbrev ones (l : List Nat) : List V := l.map fun c => V.str (one c)
theorem ones_map (l : List Nat) : ones l = (l.map one).map V.str := by rw [List.map_map]; rfl

/-- the set of texts at a -/
def TO (w : World) (a : Addr) (acc : List Nat) : HO := .ext fun h => At w h a (acc.map one)
section
variable {X : Cx}
theorem to_new {w : World} {P : Program} {H : Hp} {h : Heap} {a : Addr} {acc : List Nat} (R : At w h a (acc.map one)) : ObjOk P w H h a (TO w a acc) :=
  ⟨R, let ⟨o, _, _, _, ho, _⟩ := R; ⟨o, ho⟩, fun _ _ p k => At.stays p k⟩
/-- set(s), s a text of few different signs -/
def rSetTx (w : World) : List V → Hp → VK → Prop := fun xs H Q => ∃ z : Str, xs = [.str z] ∧ (met [] z.cps.toList).length < 64 ∧ ∀ p, H p = none → Q (.ref p) (upd H p (TO w p (met [] z.cps.toList)))
theorem cr_setTx (hc : X.calm = true) : CallR X (.type "set") (rSetTx X.w) := by
  intro pins s σ H xs us Q I r h
  obtain ⟨z, rfl, hf, q⟩ := h
  obtain ⟨t, rfl⟩ : ∃ t, us = [Value.str z t] := by
    cases r with
    | cons a b =>
      cases b
      obtain ⟨t, rfl⟩ := a
      exact ⟨t, rfl⟩
  have hb : (met [] z.cps.toList).length + 1 < scanBound := by
    have : (64 : Nat) + 1 < scanBound := by decide
    omega
  refine call_set_text (P := X.prog) (w := X.w) (I.ok.hd hc) hb fun h' tk R k => ?_
  exact ⟨.ref _, upd H s.heap.objs.size (TO X.w s.heap.objs.size (met [] z.cps.toList)), I.laid (t' := tk) k (Nat.le_refl _) (to_new R), rfl, q _ (I.hok.fresh (Nat.le_refl _))⟩
/-- sorted(a set of texts) -/
def rSortTx (w : World) : List V → Hp → VK → Prop := fun xs H Q => ∃ (a : Addr) (l : List Nat), xs = [.ref a] ∧ H a = some (TO w a (met [] l)) ∧ (met [] l).length < 64 ∧ ∀ p, H p = none → Q (.ref p) (upd H p (.lst (ones (ups l))))
theorem cr_sortTx (hc : X.calm = true) : CallR X (.builtin "sorted") (rSortTx X.w) := by
  intro pins s σ H vs us Q I r h
  obtain ⟨a, l, rfl, ha, h64, q⟩ := h
  have R : At X.w s.heap a ((met [] l).map one) := (I.hok a _ ha).1
  rw [Vals.ref1 r]
  refine sorted_text (P := X.prog) R (met_nodup l [] List.nodup_nil) (I.ok.hd hc) h64 fun z p out c ns k g o hp hg hS up pm => ?_
  obtain rfl := ups_of up pm
  have hlen : (ones (ups l)).length ≤ sizeLine := by
    rw [List.length_map, pm.length_eq, sizeLine_eq]
    omega
  have hn : H p = none := I.hok.fresh hp
  have hv : Vals (ones (ups l)) out.toList := by rw [ones_map]; exact vals_of_strs hS
  have J : Inv X pins σ (upd H p (.lst (ones (ups l)))) { s with heap := z.heap, gens := z.gens, drawn := z.drawn, toks := z.toks } :=
    I.call (ch := []) (Un.laid k hp hn) (I.hok.laid k hp ⟨hlen, out.toList, c, hv, hg⟩) (by rw [g]; exact I.bare) (fun _ y => nomatch y)
  have e : z = { s with heap := z.heap, gens := z.gens, drawn := z.drawn, toks := z.toks } := by
    cases z
    cases s
    cases o
    rfl
  rw [e]
  exact ⟨.ref p, _, J, rfl, q p hn⟩
/-- list(s), s a text -/
def rListTx : List V → Hp → VK → Prop := fun xs H Q => ∃ z : Str, xs = [.str z] ∧ z.length ≤ sizeLine ∧ ∀ p, H p = none → Q (.ref p) (upd H p (.lst (ones z.cps.toList)))
theorem signs_vals {z : Str} {acc : Array Value} (h : ItemsOf (SignAt z) acc z.cps.size) : Vals (ones z.cps.toList) acc.toList := by
  have all : ∀ (l : List Nat) (us : List Value), us.length = l.length → (∀ (j : Nat) (v : Value), us[j]? = some v → ∃ (c : Nat) (u : Tok), l[j]? = some c ∧ v = Value.str (one c) u) → Vals (ones l) us := by
    intro l
    induction l with
    | nil =>
      intro us hl _
      cases us with
      | nil => exact .nil
      | cons u us => simp at hl
    | cons c l ih =>
      intro us hl hg
      cases us with
      | nil => simp at hl
      | cons u us =>
        obtain ⟨d, t, h1, h2⟩ := hg 0 u rfl
        have e : c = d := Option.some.inj h1
        subst e
        refine .cons ⟨t, h2⟩ (ih us (by simpa using hl) fun j v hv => ?_)
        exact hg (j + 1) v hv
  refine all _ _ (by rw [Array.length_toList, Array.length_toList]; exact h.1) fun j v hv => ?_
  rw [Array.getElem?_toList] at hv
  obtain ⟨c, u, h1, h2⟩ := h.2 j v hv
  exact ⟨c, u, by rw [Array.getElem?_toList]; exact h1, h2⟩
theorem cr_listTx (hc : X.calm = true) : CallR X (.type "list") rListTx := by
  intro pins s σ H xs us Q I r h
  obtain ⟨z, rfl, hl, q⟩ := h
  cases r with
  | cons a b =>
    cases b
    obtain ⟨t, rfl⟩ := a
    refine call_list_str (I.ok.hd hc) z t (hn := hl) fun h' tk acc c k hg hi => ?_
    have hz : (ones z.cps.toList).length ≤ sizeLine := by
      rw [List.length_map, Array.length_toList]
      exact hl
    exact ⟨.ref _, upd H s.heap.objs.size (.lst (ones z.cps.toList)), I.laid (t' := tk) k (Nat.le_refl _) ⟨hz, acc.toList, c, signs_vals hi, by simpa using hg⟩, rfl, q _ (I.hok.fresh (Nat.le_refl _))⟩
/-- a ** b, the result below 2 ^ 27 bits -/
theorem op_powW : OpR X (binaryOp .Pow) (rI (fun i j => 0 ≤ j ∧ (Builtin.Int.intBits i : Int) * j ≤ 2 ^ 27) fun i j => .int (i ^ j.toNat)) := opI fun _ _ _ _ _ _ _ hc q => pow_int hc.1 hc.2 q
end
end Tx

set_option Elab.async false
set_option linter.all false
set_option maxRecDepth 100000
set_option maxHeartbeats 3200000
/-! what the judges are worth, over plain data -/
namespace Tm
open PySem PySem.Spec PySem.Builtin PySem.Builtin.Str PyProof.Rows L2 Tx

abbrev cds (z : Str) : List Nat := z.cps.toList
theorem cds_ext {y z : Str} (h : cds y = cds z) : y = z := by
  cases y with
  | mk a =>
    cases z with
    | mk b =>
      have e : a = b := Array.toList_inj.mp h
      rw [e]
theorem cds_len (z : Str) : (cds z).length = z.length := by
  show z.cps.toList.length = z.cps.size
  rw [Array.length_toList]
/-- every sign of z is one of sg -/
def only (z sg : Str) : Bool := (cds z).all fun c => decide (c ∈ cds sg)
theorem only_iff {z sg : Str} : only z sg = true ↔ ∀ c ∈ cds z, c ∈ cds sg := by
  unfold only
  rw [List.all_eq_true]
  exact ⟨fun h c hc => of_decide_eq_true (h c hc), fun h c hc => decide_eq_true (h c hc)⟩
theorem getD_mem {z : Str} {k : Nat} (h : k < z.length) : z.cps.getD k 0 ∈ cds z := by
  have h' : k < z.cps.size := h
  have e : z.cps.getD k 0 = z.cps[k] := by simp [Array.getD, h']
  rw [e]
  exact Array.getElem_mem_toList h'
theorem mem_getD {z : Str} {c : Nat} (h : c ∈ cds z) : ∃ k, k < z.length ∧ z.cps.getD k 0 = c := by
  obtain ⟨k, hk, e⟩ := List.getElem_of_mem h
  have hk' : k < z.cps.size := by rw [Array.length_toList] at hk; exact hk
  refine ⟨k, hk', ?_⟩
  rw [← e]
  simp [Array.getD, hk']
theorem goes_iff {sg : Str} {c : Nat} : sg.cps.contains c = true ↔ c ∈ cds sg := by
  rw [Array.contains_iff_mem, Array.mem_toList_iff]
/-- strip with all the signs of sg leaves nothing exactly if there is no other sign -/
theorem strip_only (z sg : Str) : decide (Txt.stripChars z sg = Str.empty) = only z sg := by
  unfold Txt.stripChars
  rw [stripBy_eq]
  obtain ⟨a1, a2, a3⟩ := lo_facts sg.cps.contains z
  obtain ⟨b1, b2, b3, b4⟩ := hi_facts sg.cps.contains z _ a1
  generalize stripLo sg.cps.contains true z = lo at a1 a2 a3 b1 b2 b3 b4 ⊢
  generalize stripHi sg.cps.contains true z lo = hi at b1 b2 b3 b4 ⊢
  have key : strSub z lo hi = Str.empty ↔ lo = hi := by
    constructor
    · intro h
      have e : (z.cps.extract lo hi).size = 0 := by
        have := congrArg (fun y : Str => y.cps.size) h
        exact this
      rw [Array.size_extract] at e
      have hb : hi ≤ z.cps.size := b2
      omega
    · intro h
      subst h
      refine cds_ext ?_
      show (z.cps.extract lo lo).toList = (Str.empty).cps.toList
      rw [Array.extract_empty_of_stop_le_start (Nat.le_refl _)]
      rfl
  by_cases h : only z sg = true
  · rw [h]
    refine decide_eq_true (key.mpr ?_)
    have all := only_iff.mp h
    rcases Nat.lt_or_ge lo z.length with hl | hl
    · exfalso
      rcases a3 with e | e
      · omega
      · have := goes_iff.mpr (all _ (getD_mem hl))
        rw [e] at this
        cases this
    · have c2 : hi ≤ z.length := b2
      omega
  · have h' : only z sg = false := by simpa using h
    rw [h']
    refine decide_eq_false fun q => h (only_iff.mpr fun c hc => ?_)
    have e := key.mp q
    obtain ⟨k, hk, rfl⟩ := mem_getD hc
    rcases Nat.lt_or_ge k lo with u | u
    · exact goes_iff.mp (a2 k u)
    · exact goes_iff.mp (b3 k (by omega) hk)

/-! ### the judges -/
def big : Int := 10 ^ 200
def isInt : PyData → Bool
  | .int n => decide (n.natAbs < 10 ^ 200)
  | _ => false
def has (sg : Str) (most : Nat) : PyData → Bool
  | .str z => decide (z.length ≤ most) && only z sg
  | _ => false
def alpha : Str := "abcdefghijklmnopqrstuvwxyz"
def name : PyData → Bool
  | .str z => decide (z.length ≤ 8) && only z alpha && decide (z ≠ Str.empty)
  | _ => false
def rise (z : Str) : Bool := decide (cds z = ups (cds z))
def letters : PyData → Bool
  | .str z => decide (z.length ≤ 3) && only z alpha && decide (z ≠ Str.empty) && rise z
  | _ => false
def prime : PyData → Bool
  | .int n => decide (n = 2 ∨ n = 3 ∨ n = 5 ∨ n = 7)
  | _ => false
def lows (z : Str) : Bool := (cds z).all fun c => decide (97 ≤ c) && decide (c ≤ 122)
def small (most : Nat) : PyData → Bool
  | .str z => decide (1 ≤ z.length) && decide (z.length ≤ most) && lows z
  | _ => false
theorem alpha_iff (c : Nat) : c ∈ cds alpha ↔ 97 ≤ c ∧ c ≤ 122 := by
  have e : cds alpha = (List.range 26).map (· + 97) := by decide +kernel
  rw [e, List.mem_map]
  constructor
  · rintro ⟨k, hk, rfl⟩
    have := List.mem_range.mp hk
    omega
  · rintro ⟨h1, h2⟩
    exact ⟨c - 97, List.mem_range.mpr (by omega), by omega⟩
theorem only_alpha (z : Str) : only z alpha = lows z := by
  unfold only lows
  congr 1
  funext c
  by_cases h : c ∈ cds alpha
  · have := (alpha_iff c).mp h
    simp [h, this.1, this.2]
  · have h2 : ¬ (97 ≤ c ∧ c ≤ 122) := fun q => h ((alpha_iff c).mpr q)
    rw [decide_eq_false h, ← Bool.decide_and, decide_eq_false h2]
theorem nonempty_iff (z : Str) : z ≠ Str.empty ↔ 1 ≤ z.length := by
  constructor
  · intro h
    rcases Nat.eq_zero_or_pos z.length with e | e
    · exfalso
      apply h
      apply cds_ext
      have : (cds z).length = 0 := by rw [cds_len]; exact e
      rw [List.length_eq_zero_iff.mp this]
      rfl
    · exact e
  · intro h e
    subst e
    exact absurd h (by decide)
theorem name_small (d : PyData) : name d = small 8 d := by
  cases d with
  | str z =>
    show (decide (z.length ≤ 8) && only z alpha && decide (z ≠ Str.empty)) = (decide (1 ≤ z.length) && decide (z.length ≤ 8) && lows z)
    rw [only_alpha, decide_eq_decide.mpr (nonempty_iff z)]
    cases decide (z.length ≤ 8) <;> cases lows z <;> cases decide (1 ≤ z.length) <;> rfl
  | _ => rfl
theorem letters_small (d : PyData) : letters d = (small 3 d && (match d with | .str z => rise z | _ => false)) := by
  cases d with
  | str z =>
    show (decide (z.length ≤ 3) && only z alpha && decide (z ≠ Str.empty) && rise z) = (decide (1 ≤ z.length) && decide (z.length ≤ 3) && lows z && rise z)
    rw [only_alpha, decide_eq_decide.mpr (nonempty_iff z)]
    cases decide (z.length ≤ 3) <;> cases lows z <;> cases decide (1 ≤ z.length) <;> cases rise z <;> rfl
  | _ => rfl

/-! ### how numbers and texts are shown -/
theorem shown_int {n k : Int} (h : (toString n : String) = toString k) : n = k := by
  have e := congrArg String.toInt? h
  simpa using e

/-- a text that is judged: short, plain signs, few unlike ones -/
structure Fine (z : Str) : Prop where
  long : z.length ≤ 4001
  few : (met [] (cds z)).length < 64
  plain : ∀ c ∈ cds z, c < 128
/-- the four texts of the primes -/
abbrev four : List V := [.str "2", .str "3", .str "5", .str "7"]
/-- data that is judged -/
def Ok : PyData → Prop
  | .int n => n.natAbs.log2 < 1920
  | .str z => Fine z
  | d => d.showable = true ∧ d.depth < 60 ∧ d.shown.length ≤ sizeLine ∧ inV (.str d.shown) four = false
end Tm

set_option Elab.async false
set_option linter.all false
set_option maxRecDepth 100000
set_option maxHeartbeats 3200000
/-! data with dicts of texts: read, shown, compared -/
namespace Da
open PySem PySem.Spec PyProof.Rows L2 Tg
mutual
inductive Dr (K : PySem.W.Frag) (H : Hp) : V → PyData → Prop
  | non : Dr K H .non .none
  | bl (b : Bool) : Dr K H (.bl b) (.bool b)
  | int (i : Int) : Dr K H (.int i) (.int i)
  | str (z : Str) : Dr K H (.str z) (.str z)
  | lst {a : Addr} {xs : List V} {ds : List PyData} (h : SqL K H a xs) (r : DrAll K H xs ds) : Dr K H (.ref a) (.list ds)
  | tup {a : Addr} {xs : List V} {ds : List PyData} (h : SqT K H a xs) (r : DrAll K H xs ds) : Dr K H (.ref a) (.tuple ds)
  | dct {a : Addr} {kvs : List (Key × V)} {es : List (PyData × PyData)} (h : H a = some (.dK kvs)) (r : DrKv K H kvs es) : Dr K H (.ref a) (.dict es)
inductive DrAll (K : PySem.W.Frag) (H : Hp) : List V → List PyData → Prop
  | nil : DrAll K H [] []
  | cons {v : V} {vs : List V} {d : PyData} {ds : List PyData} (h : Dr K H v d) (r : DrAll K H vs ds) : DrAll K H (v :: vs) (d :: ds)
inductive DrKv (K : PySem.W.Frag) (H : Hp) : List (Key × V) → List (PyData × PyData) → Prop
  | nil : DrKv K H [] []
  | cons {x : Str} {v : V} {kvs : List (Key × V)} {d : PyData} {es : List (PyData × PyData)} (h : Dr K H v d) (r : DrKv K H kvs es) : DrKv K H ((Sum.inr x, v) :: kvs) ((.str x, d) :: es)
end
theorem sqL_same {K : PySem.W.Frag} {H H' : Hp} {a : Addr} {xs : List V} (s : Same H H') (h : SqL K H a xs) : SqL K H' a xs := s.seq h
theorem sqT_same {K : PySem.W.Frag} {H H' : Hp} {a : Addr} {xs : List V} (s : Same H H') (h : SqT K H a xs) : SqT K H' a xs := by
  rcases h with h | h
  · rcases h with h | ⟨o, h⟩
    · exact .inl (.inl (s _ _ h))
    · exact .inl (.inr ⟨o, s _ _ h⟩)
  · exact .inr h
section
variable {K : PySem.W.Frag} {H H' : Hp}
mutual
theorem Dr.same (s : Same H H') : ∀ (d : PyData) (v : V), Dr K H v d → Dr K H' v d
  | .none, _, h => by cases h; exact .non
  | .bool b, _, h => by cases h; exact .bl b
  | .int i, _, h => by cases h; exact .int i
  | .str z, _, h => by cases h; exact .str z
  | .list ds, _, h => by
    cases h with
    | lst h r => exact .lst (sqL_same s h) (DrAll.same s ds _ r)
  | .tuple ds, _, h => by
    cases h with
    | tup h r => exact .tup (sqT_same s h) (DrAll.same s ds _ r)
  | .dict es, _, h => by
    cases h with
    | dct h r => exact .dct (s _ _ h) (DrKv.same s es _ r)
theorem DrAll.same (s : Same H H') : ∀ (ds : List PyData) (vs : List V), DrAll K H vs ds → DrAll K H' vs ds
  | [], _, h => by cases h; exact .nil
  | d :: ds, _, h => by
    cases h with
    | cons h r => exact .cons (Dr.same s d _ h) (DrAll.same s ds _ r)
theorem DrKv.same (s : Same H H') : ∀ (es : List (PyData × PyData)) (kvs : List (Key × V)), DrKv K H kvs es → DrKv K H' kvs es
  | [], _, h => by cases h; exact .nil
  | (k, d) :: es, _, h => by
    cases h with
    | cons h r => exact .cons (Dr.same s d _ h) (DrKv.same s es _ r)
end
end
/-! no list within -/
mutual
def noL : PyData → Bool
  | .none | .bool _ | .int _ | .str _ => true
  | .list _ => false
  | .tuple ds => noLAll ds
  | .dict es => noLKv es
def noLAll : List PyData → Bool
  | [] => true
  | d :: ds => noL d && noLAll ds
def noLKv : List (PyData × PyData) → Bool
  | [] => true
  | (_, d) :: es => noL d && noLKv es
end
/-! ### read off -/
section
variable {X : Cx} {pins : List (Addr × Obj)} {σ : L2.St} {H : Hp} {s : Shared}
theorem dict_entries {kvs : List (Key × V)} {vs : List (Key × Value)} : ∀ {es : List DictEntry}, Pairs (mixKind X.prog X.w) es vs → KV kvs vs → ∀ ds : List (PyData × PyData), DrKv X.K H kvs ds →
    (∀ (d : PyData) (v : V) (u : Value), (∃ k, (k, d) ∈ ds) → Dr X.K H v d → RelV v u → ∃ as, Reads s.heap u d as ∧ (noL d = true → sysModules ∉ as)) →
    ∃ as bs, ReadsAll s.heap (es.map (·.key)) (ds.map (·.1)) as ∧ ReadsAll s.heap (es.map (·.val)) (ds.map (·.2)) bs ∧ sysModules ∉ as ∧ (noLKv ds = true → sysModules ∉ bs) := by
  intro es hp rel ds hd ih
  induction ds generalizing kvs vs es with
  | nil =>
    cases hd
    cases rel
    cases hp
    exact ⟨[], [], .nil, .nil, nofun, fun _ => nofun⟩
  | cons p ds ihd =>
    cases hd with
    | @cons x v kvs d _ h r =>
      cases rel with
      | @cons _ kv _ vs' r1 r2 =>
        cases hp with
        | @cons e _ es' _ hk hv hp' =>
          obtain ⟨as, bs, q1, q2, n1, n2⟩ := ihd hp' r2 r fun d v u ⟨k, hk⟩ => ih d v u ⟨k, List.mem_cons_of_mem _ hk⟩
          obtain ⟨k0, v0⟩ := kv
          obtain ⟨r3, r4⟩ := r1
          dsimp only at r3 r4 hk hv
          subst r3
          obtain ⟨cs, q3, n3⟩ := ih d v v0 ⟨_, List.mem_cons_self⟩ h r4
          rcases keyIs_shape (show keyIs (Sum.inr x : Key) e.key = true from hk) with ⟨i, t', z, _⟩ | ⟨y, t', z, e'⟩
          · cases z
          · cases z
            refine ⟨[] ++ as, cs ++ bs, ?_, ?_, n1, fun hn z => ?_⟩
            · show ReadsAll s.heap (e.key :: _) (PyData.str x :: _) _
              rw [e']
              exact .cons (.str _ _) q1
            · show ReadsAll s.heap (e.val :: _) (d :: _) _
              rw [hv]
              exact .cons q3 q2
            · have hn : (noL d && noLKv ds) = true := hn
              rw [Bool.and_eq_true] at hn
              rcases List.mem_append.mp z with z | z
              · exact n3 hn.1 z
              · exact n2 hn.2 z
mutual
theorem Dr.reads (I : Inv X pins σ H s) : ∀ (d : PyData) (v : V) (u : Value), Dr X.K H v d → RelV v u → ∃ as, Reads s.heap u d as ∧ (noL d = true → sysModules ∉ as)
  | .none, _, _, h, r => by
    cases h
    cases r
    exact ⟨_, Reads.none, fun _ => nofun⟩
  | .bool b, _, _, h, r => by
    cases h
    cases r
    exact ⟨_, Reads.bool b, fun _ => nofun⟩
  | .int i, _, _, h, r => by
    cases h
    obtain ⟨t, rfl⟩ := r
    exact ⟨_, Reads.int i t, fun _ => nofun⟩
  | .str x, _, _, h, r => by
    cases h
    obtain ⟨t, rfl⟩ := r
    exact ⟨_, Reads.str x t, fun _ => nofun⟩
  | .list ds, _, _, h, r => by
    cases h with
    | @lst a xs _ hs ha =>
      cases r
      obtain ⟨its, rv, ⟨o, n, ho, hc, _, hd⟩, _⟩ := I.list hs
      obtain ⟨as, hr, n1⟩ := Dr.readsAll I ds _ its ha rv
      exact ⟨_, Reads.list ho hc hd hr, fun z => nomatch z⟩
  | .tuple ds, _, _, h, r => by
    cases h with
    | tup hs ha =>
      cases r
      obtain ⟨its, rv, ⟨o, ho, hc, n, hd⟩, _⟩ := I.tuple hs
      obtain ⟨as, hr, n1⟩ := Dr.readsAll I ds _ its ha rv
      exact ⟨_, Reads.tuple ho hc hd hr, n1⟩
  | .dict es, _, _, h, r => by
    cases h with
    | @dct a kvs _ hh hr =>
      cases r
      obtain ⟨hz, hs, vs, rel, o, ens, ep, ho, hx, hd, _, hp, _⟩ := I.hok a _ hh
      obtain ⟨as, bs, q1, q2, n1, n2⟩ := dict_entries (X := X) (s := s) hp rel es hr (Dr.readsKv I es)
      refine ⟨_, Reads.dict ho hx.1 hd q1 q2, fun hn z => ?_⟩
      rw [List.cons_append] at z
      rcases List.mem_cons.mp z with z | z
      · rw [z] at hs
        simp at hs
      · rcases List.mem_append.mp z with z | z
        · exact n1 z
        · exact n2 hn z
theorem Dr.readsAll (I : Inv X pins σ H s) : ∀ (ds : List PyData) (vs : List V) (us : List Value), DrAll X.K H vs ds → Vals vs us → ∃ as, ReadsAll s.heap us ds as ∧ (noLAll ds = true → sysModules ∉ as)
  | [], _, _, h, r => by
    cases h
    cases r
    exact ⟨_, ReadsAll.nil, fun _ => nofun⟩
  | d :: ds, _, _, h, r => by
    cases h with
    | cons h1 h2 =>
      cases r with
      | cons r1 r2 =>
        obtain ⟨as, q1, n1⟩ := Dr.reads I d _ _ h1 r1
        obtain ⟨bs, q2, n2⟩ := Dr.readsAll I ds _ _ h2 r2
        refine ⟨_, ReadsAll.cons q1 q2, fun hn z => ?_⟩
        have hn : (noL d && noLAll ds) = true := hn
        rw [Bool.and_eq_true] at hn
        rcases List.mem_append.mp z with z | z
        · exact n1 hn.1 z
        · exact n2 hn.2 z
theorem Dr.readsKv (I : Inv X pins σ H s) : ∀ (es : List (PyData × PyData)) (d : PyData) (v : V) (u : Value), (∃ k, (k, d) ∈ es) → Dr X.K H v d → RelV v u → ∃ as, Reads s.heap u d as ∧ (noL d = true → sysModules ∉ as)
  | [], _, _, _, ⟨_, h⟩, _, _ => nomatch h
  | (k, d) :: es, d', v, u, h, hd, r => by
    by_cases e : d' = d
    · subst e
      exact Dr.reads I d' v u hd r
    · refine Dr.readsKv I es d' v u ?_ hd r
      obtain ⟨k', hk⟩ := h
      rcases List.mem_cons.mp hk with hk | hk
      · exact absurd (congrArg Prod.snd hk) e
      · exact ⟨k', hk⟩
end
end
/-! ### a list display that says where it stands -/
def tLstN (t : TA) : TE := fun σ H Q => t σ H fun xs H1 => xs.length ≤ sizeLine ∧ ∀ p, H1 p = none → p ≠ sysModules → Q (.ref p) (upd H1 p (.lst xs))
section
variable {X : Cx} {es : List Expr} {t : TA} {pos : Pos}
theorem pe_lstN (h : PA X es t) : PE X (.List es pos) (tLstN t) := by
  refine ⟨fun pins s σ H Q I hq => ?_⟩
  refine wpAny_List_spliced (thn (h.run pos pins s σ H _ I hq) fun us s1 ⟨xs, H1, I1, r, z, q⟩ => ⟨by rw [← r.length]; exact z, ?_⟩)
  have hf : H1 s1.heap.objs.size = none := I1.hok.fresh (Nat.le_refl _)
  refine ⟨.ref s1.heap.objs.size, upd H1 s1.heap.objs.size (.lst xs), I1.laid (t' := s1.toks) (fun b u e => Heap.get?_push_of_some _ e) (Nat.le_refl _) ?_, rfl, q _ hf (Nat.ne_of_gt I1.big)⟩
  exact ⟨z, us, 0, r, Heap.get?_push_size _ rfl⟩
end
/-! ### repr -/
/-- what may be shown: no list within, or a list that stands apart with no list within -/
def ShowAt (K : PySem.W.Frag) (H : Hp) (x : V) (d : PyData) : Prop := (Dr K H x d ∧ noL d = true) ∨ ∃ a xs ds, x = .ref a ∧ d = .list ds ∧ a ≠ sysModules ∧ SqL K H a xs ∧ DrAll K H xs ds ∧ noLAll ds = true
def rShowD (K : PySem.W.Frag) : List V → Hp → VK → Prop := fun xs H Q => ∃ (x : V) (d : PyData), xs = [x] ∧ ShowAt K H x d ∧ d.showable = true ∧ d.depth < 60 ∧ d.shown.length ≤ sizeLine ∧ Q (.str d.shown) H
section
variable {X : Cx}
theorem call_showD (still : Still X.A) (hu : X.A.units + 64 < cLine) : CallR X (.builtin "repr") (rShowD X.K) := by
  intro pins s σ H xs us Q I r h
  obtain ⟨x, d, rfl, hd, h1, h3, h4, q⟩ := h
  obtain ⟨u, rfl, r1⟩ : ∃ u, us = [u] ∧ RelV x u := by
    cases r with
    | cons a b => cases b; exact ⟨_, rfl, a⟩
  have rd : ∃ as, Reads s.heap u d as ∧ sysModules ∉ as := by
    rcases hd with ⟨hd, hn⟩ | ⟨a, xs, ds, rfl, rfl, na, hs, ha, hn⟩
    · obtain ⟨as, q1, q2⟩ := Dr.reads I d x u hd r1
      exact ⟨as, q1, q2 hn⟩
    · cases r1
      obtain ⟨its, rv, ⟨o, n, ho, hc, _, hd⟩, _⟩ := I.list hs
      obtain ⟨as, hr, n1⟩ := Dr.readsAll I ds _ its ha rv
      refine ⟨_, Reads.list ho hc hd hr, fun z => ?_⟩
      rcases List.mem_cons.mp z with z | z
      · exact na z.symm
      · exact n1 hn z
  obtain ⟨as, rd, hsm⟩ := rd
  cases rd with
  | none => exact P.repr_of_none ⟨.str (PyData.shown .none), H, I.tok _, ⟨_, rfl⟩, q⟩
  | bool b => exact P.repr_of_bool ⟨.str (PyData.shown (.bool b)), H, I.tok _, ⟨_, rfl⟩, q⟩
  | int i t => exact P.repr_of_int (of_decide_eq_true h1) ⟨.str (PyData.shown (.int i)), H, I.tok _, ⟨_, rfl⟩, q⟩
  | str z t => exact P.repr_of_str ⟨.str (PyData.shown (.str z)), H, I.tok _, ⟨_, rfl⟩, q⟩ h4
  | list a1 a2 a3 a4 => exact repr_of_reads' (Reads.list a1 a2 a3 a4) h1 (fun _ => hsm) still (by omega) (fun _ _ e => e) (fun h' u tk hk => ⟨.str (PyData.shown _), H, I.kept (t' := tk) hk, ⟨_, rfl⟩, q⟩) h4
  | tuple a1 a2 a3 a4 => exact repr_of_reads' (Reads.tuple a1 a2 a3 a4) h1 (fun _ => hsm) still (by omega) (fun _ _ e => e) (fun h' u tk hk => ⟨.str (PyData.shown _), H, I.kept (t' := tk) hk, ⟨_, rfl⟩, q⟩) h4
  | dict a1 a2 a3 a4 a5 => exact repr_of_reads' (Reads.dict a1 a2 a3 a4 a5) h1 (fun _ => hsm) still (by omega) (fun _ _ e => e) (fun h' u tk hk => ⟨.str (PyData.shown _), H, I.kept (t' := tk) hk, ⟨_, rfl⟩, q⟩) h4
end
end Da

set_option Elab.async false
set_option linter.all false
set_option maxRecDepth 100000
set_option maxHeartbeats 3200000
/-! data with dicts of texts: compared -/
namespace Da
open PySem PySem.Spec PyProof.Rows L2 Tg
mutual
def dq : PyData → PyData → Bool
  | .none, .none => true
  | .bool a, .bool b => a == b
  | .int a, .int b => a == b
  | .str a, .str b => a == b
  | .list xs, .list ys => dqAll xs ys
  | .tuple xs, .tuple ys => dqAll xs ys
  | .dict es, .dict fs => dqKv es fs
  | _, _ => false
def dqAll : List PyData → List PyData → Bool
  | [], [] => true
  | x :: xs, y :: ys => dq x y && dqAll xs ys
  | _, _ => false
def dqKv : List (PyData × PyData) → List (PyData × PyData) → Bool
  | [], [] => true
  | (_, x) :: es, (_, y) :: fs => dq x y && dqKv es fs
  | _, _ => false
end
mutual
inductive Alike : PyData → PyData → Prop
  | non : Alike .none .none
  | bl (a b : Bool) : Alike (.bool a) (.bool b)
  | int (a b : Int) : Alike (.int a) (.int b)
  | str (a b : Str) : Alike (.str a) (.str b)
  | noneI (b : Int) : Alike .none (.int b)
  | intN (a : Int) : Alike (.int a) .none
  | lst {xs ys : List PyData} : AlikeAll xs ys → Alike (.list xs) (.list ys)
  | tup {xs ys : List PyData} : AlikeAll xs ys → Alike (.tuple xs) (.tuple ys)
  | dct {es fs : List (PyData × PyData)} : AlikeKv es fs → Alike (.dict es) (.dict fs)
inductive AlikeAll : List PyData → List PyData → Prop
  | nilL (ys : List PyData) : AlikeAll [] ys
  | nilR (xs : List PyData) : AlikeAll xs []
  | cons {x y : PyData} {xs ys : List PyData} : Alike x y → AlikeAll xs ys → AlikeAll (x :: xs) (y :: ys)
inductive AlikeKv : List (PyData × PyData) → List (PyData × PyData) → Prop
  | nil : AlikeKv [] []
  | cons {k : Str} {x y : PyData} {es fs : List (PyData × PyData)} : Alike x y → AlikeKv es fs → AlikeKv ((.str k, x) :: es) ((.str k, y) :: fs)
end
theorem dqAll_len : ∀ {xs ys : List PyData}, dqAll xs ys = true → xs.length = ys.length
  | [], [], _ => rfl
  | x :: xs, y :: ys, h => by
    have h : (dq x y && dqAll xs ys) = true := h
    rw [Bool.and_eq_true] at h
    exact congrArg (· + 1) (dqAll_len h.2)
  | [], _ :: _, h => nomatch h
  | _ :: _, [], h => nomatch h
theorem getD_at {α : Type} {xs : List α} {j : Nat} {z : α} (h : j < xs.length) : xs.getD j z = xs[j] := by
  rw [List.getD_eq_getElem?_getD, List.getElem?_eq_getElem h]
  rfl
theorem all_range (f : Nat → Bool) (n : Nat) : (List.range (n + 1)).all f = (f 0 && (List.range n).all fun i => f (i + 1)) := by
  rw [List.range_succ_eq_map, List.all_cons, List.all_map]
  rfl
theorem dqAll_range : ∀ (xs ys : List PyData), ((List.range (min xs.length ys.length)).all (fun j => dq (xs.getD j .none) (ys.getD j .none)) && xs.length == ys.length) = dqAll xs ys
  | [], [] => rfl
  | [], _ :: _ => by
    show (_ && (0 == _ + 1)) = false
    simp
  | _ :: _, [] => by
    show (_ && (_ + 1 == 0)) = false
    simp
  | x :: xs, y :: ys => by
    have ih := dqAll_range xs ys
    show ((List.range (min (xs.length + 1) (ys.length + 1))).all _ && (xs.length + 1 == ys.length + 1)) = (dq x y && dqAll xs ys)
    rw [show min (xs.length + 1) (ys.length + 1) = min xs.length ys.length + 1 by omega, all_range, ← ih, Bool.and_assoc]
    have e : (xs.length + 1 == ys.length + 1) = (xs.length == ys.length) := by
      by_cases h : xs.length = ys.length
      · rw [h]; simp
      · rw [beq_eq_false_iff_ne.mpr h, beq_eq_false_iff_ne.mpr (by omega)]
    rw [e]
    rfl
theorem rel_inj {x y : V} {u : Value} (h : L2.RelV x u) (k : L2.RelV y u) : x = y := by
  cases x <;> cases y <;> simp only [L2.RelV] at h k <;> first
    | rfl
    | (subst h; cases k <;> rfl)
    | (obtain ⟨t, h⟩ := h; obtain ⟨t', k⟩ := k; rw [h] at k; cases k <;> rfl)
    | (obtain ⟨t, h⟩ := h; rw [h] at k; cases k; done)
    | (obtain ⟨t, k⟩ := k; rw [h] at k; cases k; done)
    | (rw [h] at k; cases k; rfl)
    | (rw [h] at k; cases k; done)
theorem vals_inj : ∀ {xs ys : List V} {us : List Value}, Vals xs us → Vals ys us → xs = ys
  | _, _, _, .nil, .nil => rfl
  | _, _, _, .cons a r, .cons b t => by rw [rel_inj a b, vals_inj r t]
theorem kv_inj : ∀ {xs ys : List (Key × V)} {us : List (Key × Value)}, KV xs us → KV ys us → xs = ys
  | _, _, _, .nil, .nil => rfl
  | _, _, _, .cons a r, .cons b t => by
    rw [kv_inj r t, Prod.ext (a.1.trans b.1.symm) (rel_inj a.2 b.2)]
section
variable {X : Cx} {pins : List (Addr × Obj)} {σ : L2.St} {H : Hp} {s : Shared}
theorem seqT_inj {a : Addr} {xs ys : List V} (I : Inv X pins σ H s) (h : SqT X.K H a xs) (k : SqT X.K H a ys) : xs = ys := by
  obtain ⟨i1, r1, ⟨o, ho, _, n, hd⟩, _⟩ := I.tuple h
  obtain ⟨i2, r2, ⟨o', ho', _, n', hd'⟩, _⟩ := I.tuple k
  rw [ho] at ho'
  cases ho'
  rw [hd] at hd'
  injection hd' with e _
  have e : i1 = i2 := congrArg Array.toList e
  rw [← e] at r2
  exact vals_inj r1 r2
theorem seqL_inj {a : Addr} {xs ys : List V} (I : Inv X pins σ H s) (h : SqL X.K H a xs) (k : SqL X.K H a ys) : xs = ys := by
  obtain ⟨i1, r1, ⟨o, n, ho, _, _, hd⟩, _⟩ := I.list h
  obtain ⟨i2, r2, ⟨o', n', ho', _, _, hd'⟩, _⟩ := I.list k
  rw [ho] at ho'
  cases ho'
  rw [hd] at hd'
  injection hd' with e _
  have e : i1 = i2 := congrArg Array.toList e
  rw [← e] at r2
  exact vals_inj r1 r2
theorem seqLT_no {a : Addr} {xs ys : List V} (I : Inv X pins σ H s) (h : SqL X.K H a xs) (k : SqT X.K H a ys) : False := by
  obtain ⟨i1, r1, ⟨o, n, ho, hc, _, hd⟩, _⟩ := I.list h
  obtain ⟨i2, r2, ⟨o', ho', hc', _⟩, _⟩ := I.tuple k
  rw [ho] at ho'
  cases ho'
  rw [hc] at hc'
  injection hc' with e
  exact absurd e (by decide)
theorem seqLD_no {a : Addr} {xs : List V} {kvs : List (Key × V)} (I : Inv X pins σ H s) (h : SqL X.K H a xs) (k : H a = some (.dK kvs)) : False := by
  obtain ⟨i1, r1, ⟨o, n, ho, hc, _, hd⟩, _⟩ := I.list h
  obtain ⟨_, _, _, _, o', _, _, ho', _, hd', _⟩ := I.hok a _ k
  rw [ho] at ho'
  cases ho'
  rw [hd] at hd'
  exact nomatch hd'
theorem seqTD_no {a : Addr} {xs : List V} {kvs : List (Key × V)} (I : Inv X pins σ H s) (h : SqT X.K H a xs) (k : H a = some (.dK kvs)) : False := by
  obtain ⟨i1, r1, ⟨o, ho, hc, _, hd⟩, _⟩ := I.tuple h
  obtain ⟨_, _, _, _, o', _, _, ho', _, hd', _⟩ := I.hok a _ k
  rw [ho] at ho'
  cases ho'
  rw [hd] at hd'
  exact nomatch hd'
mutual
theorem Dr.uniq (I : Inv X pins σ H s) : ∀ (d e : PyData) (v : V), Dr X.K H v d → Dr X.K H v e → d = e
  | .none, _, _, h, k => by cases h; cases k; rfl
  | .bool b, _, _, h, k => by cases h; cases k; rfl
  | .int b, _, _, h, k => by cases h; cases k; rfl
  | .str b, _, _, h, k => by cases h; cases k; rfl
  | .list ds, _, _, h, k => by
    cases h with
    | lst h r =>
      cases k with
      | lst h' r' =>
        rw [seqL_inj I h h'] at r
        rw [DrAll.uniq I ds _ _ r r']
      | tup h' r' => exact (seqLT_no I h h').elim
      | dct h' r' => exact (seqLD_no I h h').elim
  | .tuple ds, _, _, h, k => by
    cases h with
    | tup h r =>
      cases k with
      | tup h' r' =>
        rw [seqT_inj I h h'] at r
        rw [DrAll.uniq I ds _ _ r r']
      | lst h' r' => exact (seqLT_no I h' h).elim
      | dct h' r' => exact (seqTD_no I h h').elim
  | .dict es, _, _, h, k => by
    cases h with
    | dct h r =>
      cases k with
      | dct h' r' =>
        rw [h] at h'
        cases h'
        rw [DrKv.uniq I es _ _ r r']
      | lst h' r' => exact (seqLD_no I h' h).elim
      | tup h' r' => exact (seqTD_no I h' h).elim
theorem DrAll.uniq (I : Inv X pins σ H s) : ∀ (ds es : List PyData) (vs : List V), DrAll X.K H vs ds → DrAll X.K H vs es → ds = es
  | [], _, _, h, k => by cases h; cases k; rfl
  | d :: ds, _, _, h, k => by
    cases h with
    | cons h r =>
      cases k with
      | cons h' r' => rw [Dr.uniq I d _ _ h h', DrAll.uniq I ds _ _ r r']
theorem DrKv.uniq (I : Inv X pins σ H s) : ∀ (ds es : List (PyData × PyData)) (vs : List (Key × V)), DrKv X.K H vs ds → DrKv X.K H vs es → ds = es
  | [], _, _, h, k => by cases h; cases k; rfl
  | (_, d) :: ds, _, _, h, k => by
    cases h with
    | cons h r =>
      cases k with
      | cons h' r' => rw [Dr.uniq I d _ _ h h', DrKv.uniq I ds _ _ r r']
end
mutual
theorem dq_refl : ∀ d : PyData, dq d d = true
  | .none => rfl
  | .bool b => beq_self_eq_true b
  | .int i => beq_self_eq_true i
  | .str z => beq_self_eq_true z
  | .list ds => dqAll_refl ds
  | .tuple ds => dqAll_refl ds
  | .dict es => dqKv_refl es
theorem dqAll_refl : ∀ ds : List PyData, dqAll ds ds = true
  | [] => rfl
  | d :: ds => by
    show (dq d d && dqAll ds ds) = true
    rw [dq_refl d, dqAll_refl ds]
    rfl
theorem dqKv_refl : ∀ es : List (PyData × PyData), dqKv es es = true
  | [] => rfl
  | (_, d) :: es => by
    show (dq d d && dqKv es es) = true
    rw [dq_refl d, dqKv_refl es]
    rfl
end
/-! ### the comparison's tree -/
theorem drAll_get : ∀ {vs : List V} {ds : List PyData}, DrAll X.K H vs ds → ∀ (us : List Value), Vals vs us → ∀ j (h : j < us.length), ∃ (v : V) (hd : j < ds.length), L2.RelV v us[j] ∧ Dr X.K H v ds[j]
  | _, _, .nil, _, .nil, j, h => nomatch h
  | _, _, .cons (ds := ds) h r, _, .cons a b, 0, _ => ⟨_, Nat.succ_pos _, a, h⟩
  | _, _, .cons h r, _, .cons a b, j + 1, hj => by
    obtain ⟨v, hd, q1, q2⟩ := drAll_get r _ b j (Nat.lt_of_succ_lt_succ hj)
    exact ⟨v, Nat.succ_lt_succ hd, q1, q2⟩
theorem drAll_len : ∀ {vs : List V} {ds : List PyData}, DrAll X.K H vs ds → vs.length = ds.length
  | _, _, .nil => rfl
  | _, _, .cons _ r => congrArg (· + 1) (drAll_len r)
theorem alikeAll_get : ∀ {xs ys : List PyData}, AlikeAll xs ys → ∀ j (h : j < xs.length) (k : j < ys.length), Alike xs[j] ys[j]
  | _, _, .nilL _, _, h, _ => nomatch h
  | _, _, .nilR _, _, _, k => nomatch k
  | _, _, .cons a r, 0, _, _ => a
  | _, _, .cons a r, j + 1, h, k => alikeAll_get r j (Nat.lt_of_succ_lt_succ h) (Nat.lt_of_succ_lt_succ k)
theorem depthAll_get : ∀ {xs : List PyData} {n : Nat}, PyData.depthAll xs ≤ n → ∀ j (h : j < xs.length), xs[j].depth ≤ n
  | [], _, _, _, h => nomatch h
  | x :: xs, n, hn, 0, _ => Nat.le_trans (Nat.le_max_left _ _) hn
  | x :: xs, n, hn, j + 1, h => depthAll_get (xs := xs) (Nat.le_trans (Nat.le_max_right _ _) hn) j (Nat.lt_of_succ_lt_succ h)
/-- a tree for each item, a tree for the row -/
def TreeAll (X : Cx) (H : Hp) (s : Shared) (n : Nat) (ds : List PyData) : Prop :=
  ∀ j (h : j < ds.length) (e : PyData) (v y : V) (u w : Value), Alike ds[j] e → Dr X.K H v ds[j] → Dr X.K H y e → L2.RelV v u → L2.RelV y w → PySem.W.EqTree X.prog X.w s n u w (dq ds[j] e)
theorem all_same {α : Type} {f g : α → Bool} : ∀ {l : List α}, (∀ p ∈ l, f p = g p) → l.all f = l.all g
  | [], _ => rfl
  | p :: l, h => by rw [List.all_cons, List.all_cons, h p List.mem_cons_self, all_same fun q hq => h q (List.mem_cons_of_mem _ hq)]
theorem kv_tree {n : Nat} : ∀ {es fs : List (PyData × PyData)}, AlikeKv es fs → ∀ {k1 k2 : List (Key × V)} {a b : List (Key × Value)}, DrKv X.K H k1 es → DrKv X.K H k2 fs → KV k1 a → KV k2 b → (a.map (·.1)).Nodup →
    (∀ (d e : PyData) (v y : V) (u w : Value), (∃ k, (k, d) ∈ es) → Alike d e → Dr X.K H v d → Dr X.K H y e → L2.RelV v u → L2.RelV y w → PySem.W.EqTree X.prog X.w s n u w (dq d e)) →
    a.length = b.length ∧ ∃ f : Key → Bool, (∀ k v y, (k, v) ∈ a → PySem.valueAt b k = some y → PySem.W.EqTree X.prog X.w s n v y (f k)) ∧ (a.all fun p => (PySem.valueAt b p.1).isSome && f p.1) = dqKv es fs := by
  intro es
  induction es with
  | nil =>
    intro fs al k1 k2 a b h1 h2 r1 r2 _ _
    cases al
    cases h1
    cases h2
    cases r1
    cases r2
    exact ⟨rfl, fun _ => true, (fun k v y h => nomatch h), rfl⟩
  | cons p0 es ih =>
    intro fs al k1 k2 a b h1 h2 r1 r2 nd tr
    cases al with
    | @cons k x y _ fs hxy al =>
    cases h1 with
    | cons h1 t1 =>
    cases h2 with
    | cons h2 t2 =>
    cases r1 with
    | @cons _ p _ a' e1 r1 =>
    cases r2 with
    | @cons _ p' _ b' e2 r2 =>
    obtain ⟨pk, pv⟩ := p
    obtain ⟨pk', pv'⟩ := p'
    obtain ⟨q1, q2⟩ := e1
    obtain ⟨q3, q4⟩ := e2
    dsimp only at q1 q2 q3 q4
    subst q1
    subst q3
    rw [List.map_cons, List.nodup_cons] at nd
    obtain ⟨hl, f, hf, hall⟩ := ih al t1 t2 r1 r2 nd.2 fun d e v y u w ⟨k, hk⟩ => tr d e v y u w ⟨k, List.mem_cons_of_mem _ hk⟩
    have at0 : PySem.valueAt ((Sum.inr k, pv') :: b') (Sum.inr k : Key) = some pv' := by simp [PySem.valueAt]
    have at1 : ∀ j : Key, j ≠ Sum.inr k → PySem.valueAt ((Sum.inr k, pv') :: b') j = PySem.valueAt b' j := fun j hj => by
      simp only [PySem.valueAt, List.find?_cons]
      rw [decide_eq_false (fun e => hj e.symm)]
    refine ⟨congrArg (· + 1) hl, fun j => if j = Sum.inr k then dq x y else f j, fun j v z hm hz => ?_, ?_⟩
    · rcases List.mem_cons.mp hm with hm | hm
      · cases hm
        rw [at0] at hz
        cases hz
        show PySem.W.EqTree _ _ _ _ _ _ (if (Sum.inr k : Key) = Sum.inr k then dq x y else f (Sum.inr k))
        rw [if_pos rfl]
        exact tr x y _ _ _ _ ⟨_, List.mem_cons_self⟩ hxy h1 h2 q2 q4
      · have ne : j ≠ Sum.inr k := fun e => nd.1 (List.mem_map.mpr ⟨_, hm, e⟩)
        rw [at1 j ne] at hz
        show PySem.W.EqTree _ _ _ _ _ _ (if j = Sum.inr k then dq x y else f j)
        rw [if_neg ne]
        exact hf j v z hm hz
    · rw [List.all_cons, at0]
      show (true && (if (Sum.inr k : Key) = Sum.inr k then dq x y else f (Sum.inr k)) && _) = (dq x y && dqKv es fs)
      rw [if_pos rfl, Bool.true_and, ← hall]
      congr 1
      refine all_same fun p hp => ?_
      have ne : p.1 ≠ Sum.inr k := fun e => nd.1 (List.mem_map.mpr ⟨_, hp, e⟩)
      rw [at1 _ ne]
      show (_ && (if p.1 = Sum.inr k then dq x y else f p.1)) = _
      rw [if_neg ne]
mutual
theorem Dr.tree (I : Inv X pins σ H s) : ∀ (d e : PyData) (n : Nat) (v y : V) (u w : Value), d.depth ≤ n → Alike d e → Dr X.K H v d → Dr X.K H y e → L2.RelV v u → L2.RelV y w → PySem.W.EqTree X.prog X.w s n u w (dq d e)
  | .none, _, n, _, _, _, _, _, al, h, k, r1, r2 => by
    cases al with
    | non => cases h; cases k; cases r1; cases r2; exact .same
    | noneI b => cases h; cases k; cases r1; obtain ⟨t, rfl⟩ := r2; exact .leaf fun A _ => SeqAt.EqAt.none_int b t
  | .bool b, _, n, _, _, _, _, _, al, h, k, r1, r2 => by
    cases al with
    | bl _ c => cases h; cases k; cases r1; cases r2; exact .leaf fun A _ => SeqAt.EqAt.bool_bool b c
  | .int i, _, n, _, _, _, _, _, al, h, k, r1, r2 => by
    cases al with
    | int _ j => cases h; cases k; obtain ⟨t, rfl⟩ := r1; obtain ⟨t', rfl⟩ := r2; exact .leaf fun A _ => SeqAt.EqAt.int_int i t j t'
    | intN => cases h; cases k; obtain ⟨t, rfl⟩ := r1; cases r2; exact .leaf fun A _ => SeqAt.EqAt.int_none i t
  | .str z, _, n, _, _, _, _, _, al, h, k, r1, r2 => by
    cases al with
    | str _ z' => cases h; cases k; obtain ⟨t, rfl⟩ := r1; obtain ⟨t', rfl⟩ := r2; exact .leaf fun A _ => SeqAt.EqAt.str_str z t z' t'
  | .list ds, e, n, v, y, _, _, hn, al, h, k, r1, r2 => by
    cases n with
    | zero => exact absurd hn (Nat.not_succ_le_zero _)
    | succ n =>
    by_cases ne : v = y
    · subst ne
      have e2 := Dr.uniq I _ _ _ h k
      subst e2
      have : ∀ u w : Value, L2.RelV v u → L2.RelV v w → u = w := fun u w a b => by
        cases h with
        | lst => exact (show u = _ from a).trans (show w = _ from b).symm
      rw [this _ _ r1 r2, dq_refl]
      exact .same
    cases al with
    | @lst _ es al =>
    cases h with
    | @lst a xs _ h q =>
    cases k with
    | @lst b ys _ k q' =>
    cases r1
    cases r2
    obtain ⟨i1, v1, l1, _⟩ := I.list h
    obtain ⟨i2, v2, l2, _⟩ := I.list k
    have e1 : i1.length = ds.length := by rw [← v1.length, drAll_len q]
    have e2 : i2.length = es.length := by rw [← v2.length, drAll_len q']
    have nab : a ≠ b := fun z => ne (by rw [z])
    have L1 : s.heap.IsList a i1.toArray := l1.isList
    have L2 : s.heap.IsList b i2.toArray := l2.isList
    show PySem.W.EqTree _ _ _ _ _ _ (dqAll ds es)
    by_cases hl : ds.length = es.length
    · rw [← dqAll_range, hl, Nat.min_self, beq_self_eq_true, Bool.and_true, ← hl, ← e1]
      refine .lists nab L1 L2 (by show i1.length = i2.length; omega) fun j h1 h2 => ?_
      obtain ⟨p1, d1, a1, b1⟩ := drAll_get q _ v1 j h1
      obtain ⟨p2, d2, a2, b2⟩ := drAll_get q' _ v2 j h2
      rw [getD_at d1, getD_at d2]
      exact DrAll.tree I ds n (Nat.le_of_succ_le_succ hn) j d1 _ _ _ _ _ (alikeAll_get al j d1 d2) b1 b2 a1 a2
    · have : dqAll ds es = false := by
        cases hh : dqAll ds es with
        | false => rfl
        | true => exact absurd (dqAll_len hh) hl
      rw [this]
      exact .listsLen nab L1 L2 (by show (i1.length != i2.length) = true; rw [bne_iff_ne]; omega)
  | .tuple ds, e, n, v, y, _, _, hn, al, h, k, r1, r2 => by
    cases n with
    | zero => exact absurd hn (Nat.not_succ_le_zero _)
    | succ n =>
    by_cases ne : v = y
    · subst ne
      have e2 := Dr.uniq I _ _ _ h k
      subst e2
      have : ∀ u w : Value, L2.RelV v u → L2.RelV v w → u = w := fun u w a b => by
        cases h with
        | tup => exact (show u = _ from a).trans (show w = _ from b).symm
      rw [this _ _ r1 r2, dq_refl]
      exact .same
    cases al with
    | @tup _ es al =>
    cases h with
    | @tup a xs _ h q =>
    cases k with
    | @tup b ys _ k q' =>
    cases r1
    cases r2
    obtain ⟨i1, v1, l1, _⟩ := I.tuple h
    obtain ⟨i2, v2, l2, _⟩ := I.tuple k
    have e1 : i1.length = ds.length := by rw [← v1.length, drAll_len q]
    have e2 : i2.length = es.length := by rw [← v2.length, drAll_len q']
    have nab : a ≠ b := fun z => ne (by rw [z])
    show PySem.W.EqTree _ _ _ _ _ _ (dqAll ds es)
    rw [← dqAll_range, ← e1, ← e2]
    refine .tuples nab l1 l2 fun j h1 h2 => ?_
    obtain ⟨p1, d1, a1, b1⟩ := drAll_get q _ v1 j h1
    obtain ⟨p2, d2, a2, b2⟩ := drAll_get q' _ v2 j h2
    rw [getD_at d1, getD_at d2]
    exact DrAll.tree I ds n (Nat.le_of_succ_le_succ hn) j d1 _ _ _ _ _ (alikeAll_get al j d1 d2) b1 b2 a1 a2
  | .dict es, e, n, v, y, _, _, hn, al, h, k, r1, r2 => by
    cases n with
    | zero => exact absurd hn (Nat.not_succ_le_zero _)
    | succ n =>
    by_cases ne : v = y
    · subst ne
      have e2 := Dr.uniq I _ _ _ h k
      subst e2
      have : ∀ u w : Value, L2.RelV v u → L2.RelV v w → u = w := fun u w a b => by
        cases h with
        | dct => exact (show u = _ from a).trans (show w = _ from b).symm
      rw [this _ _ r1 r2, dq_refl]
      exact .same
    cases al with
    | @dct _ fs al =>
    cases h with
    | @dct a k1 _ h q =>
    cases k with
    | @dct b k2 _ k q' =>
    cases r1
    cases r2
    obtain ⟨_, s1, vs1, kv1, D1⟩ := dk_of I.hok h
    obtain ⟨_, s2, vs2, kv2, D2⟩ := dk_of I.hok k
    have nab : a ≠ b := fun z => ne (by rw [z])
    have nd : (vs1.map (·.1)).Nodup := by
      obtain ⟨_, _, _, _, _, _, _, _, nd⟩ := D1
      exact nd
    obtain ⟨hl, f, hf, hall⟩ := kv_tree (X := X) (H := H) (s := s) (n := n) al q q' kv1 kv2 nd (DrKv.tree I es n (Nat.le_of_succ_le_succ hn))
    show PySem.W.EqTree _ _ _ _ _ _ (dqKv es fs)
    have e := PySem.W.EqTree.dicts (n := n) nab s1 s2 D1 D2 hf
    rw [hl, beq_self_eq_true, Bool.true_and, hall] at e
    exact e
theorem DrAll.tree (I : Inv X pins σ H s) : ∀ (ds : List PyData) (n : Nat), PyData.depthAll ds ≤ n → TreeAll X H s n ds
  | [], _, _ => fun j h => nomatch h
  | d :: ds, n, hn => fun j h e v y u w al h1 h2 r1 r2 => by
    cases j with
    | zero => exact Dr.tree I d e n v y u w (Nat.le_trans (Nat.le_max_left _ _) hn) al h1 h2 r1 r2
    | succ j => exact DrAll.tree I ds n (Nat.le_trans (Nat.le_max_right _ _) hn) j (Nat.lt_of_succ_lt_succ h) e v y u w al h1 h2 r1 r2
theorem DrKv.tree (I : Inv X pins σ H s) : ∀ (es : List (PyData × PyData)) (n : Nat), PyData.depthKv es ≤ n → ∀ (d e : PyData) (v y : V) (u w : Value), (∃ k, (k, d) ∈ es) → Alike d e → Dr X.K H v d → Dr X.K H y e → L2.RelV v u → L2.RelV y w → PySem.W.EqTree X.prog X.w s n u w (dq d e)
  | [], _, _, _, _, _, _, _, _, ⟨_, h⟩, _, _, _, _, _ => nomatch h
  | (k, d) :: es, n, hn, d', e, v, y, u, w, h, al, h1, h2, r1, r2 => by
    have hn : max (max k.depth d.depth) (PyData.depthKv es) ≤ n := hn
    by_cases z : d' = d
    · subst z
      exact Dr.tree I d' e n v y u w (by omega) al h1 h2 r1 r2
    · refine DrKv.tree I es n (by omega) d' e v y u w ?_ al h1 h2 r1 r2
      obtain ⟨k', hk⟩ := h
      rcases List.mem_cons.mp hk with hk | hk
      · exact absurd (congrArg Prod.snd hk) z
      · exact ⟨k', hk⟩
end
end
/-! ### d == e, two dicts -/
def rEqK (K : PySem.W.Frag) : R2 := fun x y H Q => ∃ es fs, Dr K H x (.dict es) ∧ Dr K H y (.dict fs) ∧ AlikeKv es fs ∧ PyData.depthKv es ≤ 60 ∧ Q (.bl (dqKv es fs)) H
theorem op_eqK {X : Cx} (hu : X.A.units + 64 < cLine) : OpR X (compareOp .Eq) (rEqK X.K) := by
  intro pins s σ H x y u w Q I r1 r2 h
  obtain ⟨es, fs, h1, h2, al, hd, q⟩ := h
  cases h1 with
  | @dct a k1 _ h q1 =>
  cases h2 with
  | @dct b k2 _ k q2 =>
  cases r1
  cases r2
  obtain ⟨_, s1, vs1, kv1, D1⟩ := dk_of I.hok h
  obtain ⟨_, s2, vs2, kv2, D2⟩ := dk_of I.hok k
  have nd : (vs1.map (·.1)).Nodup := by
    obtain ⟨_, _, _, _, _, _, _, _, nd⟩ := D1
    exact nd
  obtain ⟨hl, f, hf, hall⟩ := kv_tree (X := X) (H := H) (s := s) (n := 60) al q1 q2 kv1 kv2 nd (DrKv.tree I es 60 hd)
  refine PySem.W.eq_dictsT (n := 60) s1 s2 D1 D2 hf (by omega) ?_
  rw [hl, beq_self_eq_true, Bool.true_and, hall]
  exact ⟨.bl _, H, I, rfl, q⟩
end Da

set_option linter.all false
/-! turns of points, as lists: put together, undone, and how often they lead all points back -/
namespace Pm
variable {n p q : Nat} {t u v : List Nat}
/-- where a turn leads a point -/
def to (t : List Nat) (p : Nat) : Nat := t.getD p 0
def Turn (n : Nat) (t : List Nat) : Prop := t.Perm (List.range n)
theorem to_get (h : p < t.length) : to t p = t[p] := by
  unfold to
  rw [List.getD_eq_getElem?_getD, List.getElem?_eq_getElem h]
  rfl
theorem Turn.len (h : Turn n t) : t.length = n := by
  have := h.length_eq
  rw [List.length_range] at this
  exact this
theorem Turn.mem (h : Turn n t) : p ∈ t ↔ p < n := h.mem_iff.trans List.mem_range
theorem Turn.nodup (h : Turn n t) : t.Nodup := h.nodup_iff.mpr List.nodup_range
theorem Turn.lt (h : Turn n t) (hp : p < n) : to t p < n := by
  have hp' : p < t.length := by rw [h.len]; exact hp
  rw [to_get hp']
  exact h.mem.mp (List.getElem_mem hp')
def joint (t u : List Nat) : List Nat := t.map (to u)
theorem range_map (h : u.length = n) : (List.range n).map (to u) = u := by
  apply List.ext_getElem
  · rw [List.length_map, List.length_range, h]
  · intro i h1 h2
    rw [List.getElem_map, List.getElem_range, to_get h2]
theorem turn_joint (h : Turn n t) (k : Turn n u) : Turn n (joint t u) := by
  have := h.map (to u)
  rw [range_map k.len] at this
  exact this.trans k
theorem joint_len : (joint t u).length = t.length := List.length_map ..
theorem to_joint (hp : p < t.length) : to (joint t u) p = to u (to t p) := by
  rw [to_get (by rw [joint_len]; exact hp), to_get hp]
  exact List.getElem_map ..
theorem joint_assoc (h : Turn n t) (k : Turn n u) : joint (joint t u) v = joint t (joint u v) := by
  unfold joint
  rw [List.map_map]
  refine List.map_congr_left fun x hx => ?_
  exact (to_joint (t := u) (u := v) (by rw [k.len]; exact h.mem.mp hx)).symm
theorem to_still (hp : p < n) : to (List.range n) p = p := by
  rw [to_get (by rw [List.length_range]; exact hp), List.getElem_range]
theorem joint_still (h : Turn n t) : joint t (List.range n) = t := by
  unfold joint
  have : t.map (to (List.range n)) = t.map id := List.map_congr_left fun x hx => to_still (h.mem.mp hx)
  rw [this, List.map_id]
theorem still_joint (h : Turn n t) : joint (List.range n) t = t := range_map h.len
theorem still_turn : Turn n (List.range n) := List.Perm.refl _
/-- two turns are the same if they lead all points so -/
theorem turn_ext (h : Turn n t) (k : Turn n u) (e : ∀ p, p < n → to t p = to u p) : t = u := by
  rw [← range_map h.len, ← range_map k.len]
  exact List.map_congr_left fun x hx => e x (List.mem_range.mp hx)
theorem nodup_inj {l : List Nat} (h : l.Nodup) {i j : Nat} (hi : i < l.length) (hj : j < l.length) (e : l[i] = l[j]) : i = j := by
  rcases Nat.lt_trichotomy i j with c | c | c
  · exact absurd e (List.pairwise_iff_getElem.mp h i j hi hj c)
  · exact c
  · exact absurd e.symm (List.pairwise_iff_getElem.mp h j i hj hi c)
def undone (t : List Nat) : List Nat := (List.range t.length).map fun q => t.idxOf q
theorem to_idx (h : Turn n t) (hq : q < n) : to t (t.idxOf q) = q := by
  have hm := h.mem.mpr hq
  rw [to_get (List.idxOf_lt_length_of_mem hm)]
  exact List.getElem_idxOf _
theorem idx_to (h : Turn n t) (hp : p < n) : t.idxOf (to t p) = p := by
  have hp' : p < t.length := by rw [h.len]; exact hp
  have hm : to t p ∈ t := h.mem.mpr (h.lt hp)
  have hl := List.idxOf_lt_length_of_mem hm
  have e : t[t.idxOf (to t p)] = t[p] := by
    rw [List.getElem_idxOf]
    exact to_get hp'
  exact nodup_inj h.nodup hl hp' e
theorem undone_len : (undone t).length = t.length := by
  unfold undone
  rw [List.length_map, List.length_range]
theorem to_undone (h : Turn n t) (hq : q < n) : to (undone t) q = t.idxOf q := by
  have hq' : q < t.length := by rw [h.len]; exact hq
  rw [to_get (by rw [undone_len]; exact hq')]
  unfold undone
  rw [List.getElem_map, List.getElem_range]
theorem turn_undone (h : Turn n t) : Turn n (undone t) := by
  have h1 : undone t = (List.range n).map fun q => t.idxOf q := by unfold undone; rw [h.len]
  have h2 : t.map (fun q => t.idxOf q) = List.range n := by
    apply List.ext_getElem
    · rw [List.length_map, h.len, List.length_range]
    · intro i h3 h4
      rw [List.length_range] at h4
      rw [List.getElem_map, List.getElem_range]
      have := idx_to h h4
      rw [to_get (by rw [h.len]; exact h4)] at this
      exact this
  have h3 := (h.symm).map fun q => t.idxOf q
  rw [h2] at h3
  rw [h1]
  exact h3
theorem joint_undone (h : Turn n t) : joint t (undone t) = List.range n :=
  turn_ext (turn_joint h (turn_undone h)) still_turn fun p hp => by
    rw [to_joint (by rw [h.len]; exact hp), to_undone h (h.lt hp), idx_to h hp, to_still hp]
theorem undone_joint (h : Turn n t) : joint (undone t) t = List.range n :=
  turn_ext (turn_joint (turn_undone h) h) still_turn fun p hp => by
    rw [to_joint (by rw [(turn_undone h).len]; exact hp), to_undone h hp, to_idx h hp, to_still hp]
theorem undone_undone (h : Turn n t) : undone (undone t) = t := by
  have k := turn_undone h
  have e : joint (joint (undone (undone t)) (undone t)) t = joint (undone (undone t)) (joint (undone t) t) := joint_assoc (turn_undone k) k
  rw [undone_joint k, undone_joint h, still_joint h, joint_still (turn_undone k)] at e
  exact e.symm
theorem undone_of_joint (h : Turn n t) (k : Turn n u) : undone (joint t u) = joint (undone u) (undone t) := by
  have hj := turn_joint h k
  have hu := turn_undone hj
  refine turn_ext hu (turn_joint (turn_undone k) (turn_undone h)) fun p hp => ?_
  rw [to_undone hj hp, to_joint (by rw [(turn_undone k).len]; exact hp), to_undone k hp]
  have hp1 : u.idxOf p < n := by
    have := List.idxOf_lt_length_of_mem (k.mem.mpr hp)
    rw [k.len] at this
    exact this
  rw [to_undone h hp1]
  have hp2 : t.idxOf (u.idxOf p) < n := by
    have := List.idxOf_lt_length_of_mem (h.mem.mpr hp1)
    rw [h.len] at this
    exact this
  have e : to (joint t u) (t.idxOf (u.idxOf p)) = p := by rw [to_joint (by rw [h.len]; exact hp2), to_idx h hp1, to_idx k hp]
  have := idx_to hj hp2
  rw [e] at this
  exact this
theorem to_inj (h : Turn n t) (hp : p < n) (hq : q < n) (e : to t p = to t q) : p = q := by
  rw [← idx_to h hp, e, idx_to h hq]
/-! again and again -/
def it (t : List Nat) : Nat → Nat → Nat
  | 0, p => p
  | k + 1, p => to t (it t k p)
theorem it_lt (h : Turn n t) (hp : p < n) : ∀ k, it t k p < n
  | 0 => hp
  | k + 1 => h.lt (it_lt h hp k)
theorem it_add (t : List Nat) (a : Nat) (p : Nat) : ∀ b, it t (b + a) p = it t b (it t a p)
  | 0 => by rw [Nat.zero_add]; rfl
  | b + 1 => by
    rw [show b + 1 + a = (b + a) + 1 by omega]
    show to t (it t (b + a) p) = to t (it t b (it t a p))
    rw [it_add t a p b]
theorem it_comm (t : List Nat) (a b p : Nat) : it t a (it t b p) = it t b (it t a p) := by rw [← it_add, ← it_add, Nat.add_comm]
theorem it_mul {m : Nat} (e : it t m p = p) : ∀ c, it t (m * c) p = p
  | 0 => rfl
  | c + 1 => by
    rw [Nat.mul_succ, it_add, e]
    exact it_mul e c
theorem it_inj (h : Turn n t) (hp : p < n) (hq : q < n) : ∀ k, it t k p = it t k q → p = q
  | 0, e => e
  | k + 1, e => it_inj h hp hq k (to_inj h (it_lt h hp k) (it_lt h hq k) e)
/-- if no earlier one comes back, then all that come back are multiples -/
theorem it_dvd {m : Nat} (h : Turn n t) (hp : p < n) (hm : 0 < m) (e : it t m p = p) (hl : ∀ k, 0 < k → k < m → it t k p ≠ p) (k : Nat) : it t k p = p ↔ m ∣ k := by
  constructor
  · intro hk
    have e2 : it t (k % m) p = p := by
      have := Nat.div_add_mod k m
      have e3 : it t (k % m + m * (k / m)) p = p := by rw [Nat.add_comm, this]; exact hk
      rw [it_add, it_mul e] at e3
      exact e3
    by_cases h0 : k % m = 0
    · exact Nat.dvd_of_mod_eq_zero h0
    · exact absurd e2 (hl _ (Nat.pos_of_ne_zero h0) (Nat.mod_lt _ hm))
  · rintro ⟨c, rfl⟩
    exact it_mul e c
/-- the order: just the multiples lead all points back -/
def Ord (n : Nat) (t : List Nat) (L : Nat) : Prop := 0 < L ∧ ∀ k, (∀ p, p < n → it t k p = p) ↔ L ∣ k
theorem ord_uniq {L M : Nat} (a : Ord n t L) (b : Ord n t M) : L = M :=
  Nat.dvd_antisymm ((a.2 M).mp ((b.2 M).mpr (Nat.dvd_refl M))) ((b.2 L).mp ((a.2 L).mpr (Nat.dvd_refl L)))
theorem ord_undone {L : Nat} (h : Turn n t) (a : Ord n t L) : Ord n (undone t) L := by
  refine ⟨a.1, fun k => Iff.trans ?_ (a.2 k)⟩
  have b1 : ∀ k p, p < n → it t k (it (undone t) k p) = p := by
    intro k
    induction k with
    | zero => intro p hp; rfl
    | succ k ih =>
      intro p hp
      have hq := it_lt (turn_undone h) hp k
      have e : it t (k + 1) (to (undone t) (it (undone t) k p)) = it t k (to t (to (undone t) (it (undone t) k p))) := it_add t 1 _ k
      show it t (k + 1) (to (undone t) (it (undone t) k p)) = p
      rw [e, to_undone h hq, to_idx h hq]
      exact ih p hp
  constructor
  · intro hk p hp
    have := b1 k p hp
    rw [hk p hp] at this
    exact this
  · intro hk p hp
    have := b1 k p hp
    rw [hk _ (it_lt (turn_undone h) hp k)] at this
    exact this
theorem ord_conj {L : Nat} {c d s : List Nat} (hc : Turn n c) (hd : Turn n d) (hs : Turn n s) (e : ∀ p, p < n → to d (to s p) = to s (to c p)) (a : Ord n c L) : Ord n d L := by
  refine ⟨a.1, fun k => Iff.trans ?_ (a.2 k)⟩
  have b1 : ∀ k p, p < n → it d k (to s p) = to s (it c k p) := by
    intro k
    induction k with
    | zero => intro p hp; rfl
    | succ k ih =>
      intro p hp
      show to d (it d k (to s p)) = to s (to c (it c k p))
      rw [ih p hp, e _ (it_lt hc hp k)]
  constructor
  · intro hk p hp
    have := b1 k p hp
    rw [hk _ (hs.lt hp)] at this
    exact (to_inj hs hp (it_lt hc hp k) this).symm
  · intro hk q hq
    have := b1 k (s.idxOf q) (by
      have := List.idxOf_lt_length_of_mem (hs.mem.mpr hq)
      rw [hs.len] at this
      exact this)
    rw [to_idx hs hq, hk _ (by
      have := List.idxOf_lt_length_of_mem (hs.mem.mpr hq)
      rw [hs.len] at this
      exact this), to_idx hs hq] at this
    exact this
theorem ord_one {L : Nat} (h : Turn n t) (a : Ord n t L) : L = 1 ↔ t = List.range n := by
  have e := a.2 1
  constructor
  · intro hl
    refine turn_ext h still_turn fun p hp => ?_
    rw [to_still hp]
    exact e.mpr (by rw [hl]; exact Nat.dvd_refl 1) p hp
  · intro ht
    exact Nat.dvd_one.mp (e.mp fun p hp => by
      show to t p = p
      rw [ht]
      exact to_still hp)
/-- so many of a turn -/
def pw (t : List Nat) : Nat → List Nat
  | 0 => t
  | k + 1 => joint (pw t k) t
theorem turn_pw (h : Turn n t) : ∀ k, Turn n (pw t k)
  | 0 => h
  | k + 1 => turn_joint (turn_pw h k) h
theorem to_pw (h : Turn n t) (hp : p < n) : ∀ k, to (pw t k) p = it t (k + 1) p
  | 0 => rfl
  | k + 1 => by
    show to (joint (pw t k) t) p = to t (it t (k + 1) p)
    rw [to_joint (by rw [(turn_pw h k).len]; exact hp), to_pw h hp k]
theorem pw_still {L k : Nat} (h : Turn n t) (a : Ord n t L) : pw t k = List.range n ↔ L ∣ k + 1 := by
  rw [← a.2 (k + 1)]
  constructor
  · intro e p hp
    rw [← to_pw h hp, e, to_still hp]
  · intro e
    exact turn_ext (turn_pw h k) still_turn fun p hp => by rw [to_pw h hp, e p hp, to_still hp]
end Pm

set_option linter.all false
/-! the rows of points that a turn leads round -/
namespace Pm
variable {n : Nat} {t : List Nat}
theorem len_le : ∀ {l r : List Nat}, l.Nodup → (∀ x ∈ l, x ∈ r) → l.length ≤ r.length
  | [], _, _, _ => Nat.zero_le _
  | a :: l, r, hn, hs => by
    have ha := hs a List.mem_cons_self
    have hn' := List.nodup_cons.mp hn
    have := len_le (l := l) (r := r.erase a) hn'.2 fun x hx => by
      have hne : x ≠ a := fun e => hn'.1 (e ▸ hx)
      exact (List.mem_erase_of_ne hne).mpr (hs x (List.mem_cons_of_mem _ hx))
    have h1 := List.length_erase_of_mem ha
    have h2 := List.length_pos_of_mem ha
    rw [List.length_cons]
    omega
theorem small_len {l : List Nat} (h : l.Nodup) (hl : ∀ x ∈ l, x < n) : l.length ≤ n := by
  have := len_le (r := List.range n) h fun x hx => List.mem_range.mpr (hl x hx)
  rw [List.length_range] at this
  exact this
/-- what is known ahead of the start i -/
structure Out (n : Nat) (t : List Nat) (i : Nat) (S M : List Nat) : Prop where
  nd : S.Nodup
  lt : ∀ p ∈ S, p < n
  cl : ∀ p, p < n → (p ∈ S ↔ to t p ∈ S)
  all : ∀ p, p < i → p ∈ S
  per : ∀ k, (∀ p ∈ S, it t k p = p) ↔ ∀ m ∈ M, m ∣ k
  sz : ∀ m ∈ M, 1 ≤ m ∧ m ≤ n
  ln : M.length ≤ i
def walk (t : List Nat) (s j : Nat) : List Nat := (List.range j).map fun k => it t k s
theorem walk_succ (t : List Nat) (s j : Nat) : walk t s (j + 1) = walk t s j ++ [it t j s] := by
  unfold walk
  rw [List.range_succ, List.map_append]
  rfl
theorem mem_walk {s j x : Nat} : x ∈ walk t s j ↔ ∃ k, k < j ∧ it t k s = x := by
  unfold walk
  rw [List.mem_map]
  constructor
  · rintro ⟨k, hk, e⟩
    exact ⟨k, List.mem_range.mp hk, e⟩
  · rintro ⟨k, hk, e⟩
    exact ⟨k, List.mem_range.mpr hk, e⟩
theorem walk_len (t : List Nat) (s j : Nat) : (walk t s j).length = j := by
  unfold walk
  rw [List.length_map, List.length_range]
/-- what is known on the way from the start s -/
structure In (S : List Nat) (t : List Nat) (s j : Nat) : Prop where
  nd : (walk t s j).Nodup
  off : ∀ x ∈ walk t s j, x ∉ S
theorem in_zero (S : List Nat) (t : List Nat) (s : Nat) : In S t s 0 := ⟨List.nodup_nil, fun x hx => by cases hx⟩
theorem in_succ {S : List Nat} {s j : Nat} (h : In S t s j) (hp : it t j s ∉ S ++ walk t s j) : In S t s (j + 1) := by
  rw [List.mem_append, not_or] at hp
  constructor
  · rw [walk_succ]
    refine List.nodup_append.mpr ⟨h.nd, by simp, fun x hx y hy e => ?_⟩
    rw [List.mem_singleton.mp hy] at e
    exact hp.2 (e ▸ hx)
  · intro x hx
    rw [walk_succ] at hx
    rcases List.mem_append.mp hx with hx | hx
    · exact h.off x hx
    · rw [List.mem_singleton.mp hx]
      exact hp.1
theorem in_le {S : List Nat} {s j : Nat} (ht : Turn n t) (hs : s < n) (h : In S t s j) : j ≤ n := by
  have := small_len (n := n) h.nd fun x hx => by
    obtain ⟨k, _, e⟩ := mem_walk.mp hx
    rw [← e]
    exact it_lt ht hs k
  rw [walk_len] at this
  exact this
theorem out_zero : Out n t 0 [] [] := ⟨List.nodup_nil, (fun p hp => (by cases hp)), (fun p _ => ⟨(fun h => (by cases h)), (fun h => (by cases h))⟩), (fun p hp => absurd hp (Nat.not_lt_zero p)), (fun k => ⟨(fun _ m hm => (by cases hm)), (fun _ p hp => (by cases hp))⟩), (fun m hm => (by cases hm)), Nat.le_refl 0⟩
theorem out_same {i : Nat} {S M : List Nat} (h : Out n t i S M) (hi : i ∈ S) : Out n t (i + 1) S M :=
  ⟨h.nd, h.lt, h.cl, fun p hp => by
    rcases Nat.lt_succ_iff_lt_or_eq.mp hp with c | c
    · exact h.all p c
    · rw [c]; exact hi, h.per, h.sz, by have := h.ln; omega⟩
theorem it_mem {i : Nat} {S M : List Nat} (ht : Turn n t) (h : Out n t i S M) {s : Nat} (hs : s < n) : ∀ k, it t k s ∈ S → s ∈ S
  | 0, e => e
  | k + 1, e => it_mem ht h hs k ((h.cl _ (it_lt ht hs k)).mpr e)
theorem it_back {s j : Nat} {S M : List Nat} {i : Nat} (ht : Turn n t) (h : Out n t i S M) (hs : s < n) (hI : In S t s (j + 1)) (hp : it t (j + 1) s ∈ S ++ walk t s (j + 1)) : it t (j + 1) s = s := by
  have h0 : s ∉ S := hI.off s (mem_walk.mpr ⟨0, Nat.succ_pos j, rfl⟩)
  rcases List.mem_append.mp hp with hp | hp
  · exact absurd (it_mem ht h hs _ hp) h0
  · obtain ⟨k, hk, e⟩ := mem_walk.mp hp
    cases k with
    | zero => exact e.symm
    | succ k =>
      have e2 : it t k s = it t j s := to_inj ht (it_lt ht hs k) (it_lt ht hs j) e
      have hl : (walk t s (j + 1)).length = j + 1 := walk_len ..
      have e3 : (walk t s (j + 1))[k]'(by omega) = (walk t s (j + 1))[j]'(by omega) := by
        unfold walk
        rw [List.getElem_map, List.getElem_map, List.getElem_range, List.getElem_range]
        exact e2
      have := nodup_inj hI.nd _ _ e3
      omega
theorem out_succ {j i : Nat} {S M : List Nat} (ht : Turn n t) (h : Out n t i S M) (hs : i < n) (hI : In S t i (j + 1)) (hp : it t (j + 1) i ∈ S ++ walk t i (j + 1)) : Out n t (i + 1) (S ++ walk t i (j + 1)) (M ++ [j + 1]) := by
  have hb := it_back ht h hs hI hp
  have hne : ∀ k, 0 < k → k < j + 1 → it t k i ≠ i := by
    intro k h0 hk e
    have hl : (walk t i (j + 1)).length = j + 1 := walk_len ..
    have e3 : (walk t i (j + 1))[k]'(by omega) = (walk t i (j + 1))[0]'(by omega) := by
      unfold walk
      rw [List.getElem_map, List.getElem_map, List.getElem_range, List.getElem_range]
      exact e
    have := nodup_inj hI.nd _ _ e3
    omega
  refine ⟨?_, ?_, ?_, ?_, ?_, ?_, ?_⟩
  · refine List.nodup_append.mpr ⟨h.nd, hI.nd, fun x hx y hy e => ?_⟩
    exact hI.off y hy (e ▸ hx)
  · intro p hp'
    rcases List.mem_append.mp hp' with c | c
    · exact h.lt p c
    · obtain ⟨k, _, e⟩ := mem_walk.mp c
      rw [← e]
      exact it_lt ht hs k
  · intro p hpn
    rw [List.mem_append, List.mem_append]
    constructor
    · rintro (c | c)
      · exact .inl ((h.cl p hpn).mp c)
      · obtain ⟨k, hk, e⟩ := mem_walk.mp c
        refine .inr (mem_walk.mpr ?_)
        by_cases hk2 : k + 1 < j + 1
        · exact ⟨k + 1, hk2, by show to t (it t k i) = to t p; rw [e]⟩
        · have : k = j := by omega
          subst this
          exact ⟨0, by omega, by
            show i = to t p
            rw [← e]
            exact hb.symm⟩
    · rintro (c | c)
      · exact .inl ((h.cl p hpn).mpr c)
      · obtain ⟨k, hk, e⟩ := mem_walk.mp c
        refine .inr (mem_walk.mpr ?_)
        cases k with
        | zero =>
          refine ⟨j, Nat.lt_succ_self j, to_inj ht (it_lt ht hs j) hpn ?_⟩
          exact hb.trans e
        | succ k => exact ⟨k, by omega, to_inj ht (it_lt ht hs k) hpn e⟩
  · intro p hp'
    rcases Nat.lt_succ_iff_lt_or_eq.mp hp' with c | c
    · exact List.mem_append_left _ (h.all p c)
    · rw [c]
      exact List.mem_append_right _ (mem_walk.mpr ⟨0, Nat.succ_pos j, rfl⟩)
  · intro k
    have e1 : (∀ p ∈ walk t i (j + 1), it t k p = p) ↔ (j + 1) ∣ k := by
      rw [← it_dvd ht hs (Nat.succ_pos j) hb hne k]
      constructor
      · intro a
        exact a i (mem_walk.mpr ⟨0, Nat.succ_pos j, rfl⟩)
      · intro a p hp'
        obtain ⟨m, _, e⟩ := mem_walk.mp hp'
        rw [← e, it_comm, a]
    constructor
    · intro a m hm
      rcases List.mem_append.mp hm with c | c
      · exact (h.per k).mp (fun p hp' => a p (List.mem_append_left _ hp')) m c
      · rw [List.mem_singleton.mp c]
        exact e1.mp fun p hp' => a p (List.mem_append_right _ hp')
    · intro a p hp'
      rcases List.mem_append.mp hp' with c | c
      · exact (h.per k).mpr (fun m hm => a m (List.mem_append_left _ hm)) p c
      · exact e1.mpr (a _ (List.mem_append_right _ (List.mem_singleton.mpr rfl))) p c
  · intro m hm
    rcases List.mem_append.mp hm with c | c
    · exact h.sz m c
    · rw [List.mem_singleton.mp c]
      exact ⟨by omega, in_le ht hs hI⟩
  · have := h.ln
    rw [List.length_append, List.length_singleton]
    omega
/-- what the lengths tell -/
structure Lens (n : Nat) (t : List Nat) (M : List Nat) : Prop where
  per : ∀ k, (∀ p, p < n → it t k p = p) ↔ ∀ m ∈ M, m ∣ k
  sz : ∀ m ∈ M, 1 ≤ m ∧ m ≤ n
  ln : M.length ≤ n
theorem out_end {S M : List Nat} (h : Out n t n S M) : Lens n t M :=
  ⟨fun k => Iff.trans ⟨fun a p hp => a p (h.lt p hp), fun a p hp => a p (h.all p hp)⟩ (h.per k), h.sz, h.ln⟩
def lcmOf (M : List Nat) : Nat := M.foldl (fun a m => Nat.lcm a m) 1
theorem lcm_dvd (k : Nat) : ∀ (M : List Nat) (a : Nat), M.foldl (fun a m => Nat.lcm a m) a ∣ k ↔ a ∣ k ∧ ∀ m ∈ M, m ∣ k
  | [], a => by simp
  | m :: M, a => by
    show M.foldl (fun a m => Nat.lcm a m) (Nat.lcm a m) ∣ k ↔ _
    rw [lcm_dvd k M, Nat.lcm_dvd_iff]
    constructor
    · rintro ⟨⟨h1, h2⟩, h3⟩
      refine ⟨h1, fun x hx => ?_⟩
      rcases List.mem_cons.mp hx with rfl | hx
      · exact h2
      · exact h3 x hx
    · rintro ⟨h1, h2⟩
      exact ⟨⟨h1, h2 m List.mem_cons_self⟩, fun x hx => h2 x (List.mem_cons_of_mem _ hx)⟩
theorem lcm_take {M : List Nat} {i m : Nat} (h : M[i]? = some m) : lcmOf (M.take (i + 1)) = Nat.lcm (lcmOf (M.take i)) m := by
  unfold lcmOf
  rw [List.take_add_one, h, List.foldl_append]
  rfl
theorem lcm_pos : ∀ (M : List Nat), (∀ m ∈ M, 1 ≤ m) → ∀ a, 0 < a → 0 < M.foldl (fun a m => Nat.lcm a m) a
  | [], _, a, h => h
  | m :: M, hM, a, h => lcm_pos M (fun x hx => hM x (List.mem_cons_of_mem _ hx)) _ (Nat.lcm_pos h (hM m List.mem_cons_self))
theorem lcm_bound {b : Nat} (hb : 1 ≤ b) : ∀ (M : List Nat), (∀ m ∈ M, m ≤ b) → ∀ a, M.foldl (fun a m => Nat.lcm a m) a ≤ a * b ^ M.length
  | [], _, a => by simp
  | m :: M, hM, a => by
    have h1 := lcm_bound hb M (fun x hx => hM x (List.mem_cons_of_mem _ hx)) (Nat.lcm a m)
    have h2 : Nat.lcm a m ≤ a * m := by
      unfold Nat.lcm
      exact Nat.div_le_self _ _
    have h3 : a * m ≤ a * b := Nat.mul_le_mul_left _ (hM m List.mem_cons_self)
    show M.foldl (fun a m => Nat.lcm a m) (Nat.lcm a m) ≤ a * b ^ (M.length + 1)
    refine Nat.le_trans h1 (Nat.le_trans (Nat.mul_le_mul_right _ (Nat.le_trans h2 h3)) ?_)
    rw [Nat.pow_succ, Nat.mul_assoc, Nat.mul_comm b]
    exact Nat.le_refl _
theorem ord_lcm {M : List Nat} (h : Lens n t M) : Ord n t (lcmOf M) :=
  ⟨lcm_pos M (fun m hm => (h.sz m hm).1) 1 Nat.one_pos, fun k => by
    rw [h.per k]
    unfold lcmOf
    rw [lcm_dvd k M 1]
    exact ⟨fun a => ⟨Nat.one_dvd k, a⟩, fun a => a.2⟩⟩
end Pm

set_option Elab.async false
set_option linter.all false
set_option maxRecDepth 100000
set_option maxHeartbeats 3200000
namespace K24
open PySem L2 Tx Tg Tm Da
def top (i : Nat) : Stmt := PySem.Challenge.pw_whatcounts_k29_whole_merges.main.body.getD i (.Pass ⟨0, 0, 0, 0⟩)
abbrev sInt : Stmt := top 14
abbrev sLetters : Stmt := top 15
abbrev sText : Stmt := top 16
abbrev sCheck : Stmt := top 17
abbrev sHas : Stmt := top 18
abbrev sCText : Stmt := top 20
abbrev sIsState : Stmt := top 36
abbrev sRowOk : Stmt := top 37
abbrev sMovesOk : Stmt := top 38
abbrev sYesOk : Stmt := top 39
abbrev sReader : Stmt := top 40
abbrev sCup : Stmt := top 52
abbrev sBit : Stmt := top 53
abbrev sPick : Stmt := top 54
abbrev sDealt : Stmt := top 55
abbrev sSigns : Stmt := top 56
abbrev sSome : Stmt := top 58
abbrev sAny : Stmt := top 59
abbrev sTurning : Stmt := top 60
abbrev sRing : Stmt := top 61
abbrev sPair : Stmt := top 62
abbrev sTurner : Stmt := top 63
abbrev sPlain : Stmt := top 64
abbrev sMade : Stmt := top 66
abbrev sCell : Stmt := top 69
abbrev sLaw : Stmt := top 70
/-! ### values -/
inductive Val (H : Hp) : V → PyData → Prop
  | non : Val H .non .none
  | bl (b : Bool) : Val H (.bl b) (.bool b)
  | int (n : Int) : Val H (.int n) (.int n)
  | str (z : Str) : Val H (.str z) (.str z)
  | lst {a : Addr} (l : List Str) (h : H a = some (.lst (l.map V.str))) : Val H (.ref a) (.list (l.map PyData.str))
  | tup {a : Addr} (l : List Str) (h : H a = some (.tup (l.map V.str))) : Val H (.ref a) (.tuple (l.map PyData.str))
  | tupI {a : Addr} (l : List Int) (h : H a = some (.tup (l.map V.int))) : Val H (.ref a) (.tuple (l.map PyData.int))
  | dct {a : Addr} (kvs : List (Str × Int)) (h : H a = some (.dK (kvs.map fun p => (Sum.inr p.1, V.int p.2)))) : Val H (.ref a) (.dict (kvs.map fun p => (.str p.1, .int p.2)))
theorem Val.same {H H' : Hp} {v : V} {d : PyData} (s : Same H H') (h : Val H v d) : Val H' v d := by
  cases h with
  | non => exact .non
  | bl b => exact .bl b
  | int n => exact .int n
  | str z => exact .str z
  | lst l h => exact .lst l (s _ _ h)
  | tup l h => exact .tup l (s _ _ h)
  | tupI l h => exact .tupI l (s _ _ h)
  | dct l h => exact .dct l (s _ _ h)
def intTy : PyData → Bool
  | .int _ => true
  | .bool _ => true
  | _ => false
def strTy : PyData → Bool
  | .str _ => true
  | _ => false
def blTy : PyData → Bool
  | .bool _ => true
  | _ => false
theorem k_NoneType_int : kitB "NoneType" "int" = some false := by decide +kernel
theorem k_NoneType_str : kitB "NoneType" "str" = some false := by decide +kernel
theorem k_NoneType_bool : kitB "NoneType" "bool" = some false := by decide +kernel
theorem k_bool_int : kitB "bool" "int" = some true := by decide +kernel
theorem k_bool_str : kitB "bool" "str" = some false := by decide +kernel
theorem k_bool_bool : kitB "bool" "bool" = some true := by decide +kernel
theorem k_int_int : kitB "int" "int" = some true := by decide +kernel
theorem k_int_str : kitB "int" "str" = some false := by decide +kernel
theorem k_int_bool : kitB "int" "bool" = some false := by decide +kernel
theorem k_str_int : kitB "str" "int" = some false := by decide +kernel
theorem k_str_str : kitB "str" "str" = some true := by decide +kernel
theorem k_str_bool : kitB "str" "bool" = some false := by decide +kernel
theorem k_list_int : kitB "list" "int" = some false := by decide +kernel
theorem k_list_str : kitB "list" "str" = some false := by decide +kernel
theorem k_list_bool : kitB "list" "bool" = some false := by decide +kernel
theorem k_tuple_int : kitB "tuple" "int" = some false := by decide +kernel
theorem k_tuple_str : kitB "tuple" "str" = some false := by decide +kernel
theorem k_tuple_bool : kitB "tuple" "bool" = some false := by decide +kernel
theorem k_dict_int : kitB "dict" "int" = some false := by decide +kernel
theorem k_dict_str : kitB "dict" "str" = some false := by decide +kernel
theorem k_dict_bool : kitB "dict" "bool" = some false := by decide +kernel
theorem Val.ty {K : PySem.W.Frag} {H : Hp} {v : V} {d : PyData} (h : Val H v d) : ∃ t, TyX K H v t ∧ PySem.W.kitOne K t (.type "int") = some (intTy d) ∧ PySem.W.kitOne K t (.type "str") = some (strTy d) ∧ PySem.W.kitOne K t (.type "bool") = some (blTy d) := by
  cases h with
  | non => exact ⟨_, .base .non, kit_ty k_NoneType_int, kit_ty k_NoneType_str, kit_ty k_NoneType_bool⟩
  | bl b => exact ⟨_, .base (.bl b), kit_ty k_bool_int, kit_ty k_bool_str, kit_ty k_bool_bool⟩
  | int n => exact ⟨_, .base (.int n), kit_ty k_int_int, kit_ty k_int_str, kit_ty k_int_bool⟩
  | str z => exact ⟨_, .base (.str z), kit_ty k_str_int, kit_ty k_str_str, kit_ty k_str_bool⟩
  | lst l h => exact ⟨_, .base (.lst h), kit_ty k_list_int, kit_ty k_list_str, kit_ty k_list_bool⟩
  | tup l h => exact ⟨_, .base (.tup h), kit_ty k_tuple_int, kit_ty k_tuple_str, kit_ty k_tuple_bool⟩
  | tupI l h => exact ⟨_, .base (.tup h), kit_ty k_tuple_int, kit_ty k_tuple_str, kit_ty k_tuple_bool⟩
  | dct l h => exact ⟨_, .base (.dK h), kit_ty k_dict_int, kit_ty k_dict_str, kit_ty k_dict_bool⟩

/-- what the walk asks of the module's names -/
structure Txt (K : PySem.W.Frag) (mg : Str → Option Value) : Prop where
  isi : mg "isinstance" = none
  int : mg "int" = none
  str : mg "str" = none
  bool : mg "bool" = none
  abs : mg "abs" = none
  len : mg "len" = none
  list : mg "list" = none
  set : mg "set" = none
  sorted : mg "sorted" = none
  repr : mg "repr" = none
  range : mg "range" = none
  max : mg "max" = none
  min : mg "min" = none
  all : mg "all" = none
  tuple : mg "tuple" = none
  dict : mg "dict" = none
  zip : mg "zip" = none
  long : ∃ t, mg "LEAST_TOO_LONG" = some (.int (10 ^ 200) t)
  alpha : ∃ t, mg "ALPHABET" = some (.str alpha t)
  mLet : ∃ t, mg "MAX_LETTERS" = some (.int 3 t)
  mText : ∃ t, mg "MAX_TEXT" = some (.int 4000 t)
  mSta : ∃ t, mg "MAX_STATES" = some (.int 60 t)

theorem fine_line {z : Str} (h : Fine z) : z.length ≤ sizeLine := Nat.le_trans h.long (by decide)

/-! ### the program's judges -/
def spHas : Sp := fun vs H Q _ => ∃ (v : V) (d : PyData) (sg : Str) (m : Nat), vs = [v, .str sg, .int m] ∧ Val H v d ∧ Ok d ∧ Q (.bl (has sg m d)) H
section
variable {P : Program} {w : World} {K : PySem.W.Frag} {mg : Str → Option Value} {base : Heap}
theorem scHas : FnScope ["value", "signs", "most"] ["value", "signs", "most"] (defScope sHas) := ⟨rfl, rfl, rfl, by decide +kernel, rfl, by decide +kernel, by decide +kernel⟩
theorem ok_has {f : Addr} {fd : FuncData} (F : Fun K "has_only" "has_only" sHas f fd) (T : Txt K mg) : FnOk P w K mg base CX0 1 f fd ["value", "signs", "most"] spHas := by
  refine F.ok scHas (fun vs H Q E h => ?_) (fun cdv A outer s H vs Q E hr h => ?_)
  · obtain ⟨v, d, sg, m, rfl, _⟩ := h
    rfl
  · obtain ⟨v, d, sg, m, rfl, hv, hd, q⟩ := h
    refine ⟨_, pss_one (ps_ret (pe_and (pe_callB call_isi (by rfl) T.isi (by decide +kernel) (pa_cons (pv 0) (pa_cons (pe_bltn (v := .ty "str") (by rfl) T.str (by decide +kernel) rfl) pa_nil)))
      (pe_and (pe_cmpR op_le (pe_callB call_len_str (by rfl) T.len PySem.boot_len (pa_cons (pv 0) pa_nil)) (pv 2) (nomark _))
      (pe_one (pe_cmpR op_eq (pe_bm PySem.F.plainAttrs_str PySem.F.slot_str_strip PySem.F.type_str_strip mt_stripChars (pv 0) (pa_cons (pv 1) pa_nil)) pe_str (nomark _)))))), ?_⟩
    obtain ⟨t, ty, _, k, _⟩ := Val.ty (K := K) hv
    refine ⟨_, rfl, _, _, _, _, _, rfl, .ty "str", ty, k, strTy d, rfl, ?_⟩
    cases hv with
    | str z =>
      have hz := fine_line (show Fine z from hd)
      refine iteT ?_
      refine ⟨_, rfl, z, rfl, hz, _, rfl, _, _, rfl, rfl, _, rfl, ?_⟩
      have e1 : decide ((z.length : Int) ≤ (m : Int)) = decide (z.length ≤ m) := decide_eq_decide.mpr (by omega)
      rw [e1]
      have e0 : has sg m (.str z) = (decide (z.length ≤ m) && only z sg) := rfl
      rw [e0] at q
      by_cases hm : z.length ≤ m
      · rw [decide_eq_true hm] at q ⊢
        refine iteT ?_
        refine ⟨_, rfl, rfl, _, rfl, z, sg, rfl, rfl, hz, rfl, ?_⟩
        have e2 : decide (V.str (Txt.stripChars z sg) = V.str (Str.ofString "")) = only z sg := by
          rw [← strip_only]
          exact decide_eq_decide.mpr ⟨fun e => by injection e, fun e => by rw [e]; rfl⟩
        rw [e2]
        exact q
      · rw [decide_eq_false hm] at q ⊢
        exact iteF q
    | _ => exact iteF q

def spInt : Sp := fun vs H Q _ => ∃ (v : V) (d : PyData), vs = [v] ∧ Val H v d ∧ Q (.bl (isInt d)) H
theorem scInt : FnScope ["value"] ["value"] (defScope sInt) := ⟨rfl, rfl, rfl, by decide +kernel, rfl, by decide +kernel, by decide +kernel⟩
theorem isInt_abs (n : Int) : decide ((if n < 0 then -n else n) < 10 ^ 200) = isInt (.int n) := by
  show _ = decide (n.natAbs < 10 ^ 200)
  have e : ((10 ^ 200 : Nat) : Int) = 10 ^ 200 := by norm_cast
  rw [← e]
  generalize (10 ^ 200 : Nat) = M
  refine decide_eq_decide.mpr ?_
  split <;> omega
theorem ok_int {f : Addr} {fd : FuncData} (F : Fun K "is_integer" "is_integer" sInt f fd) (T : Txt K mg) : FnOk P w K mg base CX0 1 f fd ["value"] spInt := by
  refine F.ok scInt (fun vs H Q E h => ?_) (fun cdv A outer s H vs Q E hr h => ?_)
  · obtain ⟨v, d, rfl, _⟩ := h
    rfl
  · obtain ⟨v, d, rfl, hv, q⟩ := h
    obtain ⟨tl, hl⟩ := T.long
    refine ⟨_, pss_one (ps_ret (pe_and (pe_callB call_isi (by rfl) T.isi (by decide +kernel) (pa_cons (pv 0) (pa_cons (pe_bltn (v := .ty "int") (by rfl) T.int (by decide +kernel) rfl) pa_nil)))
      (pe_and (pe_not (pe_callB call_isi (by rfl) T.isi (by decide +kernel) (pa_cons (pv 0) (pa_cons (pe_bltn (v := .ty "bool") (by rfl) T.bool (by decide +kernel) rfl) pa_nil))))
      (pe_one (pe_cmpR op_lt (pe_callB call_abs (by rfl) T.abs (by decide +kernel) (pa_cons (pv 0) pa_nil)) (pe_glob (v := .int (10 ^ 200)) rfl hl ⟨_, rfl⟩) (nomark _)))))), ?_⟩
    obtain ⟨t, ty, k1, _, k3⟩ := Val.ty (K := K) hv
    refine ⟨_, rfl, _, _, _, _, _, rfl, .ty "int", ty, k1, intTy d, rfl, ?_⟩
    cases hv with
    | int n =>
      refine iteT ⟨_, rfl, _, _, _, _, _, rfl, .ty "bool", ty, k3, _, rfl, _, rfl, iteT ?_⟩
      refine ⟨_, rfl, n, rfl, _, _, rfl, rfl, ?_⟩
      show Q (.bl (decide ((if n < 0 then -n else n) < 10 ^ 200))) H
      rw [isInt_abs]
      exact q
    | bl b => exact iteT ⟨_, rfl, _, _, _, _, _, rfl, .ty "bool", ty, k3, _, rfl, _, rfl, iteF q⟩
    | _ => exact iteF q

end
/-- a def of the text, found under its name -/
structure Df (K : PySem.W.Frag) (mg : Str → Option Value) (x : Str) (st : Stmt) (ps : List Str) (f : Addr) (fd : FuncData) : Prop where
  F : Fun K x x st f fd
  m : mg x = some (.ref f)
  b : Binds K fd ps []

/-! ### rows of one-sign texts as data -/
abbrev onesD (l : List Nat) : List PyData := l.map fun c => PyData.str (one c)
theorem all_ones (K : PySem.W.Frag) (H : Hp) : ∀ l : List Nat, DpAll K H (ones l) (onesD l)
  | [] => .nil
  | c :: l => .cons (.str _) (all_ones K H l)
theorem eqv_ones : ∀ l m : List Nat, PyData.eqvAll (onesD l) (onesD m) = decide (l = m)
  | [], [] => rfl
  | [], _ :: _ => rfl
  | _ :: _, [] => rfl
  | c :: l, d :: m => by
    show ((one c == one d) && PyData.eqvAll (onesD l) (onesD m)) = _
    rw [eqv_ones l m]
    by_cases h : c = d
    · subst h
      simp
    · have e : (one c == one d) = false := beq_eq_false_iff_ne.mpr fun q => h (one_inj q)
      rw [e]
      simp [h]
theorem lay_all (l : List Nat) (h : ∀ c ∈ l, c < 128) : PyData.canLayAll0 (onesD l) = true := by
  induction l with
  | nil => rfl
  | cons c l ih =>
    have hc := h c List.mem_cons_self
    have e1 : PyData.canLay0 (.str (one c)) = true := by
      show (one c).cps.all (· < 0x110000) = true
      simp
      omega
    show (PyData.canLay0 (.str (one c)) && PyData.canLayAll0 (onesD l)) = true
    rw [ih fun d hd => h d (List.mem_cons_of_mem _ hd), e1]
    rfl
theorem deep_all (l : List Nat) : PyData.depthAll (onesD l) ≤ 1 := by
  induction l with
  | nil => decide
  | cons c l ih =>
    show max _ (PyData.depthAll (onesD l)) ≤ 1
    exact Nat.max_le.mpr ⟨(by show 0 ≤ 1; decide), ih⟩
theorem shaped_ones (l : List Nat) (h : ∀ c ∈ l, c < 128) : SeqAt.shaped (.list (onesD l)) = true := by
  unfold SeqAt.shaped
  rw [Bool.and_eq_true]
  refine ⟨lay_all l h, decide_eq_true ?_⟩
  show PyData.depthAll (onesD l) + 1 ≤ 64
  have := deep_all l
  omega

section
variable {P : Program} {w : World} {K : PySem.W.Frag} {mg : Str → Option Value} {base : Heap}
theorem scLetters : FnScope ["value"] ["value"] (defScope sLetters) := ⟨rfl, rfl, rfl, by decide +kernel, rfl, by decide +kernel, by decide +kernel⟩
def spLetters : Sp := fun vs H Q _ => ∃ (v : V) (d : PyData), vs = [v] ∧ Val H v d ∧ Ok d ∧ ∀ H', Same H H' → Q (.bl (letters d)) H'
theorem same_upd {H : Hp} {p : Addr} {o : HO} (h : H p = none) : Same H (upd H p o) := fun b u e => by
  rw [upd_ne (ne_of_none e h)]
  exact e
theorem ok_letters {f fH : Addr} {fd fdH : FuncData} (F : Fun K "is_letters" "is_letters" sLetters f fd) (T : Txt K mg) (DH : Df K mg "has_only" sHas ["value", "signs", "most"] fH fdH) :
    FnOk P w K mg base CX0 2 f fd ["value"] spLetters := by
  have G := ok_has (P := P) (w := w) (base := base) DH.F T
  refine F.ok scLetters (fun vs H Q E h => ?_) (fun cdv A outer s H vs Q E hr h => ?_)
  · obtain ⟨v, d, rfl, _⟩ := h
    rfl
  · obtain ⟨v, d, rfl, hv, hd, q⟩ := h
    obtain ⟨ta, ha⟩ := T.alpha
    obtain ⟨tn, hn⟩ := T.mLet
    refine ⟨_, pss_one (ps_ret (pe_and (pe_call G hr (by rfl) DH.m DH.F.kp DH.b .nil pass0 (pa_cons (pv 0) (pa_cons (pe_glob (v := .str alpha) rfl ha ⟨_, rfl⟩) (pa_cons (pe_glob (v := .int 3) rfl hn ⟨_, rfl⟩) pa_nil))))
      (pe_and (pe_cmpR op_ne (pv 0) pe_str (nomark _))
      (pe_one (pe_cmpR (op_eqD hr.units) (pe_callTy (cr_listTx rfl) (by rfl) T.list (by decide +kernel) (pa_cons (pv 0) pa_nil))
        (pe_callB (cr_sortTx rfl) (by rfl) T.sorted (by decide +kernel) (pa_cons (pe_callTy (cr_setTx rfl) (by rfl) T.set (by decide +kernel) (pa_cons (pv 0) pa_nil)) pa_nil)) (nomark _)))))), ?_⟩
    refine ⟨_, rfl, v, d, alpha, 3, rfl, hv, hd, _, rfl, ?_⟩
    cases hv with
    | str z =>
      have hz : Fine z := hd
      have e0 : letters (.str z) = (has alpha 3 (.str z) && decide (z ≠ Str.empty) && rise z) := rfl
      rw [e0] at q
      cases hb : has alpha 3 (.str z) with
      | true =>
        rw [hb] at q
        refine iteT ⟨_, rfl, rfl, ?_⟩
        have e : (!decide (V.str z = V.str (Str.ofString ""))) = decide (z ≠ Str.empty) := by
          rw [← decide_not]
          exact decide_eq_decide.mpr ⟨fun h e => h (by rw [e]; rfl), fun h e => h (by injection e)⟩
        refine ⟨_, rfl, ?_⟩
        rw [e]
        by_cases hne : z ≠ Str.empty
        · rw [decide_eq_true hne] at q ⊢
          refine iteT ?_
          refine ⟨_, rfl, z, rfl, fine_line hz, fun p1 n1 => ?_⟩
          refine ⟨_, rfl, z, rfl, hz.few, fun p2 n2 => ?_⟩
          refine ⟨p2, cds z, rfl, upd_same, hz.few, fun p3 n3 => ?_⟩
          have s1 : Same H (upd H p1 (.lst (ones (cds z)))) := same_upd n1
          have s2 := same_upd (o := TO w p2 (met [] (cds z))) n2
          have s3 := same_upd (o := .lst (ones (ups (cds z)))) n3
          have h1 := s3 _ _ (s2 _ _ (upd_same (H := H) (a := p1) (o := .lst (ones (cds z)))))
          refine ⟨.list (onesD (cds z)), .list (onesD (ups (cds z))), .lst (SqL.of h1) (all_ones _ _ _), .lst (SqL.of upd_same) (all_ones _ _ _), shaped_ones _ hz.plain, shaped_ones _ (fun c hc => hz.plain c ((ups_mem _ _).mp hc)), ?_⟩
          have e2 : PyData.eqv (.list (onesD (cds z))) (.list (onesD (ups (cds z)))) = rise z := eqv_ones _ _
          rw [e2]
          exact q _ ((s1.trans s2).trans s3)
        · have hne' : decide (z ≠ Str.empty) = false := decide_eq_false hne
          rw [hne'] at q ⊢
          exact iteF (q _ (Same.refl H))
      | false =>
        rw [hb] at q
        exact iteF (q _ (Same.refl H))
    | _ => exact iteF (q _ (Same.refl H))

/-! ### the law's drawer -/
/-- a drawer: three ints -/
def Cup (H : Hp) (c : Addr) : Prop := ∃ a0 a1 a2 : Int, H c = some (.lst [.int a0, .int a1, .int a2])
/-- all but what stands at c stays -/
def But (c : Addr) (H H' : Hp) : Prop := ∀ b o, b ≠ c → H b = some o → H' b = some o
theorem But.refl (c : Addr) (H : Hp) : But c H H := fun _ _ _ e => e
theorem But.trans {c : Addr} {H H1 H2 : Hp} (a : But c H H1) (b : But c H1 H2) : But c H H2 := fun x o n e => b x o n (a x o n e)
theorem But.of {c : Addr} {H H' : Hp} (s : Same H H') : But c H H' := fun b o _ e => s b o e
theorem But.put {c : Addr} {H : Hp} {o : HO} : But c H (upd H c o) := fun b u n e => by rw [upd_ne n]; exact e

def spCup (K : PySem.W.Frag) : Sp := fun vs H Q _ => ∃ (a : Addr) (ns : List Int) (k : Nat), vs = [.ref a, .int k] ∧ SqL K H a (ns.map V.int) ∧ ns.length ≤ 63 ∧ k ≤ 100 ∧ ∀ p H', H p = none → Same H H' → Cup H' p → Q (.ref p) H'
theorem scCup : FnScope ["_law_script", "_law_at", "_law_cell", "_law_great", "_law_blend"] ["_law_script", "_law_at"] (defScope sCup) := ⟨rfl, rfl, rfl, by decide +kernel, rfl, by decide +kernel, by decide +kernel⟩
theorem ok_cup {f : Addr} {fd : FuncData} (F : Fun K "_law_cup" "_law_cup" sCup f fd) (T : Txt K mg) : FnOk P w K mg base CX0 1 f fd ["_law_script", "_law_at"] (spCup K) := by
  refine F.ok scCup (fun vs H Q E h => ?_) (fun cdv A outer s H vs Q E hr h => ?_)
  · obtain ⟨a, ns, k, rfl, _⟩ := h
    rfl
  · obtain ⟨a, ns, k, rfl, hS, hlen, hk, q⟩ := h
    refine ⟨_, pss_cons (ps_set (i := 2) scCup.nd rfl (Or.inl rfl) (pe_ifExp (pt_cmpR op_lt (pv 1) (pe_callB call_len (by rfl) T.len PySem.boot_len (pa_cons (pv 0) pa_nil)) (nomark _))
        (pe_ix ix_list (pv 0) (pv 1) (fun _ _ => rfl)) (pe_op op_add (pe_op op_mul pe_int (pv 1)) pe_int)))
      (pss_cons (ps_set (i := 3) scCup.nd rfl (Or.inl rfl) (pe_op op_modN (pe_callTy call_int1 (by rfl) T.int (by decide +kernel) (pa_cons (pe_callB call_abs (by rfl) T.abs (by decide +kernel) (pa_cons (pv 2) pa_nil)) pa_nil))
        (pe_op op_powW (pe_op op_pow pe_int pe_int) pe_int)))
      (pss_cons (ps_set (i := 4) scCup.nd rfl (Or.inl rfl) (pe_op op_add (pe_op op_add (pe_op op_add
          (pe_op op_mul (pe_op op_modN (pe_callTy call_int1 (by rfl) T.int (by decide +kernel) (pa_cons (pv 3) pa_nil)) pe_int) pe_int) (pe_op op_mul pe_int (pv 1)))
          (pe_op op_mul pe_int (pe_callTy call_int1 (by rfl) T.int (by decide +kernel) (pa_cons (pe_cmpR op_lt (pv 2) pe_int (nomark _)) pa_nil)))) pe_int))
      (pss_one (ps_ret (pe_lst (pa_cons (pe_callB (call_max2 rfl) (by rfl) T.max (by decide +kernel) (pa_cons pe_int (pa_cons (pe_op op_sub (pv 3) (pe_op op_pow pe_int pe_int)) pa_nil)))
        (pa_cons (pe_op op_modN (pe_callTy call_int1 (by rfl) T.int (by decide +kernel) (pa_cons (pv 4) pa_nil)) pe_int) (pa_cons pe_int pa_nil)))))))), ?_⟩
    refine ⟨_, rfl, _, rfl, _, ns.length, rfl, .inl ⟨_, hS, by rw [List.length_map]⟩, _, _, rfl, rfl, _, rfl, ?_⟩
    refine ite2 (fun hc => ?_) (fun _ => ?_)
    · have hk2 : k < ns.length := by
        have := of_decide_eq_true hc
        omega
      refine ⟨_, rfl, _, rfl, a, _, _, .int ns[k], rfl, rfl, hS, atI_nat (by rw [List.getElem?_map, List.getElem?_eq_getElem hk2]; rfl), ?_⟩
      refine ⟨_, rfl, _, rfl, .inl ⟨_, rfl, _, _, rfl, rfl, ⟨by decide, by decide, by decide⟩, _, _, rfl, rfl, ⟨by decide, by decide +kernel⟩, _, _, rfl, rfl, (show (((10 : Int) ^ Int.toNat 61) ^ Int.toNat 11) ≠ 0 by decide +kernel), ?_⟩⟩
      refine ⟨_, rfl, .inl ⟨_, rfl, _, _, rfl, rfl, (show (2147483179 : Int) ≠ 0 by decide), _, _, rfl, rfl, .inr ⟨by decide, by decide⟩, _, rfl, _, _, rfl, rfl, .inl ⟨by decide, by decide⟩, _, _, rfl, rfl, _, rfl, _, _, rfl, rfl,
        .inr ⟨_, rfl, _, _, rfl, rfl, .inl ⟨by decide, by decide⟩, _, _, rfl, rfl, _, _, rfl, rfl, ?_⟩⟩⟩
      refine ⟨_, rfl, _, _, rfl, rfl, ⟨by decide, by decide, by decide⟩, _, _, rfl, rfl, _, _, rfl, _, rfl, .inl ⟨_, rfl, _, _, rfl, rfl, (show (2305843009213693907 : Int) ≠ 0 by decide), by show 3 ≤ sizeLine; decide, fun p hp => ?_⟩⟩
      exact q p _ hp (same_upd hp) ⟨_, _, _, upd_same⟩
    · refine ⟨_, rfl, _, _, rfl, rfl, .inl ⟨by decide, by decide⟩, _, _, rfl, rfl, ?_⟩
      refine ⟨_, rfl, _, rfl, .inl ⟨_, rfl, _, _, rfl, rfl, ⟨by decide, by decide, by decide⟩, _, _, rfl, rfl, ⟨by decide, by decide +kernel⟩, _, _, rfl, rfl, (show (((10 : Int) ^ Int.toNat 61) ^ Int.toNat 11) ≠ 0 by decide +kernel), ?_⟩⟩
      refine ⟨_, rfl, .inl ⟨_, rfl, _, _, rfl, rfl, (show (2147483179 : Int) ≠ 0 by decide), _, _, rfl, rfl, .inr ⟨by decide, by decide⟩, _, rfl, _, _, rfl, rfl, .inl ⟨by decide, by decide⟩, _, _, rfl, rfl, _, rfl, _, _, rfl, rfl,
        .inr ⟨_, rfl, _, _, rfl, rfl, .inl ⟨by decide, by decide⟩, _, _, rfl, rfl, _, _, rfl, rfl, ?_⟩⟩⟩
      refine ⟨_, rfl, _, _, rfl, rfl, ⟨by decide, by decide, by decide⟩, _, _, rfl, rfl, _, _, rfl, _, rfl, .inl ⟨_, rfl, _, _, rfl, rfl, (show (2305843009213693907 : Int) ≠ 0 by decide), by show 3 ≤ sizeLine; decide, fun p hp => ?_⟩⟩
      exact q p _ hp (same_upd hp) ⟨_, _, _, upd_same⟩

def spBit : Sp := fun vs H Q _ => ∃ (c : Addr) (m : Int), vs = [.ref c, .int m] ∧ Cup H c ∧ 0 < m ∧ m.natAbs < 2 ^ 9000 ∧ ∀ r H', 0 ≤ r → r < m → Cup H' c → But c H H' → Q (.int r) H'
theorem scBit : FnScope ["_law_cup_here", "_law_much", "_law_found", "_law_first", "_law_later"] ["_law_cup_here", "_law_much"] (defScope sBit) := ⟨rfl, rfl, rfl, by decide +kernel, rfl, by decide +kernel, by decide +kernel⟩
theorem ok_bit {f : Addr} {fd : FuncData} (F : Fun K "_law_bit" "_law_bit" sBit f fd) (T : Txt K mg) : FnOk P w K mg base CX0 1 f fd ["_law_cup_here", "_law_much"] spBit := by
  refine F.ok scBit (fun vs H Q E h => ?_) (fun cdv A outer s H vs Q E hr h => ?_)
  · obtain ⟨c, m, rfl, _⟩ := h
    rfl
  · obtain ⟨c, m, rfl, ⟨a0, a1, a2, hc⟩, hm, hm2, q⟩ := h
    refine ⟨_, pss_cons (ps_if (pt_cmpR op_gt (pe_ix ix_list (pv 0) pe_int (fun _ _ => rfl)) pe_int (nomark _))
        (pss_cons (ps_set (i := 2) scBit.nd rfl (Or.inl rfl) (pe_op op_modN (pe_callTy call_int1 (by rfl) T.int (by decide +kernel) (pa_cons (pe_ix ix_list (pv 0) pe_int (fun _ _ => rfl)) pa_nil)) (pv 1)))
        (pss_cons (ps_asg (pe_op op_fdivW (pe_ix ix_list (pv 0) pe_int (fun _ _ => rfl)) (pv 1)) (pg_sub (pv 0) pe_int set_list))
        (pss_one (ps_ret (pv 2))))) pss_nil)
      (pss_cons (ps_asg (pe_op op_add (pe_ix ix_list (pv 0) pe_int (fun _ _ => rfl)) pe_int) (pg_sub (pv 0) pe_int set_list))
      (pss_cons (ps_set (i := 3) scBit.nd rfl (Or.inl rfl) (pe_op op_modN (pe_callTy call_int1 (by rfl) T.int (by decide +kernel) (pa_cons (pe_op op_add (pe_ix ix_list (pv 0) pe_int (fun _ _ => rfl))
          (pe_op op_mul pe_int (pe_ix ix_list (pv 0) pe_int (fun _ _ => rfl)))) pa_nil)) pe_int))
      (pss_cons (ps_set (i := 4) scBit.nd rfl (Or.inl rfl) (pe_op op_add (pe_op op_mul (pe_op op_modN (pe_callTy call_int1 (by rfl) T.int (by decide +kernel) (pa_cons (pe_op op_mul (pv 3) (pv 3)) pa_nil)) pe_int) (pv 3))
          (pe_op op_mul pe_int (pe_ix ix_list (pv 0) pe_int (fun _ _ => rfl)))))
      (pss_one (ps_ret (pe_op op_modN (pe_callTy call_int1 (by rfl) T.int (by decide +kernel) (pa_cons (pe_op op_fdivN (pe_op op_modN (pe_callTy call_int1 (by rfl) T.int (by decide +kernel) (pa_cons (pv 4) pa_nil)) pe_int) pe_int) pa_nil)) (pv 1))))))), ?_⟩
    have at0 : ∀ {x y z : V}, atI [x, y, z] (0 : Int) = some x := rfl
    have at1 : ∀ {x y z : V}, atI [x, y, z] (1 : Int) = some y := rfl
    have at2 : ∀ {x y z : V}, atI [x, y, z] (2 : Int) = some z := rfl
    have rest : ∀ i : Int, 0 ≤ i.fmod m ∧ i.fmod m < m := fun i => by
      rw [Int.fmod_eq_emod_of_nonneg i (Int.le_of_lt hm)]
      exact ⟨Int.emod_nonneg i (Int.ne_of_gt hm), Int.emod_lt_of_pos i hm⟩
    refine ⟨_, rfl, c, _, _, _, rfl, rfl, SqL.of hc, at0, _, _, rfl, rfl, _, rfl, ?_⟩
    refine ite2 (fun _ => ?_) (fun _ => ?_)
    · refine ⟨_, rfl, c, _, _, _, rfl, rfl, SqL.of hc, at0, .inl ⟨_, rfl, _, rfl, _, _, rfl, rfl, (Int.ne_of_gt hm), ?_⟩⟩
      refine ⟨_, rfl, c, _, _, _, rfl, rfl, SqL.of hc, at0, _, rfl, _, _, rfl, rfl, wide_div hm hm2 (by decide) (by decide), ?_⟩
      refine ⟨_, rfl, c, _, _, 0, rfl, rfl, hc, rfl, ?_⟩
      exact ⟨_, rfl, q _ _ (rest _).1 (rest _).2 ⟨_, _, _, upd_same⟩ But.put⟩
    · refine ⟨_, rfl, c, _, _, _, rfl, rfl, SqL.of hc, at2, _, _, rfl, rfl, _, rfl, c, _, _, 2, rfl, rfl, hc, rfl, ?_⟩
      have hc2 : (upd H c (.lst ([.int a0, .int a1, .int a2].set 2 (.int (a2 + 1))))) c = some (.lst [.int a0, .int a1, .int (a2 + 1)]) := upd_same
      refine ⟨_, rfl, c, _, _, _, rfl, rfl, SqL.of hc2, at1, _, rfl, c, _, _, _, rfl, rfl, SqL.of hc2, at2, _, _, rfl, rfl, .inl ⟨by decide, by decide⟩, _, _, rfl, rfl, .inl ⟨_, rfl, _, _, rfl, rfl, (show (2305843009213693951 : Int) ≠ 0 by decide), ?_⟩⟩
      have f1 := Int.emod_nonneg (a1 + 1000541 * (a2 + 1)) (b := 2305843009213693951) (by decide)
      have f2 := Int.emod_lt_of_pos (a1 + 1000541 * (a2 + 1)) (b := 2305843009213693951) (by decide)
      rw [← Int.fmod_eq_emod_of_nonneg (a1 + 1000541 * (a2 + 1)) (b := 2305843009213693951) (by decide)] at f1 f2
      have f3 : -(2 ^ 64 : Int) < Int.fmod (a1 + 1000541 * (a2 + 1)) 2305843009213693951 ∧ Int.fmod (a1 + 1000541 * (a2 + 1)) 2305843009213693951 < 2 ^ 64 :=
        ⟨Int.lt_of_lt_of_le (by decide) f1, Int.lt_trans f2 (by decide)⟩
      refine ⟨_, rfl, _, rfl, _, _, rfl, rfl, .inl f3, .inl ⟨_, rfl, _, _, rfl, rfl, (show (2305843009213693921 : Int) ≠ 0 by decide), _, rfl, _, _, rfl, rfl, .inr f3, _, rfl, c, _, _, _, rfl, rfl, SqL.of hc2, at2,
        _, _, rfl, rfl, .inl ⟨by decide, by decide⟩, _, _, rfl, rfl, ?_⟩⟩
      refine ⟨_, rfl, .inl ⟨_, rfl, _, _, rfl, rfl, (show (2305843009213693907 : Int) ≠ 0 by decide), _, _, rfl, rfl, (show (16384 : Int) ≠ 0 ∧ (16384 : Int).natAbs < 1073741824 by decide), .inl ⟨_, rfl, _, rfl, _, _, rfl, rfl, (Int.ne_of_gt hm), ?_⟩⟩⟩
      exact q _ _ (rest _).1 (rest _).2 ⟨_, _, _, hc2⟩ But.put
/-! ### drawing -/
theorem scPick : FnScope ["_law_cup_here", "_law_items"] ["_law_cup_here", "_law_items"] (defScope sPick) := ⟨rfl, rfl, rfl, by decide +kernel, rfl, by decide +kernel, by decide +kernel⟩
def spPick : Sp := fun vs H Q _ => ∃ (c : Addr), Cup H c ∧
  ((∃ (p : Addr) (xs : List V), vs = [.ref c, .ref p] ∧ p ≠ c ∧ H p = some (.lst xs) ∧ 0 < xs.length ∧ xs.length < 100 ∧ ∀ x H', x ∈ xs → Cup H' c → But c H H' → Q x H') ∨
   (∃ z : Str, vs = [.ref c, .str z] ∧ 0 < z.length ∧ z.length < 100 ∧ ∀ s H', s ∈ cds z → Cup H' c → But c H H' → Q (.str (one s)) H'))
theorem ok_pick {f fB : Addr} {fd fdB : FuncData} (F : Fun K "_law_pick" "_law_pick" sPick f fd) (T : Txt K mg) (DB : Df K mg "_law_bit" sBit ["_law_cup_here", "_law_much"] fB fdB) :
    FnOk P w K mg base CX0 2 f fd ["_law_cup_here", "_law_items"] spPick := by
  have G := ok_bit (P := P) (w := w) (base := base) DB.F T
  refine F.ok scPick (fun vs H Q E h => ?_) (fun cdv A outer s H vs Q E hr h => ?_)
  · obtain ⟨c, _, h⟩ := h
    rcases h with ⟨p, xs, rfl, _⟩ | ⟨z, rfl, _⟩ <;> rfl
  · obtain ⟨c, hc, h⟩ := h
    refine ⟨_, pss_one (ps_ret (pe_ix ix_seq (pv 1) (pe_call G hr (by rfl) DB.m DB.F.kp DB.b .nil pass0 (pa_cons (pv 0) (pa_cons (pe_callB call_len (by rfl) T.len PySem.boot_len (pa_cons (pv 1) pa_nil)) pa_nil))) (fun _ _ => rfl))), ?_⟩
    have small : ∀ n : Nat, n < 100 → (n : Int).natAbs < 2 ^ 9000 := fun n hn => Nat.lt_of_lt_of_le (show (n : Int).natAbs < 2 ^ 7 by omega) (Nat.pow_le_pow_right (by decide) (by decide))
    rcases h with ⟨p, xs, rfl, hpc, hp, h0, h1, q⟩ | ⟨z, rfl, h0, h1, q⟩
    · refine ⟨_, rfl, _, rfl, _, rfl, _, xs.length, rfl, .inl ⟨_, SqL.of hp, rfl⟩, c, xs.length, rfl, hc, by omega, small _ h1, fun r H' r0 r1 hc' but => ?_⟩
      obtain ⟨n, rfl⟩ := Int.eq_ofNat_of_zero_le r0
      have hn : n < xs.length := by omega
      exact .inl ⟨p, xs, _, xs[n], rfl, rfl, SqL.of (but _ _ hpc hp), atI_nat (List.getElem?_eq_getElem hn), q _ _ (List.getElem_mem hn) hc' but⟩
    · have hl : z.length ≤ sizeLine := Nat.le_trans (Nat.le_of_lt h1) (by decide)
      refine ⟨_, rfl, _, rfl, _, rfl, _, z.length, rfl, ⟨hl, rfl⟩, c, z.length, rfl, hc, by omega, small _ h1, fun r H' r0 r1 hc' but => ?_⟩
      obtain ⟨n, rfl⟩ := Int.eq_ofNat_of_zero_le r0
      have hn : n < (cds z).length := by rw [cds_len]; omega
      exact .inr (.inr ⟨z, _, (cds z)[n], rfl, rfl, hl, atI_nat (List.getElem?_eq_getElem hn), q _ _ (List.getElem_mem hn) hc' but⟩)

def Signs (z : Str) : Prop := z = "ab" ∨ z = "xy" ∨ z = "a" ∨ z = "abc" ∨ z = "b"
def spSigns : Sp := fun vs H Q _ => ∃ (c : Addr), vs = [.ref c] ∧ Cup H c ∧ ∀ z H', Signs z → Cup H' c → But c H H' → Q (.str z) H'
theorem scSigns : FnScope ["_law_cup_here"] ["_law_cup_here"] (defScope sSigns) := ⟨rfl, rfl, rfl, by decide +kernel, rfl, by decide +kernel, by decide +kernel⟩
theorem Cup.same {H H' : Hp} {c : Addr} (s : Same H H') (h : Cup H c) : Cup H' c := let ⟨a, b, d, e⟩ := h; ⟨a, b, d, s _ _ e⟩
theorem Cup.ne {H : Hp} {c p : Addr} (h : Cup H c) (n : H p = none) : p ≠ c := by
  obtain ⟨a, b, d, e⟩ := h
  exact (ne_of_none e n).symm
theorem ok_signs {f fB fP : Addr} {fd fdB fdP : FuncData} (F : Fun K "_law_signs" "_law_signs" sSigns f fd) (T : Txt K mg) (DB : Df K mg "_law_bit" sBit ["_law_cup_here", "_law_much"] fB fdB)
    (DP : Df K mg "_law_pick" sPick ["_law_cup_here", "_law_items"] fP fdP) : FnOk P w K mg base CX0 3 f fd ["_law_cup_here"] spSigns := by
  have G := ok_pick (P := P) (w := w) (base := base) DP.F T DB
  refine F.ok scSigns (fun vs H Q E h => ?_) (fun cdv A outer s H vs Q E hr h => ?_)
  · obtain ⟨c, rfl, _⟩ := h
    rfl
  · obtain ⟨c, rfl, hc, q⟩ := h
    refine ⟨_, pss_one (ps_ret (pe_call G hr (by rfl) DP.m DP.F.kp DP.b .nil pass0 (pa_cons (pv 0) (pa_cons (pe_lst (pa_cons pe_str (pa_cons pe_str (pa_cons pe_str (pa_cons pe_str (pa_cons pe_str (pa_cons pe_str pa_nil))))))) pa_nil)))), ?_⟩
    refine ⟨_, rfl, by show 6 ≤ sizeLine; decide, fun p np => ⟨c, hc.same (same_upd np), .inl ⟨p, _, rfl, hc.ne np, upd_same, by decide, by decide, fun x H' hx hc' but => ?_⟩⟩⟩
    have b2 : But c H H' := (But.of (same_upd np)).trans but
    simp only [List.mem_cons, List.not_mem_nil, or_false] at hx
    rcases hx with rfl | rfl | rfl | rfl | rfl | rfl
    · exact q _ _ (.inl rfl) hc' b2
    · exact q _ _ (.inl rfl) hc' b2
    · exact q _ _ (.inl rfl) hc' b2
    · exact q _ _ (.inr (.inl rfl)) hc' b2
    · exact q _ _ (.inr (.inr (.inl rfl))) hc' b2
    · exact q _ _ (.inr (.inr (.inr (.inl rfl)))) hc' b2
end
theorem signs_letters {sg : Str} (h : Signs sg) : letters (.str sg) = true := by
  have go : ∀ z : Str, (decide (z.length ≤ 3) && only z alpha && decide (z ≠ Str.empty)) = true → (cds z).Pairwise (· < ·) → letters (.str z) = true := fun z h1 h2 => by
    show (decide (z.length ≤ 3) && only z alpha && decide (z ≠ Str.empty) && rise z) = true
    rw [h1, Bool.true_and]
    exact decide_eq_true (up_eq h2 (ups_up _) fun c => (ups_mem _ c).symm)
  rcases h with rfl | rfl | rfl | rfl | rfl <;> exact go _ (by decide +kernel) (by decide +kernel)
theorem signs_fine {sg : Str} (h : Signs sg) : Fine sg := by
  rcases h with rfl | rfl | rfl | rfl | rfl <;> exact ⟨by decide +kernel, by decide +kernel, by decide +kernel⟩
section
variable {P : Program} {w : World} {K : PySem.W.Frag} {mg : Str → Option Value} {base : Heap}
def spPassL : Sp := fun vs H Q _ => ∃ (sg : Str), vs = [.str sg] ∧ Signs sg ∧ ∀ H', Same H H' → Q .non H'
theorem scCheck : FnScope ["value"] ["value"] (defScope sCheck) := ⟨rfl, rfl, rfl, by decide +kernel, rfl, by decide +kernel, by decide +kernel⟩
theorem ok_passL {f fH fL : Addr} {fd fdH fdL : FuncData} (F : Fun K "check_letters" "check_letters" sCheck f fd) (T : Txt K mg) (DH : Df K mg "has_only" sHas ["value", "signs", "most"] fH fdH)
    (DL : Df K mg "is_letters" sLetters ["value"] fL fdL) : FnOk P w K mg base CX0 3 f fd ["value"] spPassL := by
  have G := ok_letters (P := P) (w := w) (base := base) DL.F T DH
  refine F.ok scCheck (fun vs H Q E h => ?_) (fun cdv A outer s H vs Q E hr h => ?_)
  · obtain ⟨v, rfl, _⟩ := h
    rfl
  · obtain ⟨sg, rfl, hs, q⟩ := h
    refine ⟨_, pss_one (ps_if (pt_not (pt_val (pe_call G hr (by rfl) DL.m DL.F.kp DL.b .nil pass0 (pa_cons (pv 0) pa_nil)))) (pss_one ps_never) pss_nil), ?_⟩
    refine ⟨_, rfl, .str sg, .str sg, rfl, .str sg, signs_fine hs, fun H' s1 => ⟨_, rfl, ?_⟩⟩
    rw [signs_letters hs]
    exact iteF (q _ s1)
end
/-! ### heaps -/
def NoT (H : Hp) (a : Addr) : Prop := ∀ xs, H a ≠ some (.tup xs)
theorem NoT.none {H : Hp} {a : Addr} (h : H a = none) : NoT H a := fun xs e => by rw [h] at e; cases e
theorem NoT.lst {H : Hp} {a : Addr} {xs : List V} (h : H a = some (.lst xs)) : NoT H a := fun ys e => by rw [h] at e; cases e
theorem NoT.dK {H : Hp} {a : Addr} {xs : List (Key × V)} (h : H a = some (.dK xs)) : NoT H a := fun ys e => by rw [h] at e; cases e
theorem NoT.ins {H : Hp} {a C dx : Addr} {fs : List (Str × V)} (h : H a = some (.ins C dx fs)) : NoT H a := fun ys e => by rw [h] at e; cases e
theorem Cup.noT {H : Hp} {c : Addr} (h : Cup H c) : NoT H c := let ⟨_, _, _, e⟩ := h; .lst e
def KeepT (H H' : Hp) : Prop := ∀ p xs, H p = some (.tup xs) → H' p = some (.tup xs)
theorem KeepT.same {H H' : Hp} (s : Same H H') : KeepT H H' := fun _ _ e => s _ _ e
theorem KeepT.upd {H : Hp} {a : Addr} {o : HO} (n : NoT H a) : KeepT H (upd H a o) := fun p xs e => by
  rw [upd_ne fun z => n xs (by rw [← z]; exact e)]
  exact e
theorem KeepT.but {H H' : Hp} {c : Addr} (n : NoT H c) (b : But c H H') : KeepT H H' := fun p xs e => b _ _ (fun z => n xs (by rw [← z]; exact e)) e
theorem KeepT.trans {H H1 H2 : Hp} (a : KeepT H H1) (b : KeepT H1 H2) : KeepT H H2 := fun p xs e => b p xs (a p xs e)
theorem each_app {α β : Type} {R : α → β → Prop} : ∀ {as as' : List α} {bs bs' : List β}, PySem.W.EachIs R as bs → PySem.W.EachIs R as' bs' → PySem.W.EachIs R (as ++ as') (bs ++ bs')
  | _, _, _, _, .nil, r => r
  | _, _, _, _, .cons r t, q => .cons r (each_app t q)
theorem each_snoc {α β : Type} {R : α → β → Prop} {as : List α} {bs : List β} {a : α} {b : β} (h : PySem.W.EachIs R as bs) (r : R a b) : PySem.W.EachIs R (as ++ [a]) (bs ++ [b]) := each_app h (.cons r .nil)
theorem same_put {H H' : Hp} {D : Addr} {o : HO} (s : Same H H') (n : H D = none) : Same H (upd H' D o) := fun b u e => by
  rw [upd_ne (ne_of_none e n)]
  exact s b u e
theorem free_none {H H' : Hp} {p : Addr} (s : Same H H') (n : H' p = none) : H p = none := by
  cases hh : H p with
  | none => rfl
  | some o =>
    have := s _ _ hh
    rw [n] at this
    cases this
theorem ty_tup {K : PySem.W.Frag} {H : Hp} {a : Addr} {xs : List V} (h : SqT K H a xs) : TyX K H (.ref a) (.type "tuple") := by
  rcases h with h | ⟨o, its, n, hk, hc, _⟩
  · rcases h with h | ⟨o, h⟩
    · exact .base (.tup h)
    · exact .fTuple h
  · exact .kTuple hk hc
theorem k_tuple_tuple : kitB "tuple" "tuple" = some true := by decide +kernel
theorem sg_range {sg : Str} (h : Signs sg) : ∀ c ∈ cds sg, 97 ≤ c ∧ c ≤ 122 := by
  rcases h with rfl | rfl | rfl | rfl | rfl <;> decide +kernel
theorem sg_len {sg : Str} (h : Signs sg) : 0 < sg.length ∧ sg.length ≤ 3 := by
  rcases h with rfl | rfl | rfl | rfl | rfl <;> decide +kernel
def Over (sg z : Str) : Prop := ∀ c ∈ cds z, c ∈ cds sg
theorem over_fine {sg z : Str} (h : Signs sg) (v : Over sg z) (hl : z.length ≤ 4000) : Fine z := by
  refine ⟨by omega, ?_, fun c hc => ?_⟩
  · rw [← (ups_perm (cds z)).length_eq]
    have h1 := Pm.len_le (ups_nodup (cds z)) (r := cds sg) fun c hc => v c ((ups_mem _ c).mp hc)
    have h2 : (cds sg).length ≤ 6 := by rw [cds_len]; have := (sg_len h).2; omega
    omega
  · have := sg_range h c (v c hc)
    omega
theorem over_has {sg z : Str} (v : Over sg z) (hl : z.length ≤ 4000) : has sg 4000 (.str z) = true := by
  show (decide (z.length ≤ 4000) && only z sg) = true
  rw [decide_eq_true hl, only_iff.mpr v]
  rfl
theorem nat_isInt {n : Nat} (h : n < 10 ^ 200) : isInt (.int (n : Int)) = true := by
  show decide ((n : Int).natAbs < 10 ^ 200) = true
  rw [Int.natAbs_natCast]
  exact decide_eq_true h
def tx (l : List Nat) : Str := ⟨l.toArray⟩
theorem cds_tx (l : List Nat) : cds (tx l) = l := rfl
theorem tx_cds (z : Str) : tx (cds z) = z := cds_ext rfl
theorem cds_app (a b : Str) : cds (a ++ b) = cds a ++ cds b := by
  show (a.cps ++ b.cps).toList = _
  rw [Array.toList_append]
theorem tx_app (l m : List Nat) : tx l ++ tx m = tx (l ++ m) := cds_ext (by rw [cds_app]; rfl)
theorem tx_len (l : List Nat) : (tx l).length = l.length := by
  rw [← cds_len]
  rfl
def plainS (z : Str) : Prop := ∀ c ∈ cds z, c < 128
theorem lay_str {z : Str} (h : plainS z) : PyData.canLay0 (.str z) = true := by
  show z.cps.all (· < 0x110000) = true
  rw [Array.all_eq_true_iff_forall_mem]
  intro c hc
  have := h c (Array.mem_toList_iff.mpr hc)
  exact decide_eq_true (by omega)
theorem over_plain {sg z : Str} (h : Signs sg) (v : Over sg z) : plainS z := fun c hc => by
  have := sg_range h c (v c hc)
  omega
theorem Cup.put {H : Hp} {c D : Addr} {o : HO} (h : Cup H c) (n : D ≠ c) : Cup (upd H D o) c := by
  obtain ⟨c0, c1, c2, ec⟩ := h
  exact ⟨c0, c1, c2, by rw [upd_ne n.symm]; exact ec⟩
theorem But.putN {c D : Addr} {H H' : Hp} {o : HO} (b : But c H H') (n : H D = none) : But c H (upd H' D o) := fun x u nx e => by
  rw [upd_ne (ne_of_none e n)]
  exact b _ _ nx e
theorem str_len (a b : Str) : (a ++ b).length = a.length + b.length := Array.size_append
theorem empty_app (a : Str) : Str.empty ++ a = a := cds_ext (by rw [cds_app]; rfl)
theorem cds_join : ∀ l : List Str, cds (Txt.join "" l) = (l.map cds).flatten := by
  intro l
  rw [show Txt.join "" l = Str.join "" l from TL.join_eq _ _]
  have e0 : cds ("" : Str) = [] := by decide +kernel
  induction l with
  | nil => exact e0
  | cons x l ih =>
    cases l with
    | nil =>
      show cds x = cds x ++ []
      rw [List.append_nil]
    | cons y r =>
      show cds (x ++ ("" : Str) ++ Str.join "" (y :: r)) = cds x ++ ((y :: r).map cds).flatten
      rw [cds_app, cds_app, e0, List.append_nil, ih]
theorem join_ones : ∀ l : List Nat, cds (Txt.join "" (l.map one)) = l := fun l => by
  rw [cds_join, List.map_map]
  induction l with
  | nil => rfl
  | cons c l ih =>
    show [c] ++ (l.map (cds ∘ one)).flatten = c :: l
    rw [ih]
    rfl
theorem sum_ones (l : List Nat) : ((l.map one).map (·.length)).sum = l.length := by
  rw [List.map_map]
  induction l with
  | nil => rfl
  | cons c l ih =>
    show 1 + (l.map _).sum = l.length + 1
    rw [ih]
    omega
theorem small9000 {m : Int} (h0 : 0 ≤ m) (h : m ≤ 100) : m.natAbs < 2 ^ 9000 := Nat.lt_of_lt_of_le (show m.natAbs < 2 ^ 7 by omega) (Nat.pow_le_pow_right (by decide) (by decide))
section
variable {P : Program} {w : World} {K : PySem.W.Frag} {mg : Str → Option Value} {base : Heap}
def spText : Sp := fun vs H Q _ => ∃ sg z : Str, vs = [.str sg, .str z] ∧ Signs sg ∧ Over sg z ∧ z.length ≤ 4000 ∧ ∀ H', Same H H' → Q (.bl true) H'
theorem scText : FnScope ["letters", "value"] ["letters", "value"] (defScope sText) := ⟨rfl, rfl, rfl, by decide +kernel, rfl, by decide +kernel, by decide +kernel⟩
structure Low (K : PySem.W.Frag) (mg : Str → Option Value) (fI fH fL fC fT : Addr) (dI dH dL dC dT : FuncData) : Prop where
  DI : Df K mg "is_integer" sInt ["value"] fI dI
  DH : Df K mg "has_only" sHas ["value", "signs", "most"] fH dH
  DL : Df K mg "is_letters" sLetters ["value"] fL dL
  DC : Df K mg "check_letters" sCheck ["value"] fC dC
  DT : Df K mg "is_text" sText ["letters", "value"] fT dT
theorem ok_text {f fI fH fL fC fT : Addr} {fd dI dH dL dC dT : FuncData} (F : Fun K "is_text" "is_text" sText f fd) (T : Txt K mg) (G : Low K mg fI fH fL fC fT dI dH dL dC dT) : FnOk P w K mg base CX0 4 f fd ["letters", "value"] spText := by
  have GC := ok_passL (P := P) (w := w) (base := base) G.DC.F T G.DH G.DL
  have GH := ok_has (P := P) (w := w) (base := base) G.DH.F T
  refine F.ok scText (fun vs H Q E h => ?_) (fun cdv A outer s H vs Q E hr h => ?_)
  · obtain ⟨sg, z, rfl, _⟩ := h
    rfl
  · obtain ⟨sg, z, rfl, hsg, hz, hl, q⟩ := h
    obtain ⟨tn, hn⟩ := T.mText
    refine ⟨_, pss_cons (ps_expr (pe_call GC hr (by rfl) G.DC.m G.DC.F.kp G.DC.b .nil pass0 (pa_cons (pv 0) pa_nil)))
      (pss_one (ps_ret (pe_call GH (hr.mono (by decide)) (by rfl) G.DH.m G.DH.F.kp G.DH.b .nil pass0 (pa_cons (pv 1) (pa_cons (pv 0) (pa_cons (pe_glob (v := .int 4000) rfl hn ⟨_, rfl⟩) pa_nil)))))), ?_⟩
    refine ⟨_, rfl, sg, rfl, hsg, fun H' s' => ?_⟩
    refine ⟨_, rfl, _, rfl, .str z, .str z, sg, 4000, rfl, .str z, over_fine hsg hz (by omega), ?_⟩
    rw [over_has hz (by omega)]
    exact q H' s'
def spCText : Sp := fun vs H Q _ => ∃ sg z : Str, vs = [.str sg, .str z] ∧ Signs sg ∧ Over sg z ∧ z.length ≤ 4000 ∧ ∀ H', Same H H' → Q .non H'
theorem scCText : FnScope ["letters", "value"] ["letters", "value"] (defScope sCText) := ⟨rfl, rfl, rfl, by decide +kernel, rfl, by decide +kernel, by decide +kernel⟩
theorem ok_ctext {f fI fH fL fC fT : Addr} {fd dI dH dL dC dT : FuncData} (F : Fun K "check_text" "check_text" sCText f fd) (T : Txt K mg) (G : Low K mg fI fH fL fC fT dI dH dL dC dT) : FnOk P w K mg base CX0 5 f fd ["letters", "value"] spCText := by
  have GT := ok_text (P := P) (w := w) (base := base) G.DT.F T G
  refine F.ok scCText (fun vs H Q E h => ?_) (fun cdv A outer s H vs Q E hr h => ?_)
  · obtain ⟨sg, z, rfl, _⟩ := h
    rfl
  · obtain ⟨sg, z, rfl, hsg, hz, hl, q⟩ := h
    refine ⟨_, pss_one (ps_if (pt_not (pt_val (pe_call GT hr (by rfl) G.DT.m G.DT.F.kp G.DT.b .nil pass0 (pa_cons (pv 0) (pa_cons (pv 1) pa_nil))))) (pss_one ps_never) pss_nil), ?_⟩
    exact ⟨_, rfl, _, rfl, sg, z, rfl, hsg, hz, hl, fun H' s' => ⟨_, rfl, iteF (q H' s')⟩⟩
abbrev nLine : List Str := ["_law_cup_here", "_law_signs_here", "_law_most", "_law_turn"]
def spLine : Sp := fun vs H Q _ => ∃ (c : Addr) (sg : Str) (m : Nat), vs = [.ref c, .str sg, .int (m : Int)] ∧ Cup H c ∧ Signs sg ∧ m ≤ 20 ∧ ∀ z H', Over sg z → z.length ≤ m → Cup H' c → But c H H' → Q (.str z) H'
end
theorem cut_to {z : Str} (i : Nat) : cds (cutS z none (some (i : Int))) = (cds z).take i := by
  unfold cutS
  show (((cds z).drop (HT.sIx z.length 0 none)).take (HT.sIx z.length z.length (some (i : Int)) - HT.sIx z.length 0 none)) = _
  rw [HT.sIx_none, HT.sIx_nat, List.drop_zero, Nat.sub_zero]
  by_cases h : i ≤ z.length
  · rw [Nat.min_eq_left h]
  · rw [Nat.min_eq_right (by omega), List.take_of_length_le (by rw [cds_len]; exact Nat.le_refl _), List.take_of_length_le (by rw [cds_len]; omega)]
structure Sh (n w : Nat) (d : PyData) : Prop where
  lay : d.canLay0 = true
  sh : d.showable = true
  sht : d.intsShort 20 = true
  dp : d.depth ≤ n
  wt : d.weight ≤ w
structure ShA (n w : Nat) (ds : List PyData) : Prop where
  lay : PyData.canLayAll0 ds = true
  sh : PyData.showableAll ds = true
  sht : PyData.intsShortAll 20 ds = true
  dp : PyData.depthAll ds ≤ n
  wt : PyData.weightAll ds ≤ w
theorem Sh.str {z : Str} {w : Nat} (h : plainS z) (hl : z.length ≤ w) : Sh 0 w (.str z) := ⟨lay_str h, rfl, rfl, Nat.le_refl _, hl⟩
theorem int_facts : ∀ m < 1001, (PyData.showable (.int ((m : Nat) : Int)) && PyData.intsShort 20 (.int ((m : Nat) : Int)) && decide (PyData.weight (.int ((m : Nat) : Int)) ≤ 12)) = true := by decide +kernel
theorem Sh.int {m w : Nat} (h : m ≤ 1000) (hw : 12 ≤ w) : Sh 0 w (.int (m : Int)) := by
  have := int_facts m (by omega)
  rw [Bool.and_eq_true, Bool.and_eq_true, decide_eq_true_iff] at this
  exact ⟨rfl, this.1.1, this.1.2, Nat.le_refl _, Nat.le_trans this.2 hw⟩
theorem ShA.nil {n w : Nat} : ShA n w [] := ⟨rfl, rfl, rfl, Nat.zero_le _, Nat.zero_le _⟩
theorem ShA.cons {n m w v x : Nat} {d : PyData} {ds : List PyData} (h : Sh m v d) (k : ShA n w ds) (hm : m ≤ n) (hw : v + 1 + w ≤ x) : ShA n x (d :: ds) where
  lay := by show (d.canLay0 && PyData.canLayAll0 ds) = true; rw [h.lay, k.lay]; rfl
  sh := by show (d.showable && PyData.showableAll ds) = true; rw [h.sh, k.sh]; rfl
  sht := by show (d.intsShort 20 && PyData.intsShortAll 20 ds) = true; rw [h.sht, k.sht]; rfl
  dp := Nat.max_le.mpr ⟨Nat.le_trans h.dp hm, k.dp⟩
  wt := by show d.weight + 1 + PyData.weightAll ds ≤ x; have := h.wt; have := k.wt; omega
theorem ShA.tup {n w : Nat} {ds : List PyData} (h : ShA n w ds) : Sh (n + 1) w (.tuple ds) := ⟨h.lay, h.sh, h.sht, Nat.succ_le_succ h.dp, h.wt⟩
theorem ShA.lst {n w : Nat} {ds : List PyData} (h : ShA n w ds) : Sh (n + 1) w (.list ds) := ⟨h.lay, h.sh, h.sht, Nat.succ_le_succ h.dp, h.wt⟩
theorem Sh.len {n w : Nat} {d : PyData} (h : Sh n w d) (hw : w ≤ 200000) : d.shown.length ≤ sizeLine := by
  have h2 := PyData.shown_le 20 (by decide) d (PyData.leavesShort_of_canLay0 20 d h.lay h.sht)
  have := h.wt
  exact Nat.le_trans h2 (Nat.le_trans (show _ ≤ 22 * 200000 + 20 by omega) (by decide))
theorem sg_plain {sg : Str} (h : Signs sg) : plainS sg := fun c hc => by have := sg_range h c hc; omega
theorem plain_app {a b : Str} (h : plainS a) (k : plainS b) : plainS (a ++ b) := fun c hc => by
  rw [cds_app] at hc
  rcases List.mem_append.mp hc with hc | hc
  · exact h c hc
  · exact k c hc
end K24

set_option Elab.async false
set_option linter.all false
set_option maxRecDepth 100000
set_option maxHeartbeats 3200000
/-! comprehensions, ready forms -/
namespace Lc
open PySem L2 Tx Tg Tm RZ
theorem same_upd {H : Hp} {p : Addr} {o : HO} (h : H p = none) : Same H (upd H p o) := fun b u e => by
  rw [upd_ne (fun q => by rw [q, h] at e; cases e)]
  exact e
theorem same_put {H H' : Hp} {D : Addr} {o : HO} (s : Same H H') (n : H D = none) : Same H (upd H' D o) := fun b u e => by
  rw [upd_ne (ne_of_none e n)]
  exact s b u e
theorem sqT_same {K : PySem.W.Frag} {H H' : Hp} {a : Addr} {xs : List V} (s : Same H H') (h : SqT K H a xs) : SqT K H' a xs := by
  rcases h with h | h
  · rcases h with h | ⟨o, h⟩
    · exact .inl (.inl (s _ _ h))
    · exact .inl (.inr ⟨o, s _ _ h⟩)
  · exact .inr h
section
variable {K : PySem.W.Frag} {te : TE} {σ : L2.St} {H1 : Hp} {D : Addr} {Qd : Hp → Prop} {j : Nat} {xs ys : List V} {a b : Addr}
/-- [f(x) for x in t], a value for each item -/
theorem lcTS (ha : SqT K H1 a xs) (nD : H1 D = none) (hl : xs.length = ys.length) (hz : xs.length < sizeLine) (hw : ∀ v, wipe ((wipe σ [j]).set j (some v)) [j] = wipe σ [j])
    (hs : ∀ (i : Nat) (x y : V) (H2 : Hp), xs[i]? = some x → ys[i]? = some y → Same H1 H2 → ∀ Q : VK, (∀ H3, Same H2 H3 → Q y H3) → te ((wipe σ [j]).set j (some x)) H2 Q) (hd : ∀ H2, Same H1 H2 → H2 D = some (.lst ys) → Qd H2) :
    ∃ W : Nat → Nat → Hp → Prop, (∃ m, W 0 m (upd H1 D (.lst []))) ∧ ∀ i m H, W i m H →
      ((Itt K a).stop i H ∧ Qd H) ∨ ((Itt K a).go i H ∧ ∃ Nx : Hp → Prop, (∀ H', Nx H' → ∃ m', m' < m ∧ W (i + 1) m' H') ∧ ∀ x H', (Itt K a).yld i H x H' → gName j x (wipe σ [j]) H' fun σ2 H2 => wipe σ2 [j] = wipe σ [j] ∧ tYes σ2 H2 fun b H3 =>
        if b = true then te σ2 H3 fun y H4 => ∃ acc, H4 D = some (.lst acc) ∧ acc.length < sizeLine ∧ Nx (upd H4 D (.lst (acc ++ [y]))) else Nx H3) := by
  refine lc_tup (xs := xs) (fun i H2 => Same H1 H2 ∧ H2 D = some (.lst (ys.take i))) ⟨same_upd nD, upd_same⟩ (fun i H2 _ z => sqT_same z.1 ha) ?_ ?_
  · rintro i x H2 hx ⟨s2, e2⟩
    have hi := (List.getElem?_eq_some_iff.mp hx).1
    have hy := List.getElem?_eq_getElem (l := ys) (i := i) (by omega)
    refine ⟨hw _, iteT (B := False) ?_⟩
    refine hs i x _ H2 hx hy s2 _ fun H3 s3 => ⟨_, s3 _ _ e2, ?_, same_put (s2.trans s3) nD, ?_⟩
    · rw [List.length_take]
      exact Nat.lt_of_le_of_lt (Nat.min_le_left _ _) (Nat.lt_trans hi hz)
    · rw [upd_same, List.take_add_one, hy]
      rfl
  · rintro H2 ⟨s2, e2⟩
    rw [hl, List.take_of_length_le (Nat.le_refl _)] at e2
    exact hd H2 s2 e2
/-- [f(k) for k in range(n)] -/
theorem lcRS {n : Nat} {lo : Int} (nD : H1 D = none) (hl : n = ys.length) (hz : n < sizeLine) (hw : ∀ v, wipe ((wipe σ [j]).set j (some v)) [j] = wipe σ [j])
    (hs : ∀ (i : Nat) (y : V) (H2 : Hp), i < n → ys[i]? = some y → Same H1 H2 → ∀ Q : VK, (∀ H3, Same H2 H3 → Q y H3) → te ((wipe σ [j]).set j (some (.int (lo + i)))) H2 Q) (hd : ∀ H2, Same H1 H2 → H2 D = some (.lst ys) → Qd H2) :
    ∃ W : Nat → Nat → Hp → Prop, (∃ m, W 0 m (upd H1 D (.lst []))) ∧ ∀ i m H, W i m H →
      ((Itr lo n).stop i H ∧ Qd H) ∨ ((Itr lo n).go i H ∧ ∃ Nx : Hp → Prop, (∀ H', Nx H' → ∃ m', m' < m ∧ W (i + 1) m' H') ∧ ∀ x H', (Itr lo n).yld i H x H' → gName j x (wipe σ [j]) H' fun σ2 H2 => wipe σ2 [j] = wipe σ [j] ∧ tYes σ2 H2 fun b H3 =>
        if b = true then te σ2 H3 fun y H4 => ∃ acc, H4 D = some (.lst acc) ∧ acc.length < sizeLine ∧ Nx (upd H4 D (.lst (acc ++ [y]))) else Nx H3) := by
  refine lc_range (fun i H2 => Same H1 H2 ∧ H2 D = some (.lst (ys.take i))) ⟨same_upd nD, upd_same⟩ ?_ ?_
  · rintro i H2 hi ⟨s2, e2⟩
    have hy := List.getElem?_eq_getElem (l := ys) (i := i) (by omega)
    refine ⟨hw _, iteT (B := False) ?_⟩
    refine hs i _ H2 hi hy s2 _ fun H3 s3 => ⟨_, s3 _ _ e2, ?_, same_put (s2.trans s3) nD, ?_⟩
    · rw [List.length_take]
      exact Nat.lt_of_le_of_lt (Nat.min_le_left _ _) (Nat.lt_trans hi hz)
    · rw [upd_same, List.take_add_one, hy]
      rfl
  · rintro H2 ⟨s2, e2⟩
    rw [hl, List.take_of_length_le (Nat.le_refl _)] at e2
    exact hd H2 s2 e2
/-- [draw for k in range(n)]: all else but one object stays -/
theorem lcRD {n : Nat} {lo : Int} {c : Addr} {I : Hp → Prop} {P : Nat → V → Prop} (nD : H1 D = none) (nDc : D ≠ c) (h0 : I (upd H1 D (.lst []))) (hz : n < sizeLine) (hw : ∀ v, wipe ((wipe σ [j]).set j (some v)) [j] = wipe σ [j])
    (hI : ∀ H o, I H → I (upd H D o))
    (hs : ∀ i H2, i < n → I H2 → (∀ b o, b ≠ c → H1 b = some o → H2 b = some o) → ∀ Q : VK, (∀ y H3, P i y → I H3 → (∀ b o, b ≠ c → H2 b = some o → H3 b = some o) → Q y H3) → te ((wipe σ [j]).set j (some (.int (lo + i)))) H2 Q)
    (hd : ∀ H2 zs, I H2 → (∀ b o, b ≠ c → H1 b = some o → H2 b = some o) → H2 D = some (.lst zs) → zs.length = n → (∀ i y, zs[i]? = some y → P i y) → Qd H2) :
    ∃ W : Nat → Nat → Hp → Prop, (∃ m, W 0 m (upd H1 D (.lst []))) ∧ ∀ i m H, W i m H →
      ((Itr lo n).stop i H ∧ Qd H) ∨ ((Itr lo n).go i H ∧ ∃ Nx : Hp → Prop, (∀ H', Nx H' → ∃ m', m' < m ∧ W (i + 1) m' H') ∧ ∀ x H', (Itr lo n).yld i H x H' → gName j x (wipe σ [j]) H' fun σ2 H2 => wipe σ2 [j] = wipe σ [j] ∧ tYes σ2 H2 fun b H3 =>
        if b = true then te σ2 H3 fun y H4 => ∃ acc, H4 D = some (.lst acc) ∧ acc.length < sizeLine ∧ Nx (upd H4 D (.lst (acc ++ [y]))) else Nx H3) := by
  refine lc_range (fun i H2 => I H2 ∧ (∀ b o, b ≠ c → H1 b = some o → H2 b = some o) ∧ ∃ zs, H2 D = some (.lst zs) ∧ zs.length = i ∧ ∀ k y, zs[k]? = some y → P k y) ⟨h0, fun b o _ e => same_upd nD _ _ e, [], upd_same, rfl, fun k y e => nomatch e⟩ ?_ ?_
  · rintro i H2 hi ⟨i2, b2, zs, e2, hl, hp⟩
    refine ⟨hw _, iteT (B := False) ?_⟩
    refine hs i H2 hi i2 b2 _ fun y H3 hy i3 b3 => ⟨_, b3 _ _ nDc e2, by omega, hI _ _ i3, fun b o nb e => ?_, zs ++ [y], upd_same, by rw [List.length_append, hl]; rfl, fun k z hk => ?_⟩
    · rw [upd_ne (ne_of_none e nD)]
      exact b3 _ _ nb (b2 _ _ nb e)
    · by_cases h : k < zs.length
      · rw [List.getElem?_append_left h] at hk
        exact hp k z hk
      · rw [List.getElem?_append_right (by omega)] at hk
        have hk1 := (List.getElem?_eq_some_iff.mp hk).1
        have hk0 : k - zs.length = 0 := by
          rw [List.length_singleton] at hk1
          omega
        rw [hk0] at hk
        cases hk
        have : k = i := by omega
        rw [this]
        exact hy
  · rintro H2 ⟨i2, b2, zs, e2, hl, hp⟩
    exact hd H2 zs i2 b2 e2 hl hp
end
/-- a comprehension over two rows that walk together, as far as the shorter one -/
theorem lc_zipT {K : PySem.W.Frag} {a b : Addr} {xs ys : List V} {g : TG} {tt : TT} {te : TE} {vs : List Nat} {σ : L2.St} {H1 : Hp} {D : Addr} {Qd : Hp → Prop} (hl : ys.length ≤ xs.length) (Pv : Nat → Hp → Prop) (h0 : Pv 0 (upd H1 D (.lst []))) (hq : ∀ i H, Pv i H → SqT K H a xs ∧ SqT K H b ys)
    (hs : ∀ (i : Nat) (x y : V) (T : Addr) (H : Hp), xs[i]? = some x → ys[i]? = some y → Pv i H → H T = none → g (.ref T) (wipe σ vs) (upd H T (.tup [x, y])) fun σ2 H2 => wipe σ2 vs = wipe σ vs ∧ tt σ2 H2 fun b H3 =>
      if b = true then te σ2 H3 fun y H4 => ∃ acc, H4 D = some (.lst acc) ∧ acc.length < sizeLine ∧ Pv (i + 1) (upd H4 D (.lst (acc ++ [y]))) else Pv (i + 1) H3) (hd : ∀ H, Pv ys.length H → Qd H) :
    ∃ W : Nat → Nat → Hp → Prop, (∃ m, W 0 m (upd H1 D (.lst []))) ∧ ∀ i m H, W i m H →
      ((ItzT K a b).stop i H ∧ Qd H) ∨ ((ItzT K a b).go i H ∧ ∃ Nx : Hp → Prop, (∀ H', Nx H' → ∃ m', m' < m ∧ W (i + 1) m' H') ∧ ∀ x H', (ItzT K a b).yld i H x H' → g x (wipe σ vs) H' fun σ2 H2 => wipe σ2 vs = wipe σ vs ∧ tt σ2 H2 fun b H3 =>
        if b = true then te σ2 H3 fun y H4 => ∃ acc, H4 D = some (.lst acc) ∧ acc.length < sizeLine ∧ Nx (upd H4 D (.lst (acc ++ [y]))) else Nx H3) := by
  refine ⟨fun i m H => m = ys.length - i ∧ i ≤ ys.length ∧ Pv i H, ⟨ys.length, by simp, Nat.zero_le _, h0⟩, ?_⟩
  rintro i m H ⟨rfl, hi, p⟩
  obtain ⟨qx, qy⟩ := hq i H p
  by_cases hlt : i < ys.length
  · have hx : xs[i]? = some xs[i] := List.getElem?_eq_getElem (by omega)
    have hy : ys[i]? = some ys[i] := List.getElem?_eq_getElem hlt
    refine .inr ⟨⟨xs, ys, _, _, qx, qy, hx, hy⟩, Pv (i + 1), fun H' p' => ⟨ys.length - (i + 1), by omega, rfl, hlt, p'⟩, fun v H' y => ?_⟩
    obtain ⟨T, x', y', rfl, hT, rfl, f1, f2⟩ := y
    exact hs i x' y' T H (f1 xs qx) (f2 ys qy) p hT
  · have e : i = ys.length := by omega
    subst e
    exact .inl ⟨⟨xs, ys, qx, qy, Or.inr (Nat.le_refl _)⟩, hd H p⟩
theorem lc_text {x : Str} {g : TG} {tt : TT} {te : TE} {vs : List Nat} {σ : L2.St} {H1 : Hp} {D : Addr} {Qd : Hp → Prop} (Pv : Nat → Hp → Prop) (h0 : Pv 0 (upd H1 D (.lst [])))
    (hs : ∀ i c H, (cds x)[i]? = some c → Pv i H → g (.str (one c)) (wipe σ vs) H fun σ2 H2 => wipe σ2 vs = wipe σ vs ∧ tt σ2 H2 fun b H3 =>
      if b = true then te σ2 H3 fun y H4 => ∃ acc, H4 D = some (.lst acc) ∧ acc.length < sizeLine ∧ Pv (i + 1) (upd H4 D (.lst (acc ++ [y]))) else Pv (i + 1) H3) (hd : ∀ H, Pv (cds x).length H → Qd H) :
    ∃ W : Nat → Nat → Hp → Prop, (∃ m, W 0 m (upd H1 D (.lst []))) ∧ ∀ i m H, W i m H →
      ((Its x).stop i H ∧ Qd H) ∨ ((Its x).go i H ∧ ∃ Nx : Hp → Prop, (∀ H', Nx H' → ∃ m', m' < m ∧ W (i + 1) m' H') ∧ ∀ v H', (Its x).yld i H v H' → g v (wipe σ vs) H' fun σ2 H2 => wipe σ2 vs = wipe σ vs ∧ tt σ2 H2 fun b H3 =>
        if b = true then te σ2 H3 fun y H4 => ∃ acc, H4 D = some (.lst acc) ∧ acc.length < sizeLine ∧ Nx (upd H4 D (.lst (acc ++ [y]))) else Nx H3) := by
  have hz : x.cps.size = (cds x).length := (Array.length_toList).symm
  refine ⟨fun i m H => m = (cds x).length - i ∧ i ≤ (cds x).length ∧ Pv i H, ⟨(cds x).length, by simp, Nat.zero_le _, h0⟩, ?_⟩
  rintro i m H ⟨rfl, hi, p⟩
  by_cases hlt : i < (cds x).length
  · refine .inr ⟨by show i < x.cps.size; omega, Pv (i + 1), fun H' p' => ⟨(cds x).length - (i + 1), by omega, rfl, hlt, p'⟩, ?_⟩
    rintro v H' ⟨e, c, hc, e2⟩
    subst e
    subst e2
    exact hs i c _ (by rw [Array.getElem?_toList]; exact hc) p
  · have e : i = (cds x).length := by omega
    subst e
    exact .inl ⟨by show x.cps.size ≤ _; omega, hd H p⟩
theorem for_text {x : Str} {g : TG} {tb : TS} {D : Ends} {σ : L2.St} {H : Hp} (Pv : Nat → L2.St → Hp → Prop) (h0 : Pv 0 σ H)
    (hs : ∀ i c σ H, (cds x)[i]? = some c → Pv i σ H → g (.str (one c)) σ H fun σ2 H2 => tb { D with nx := Pv (i + 1), ct := Pv (i + 1), bk := D.nx } σ2 H2) (hd : ∀ σ H, Pv (cds x).length σ H → D.nx σ H) :
    ∃ W : Nat → Nat → L2.St → Hp → Prop, (∃ m, W 0 m σ H) ∧ ∀ i m σ H, W i m σ H →
      ((Its x).stop i H ∧ D.nx σ H) ∨ ((Its x).go i H ∧ ∃ N : L2.St → Hp → Prop, (∀ σ' H', N σ' H' → ∃ m', m' < m ∧ W (i + 1) m' σ' H') ∧ ∀ v H', (Its x).yld i H v H' → g v σ H' fun σ2 H2 => tb { D with nx := N, ct := N, bk := D.nx } σ2 H2) := by
  have hz : x.cps.size = (cds x).length := (Array.length_toList).symm
  refine ⟨fun i m σ H => m = (cds x).length - i ∧ i ≤ (cds x).length ∧ Pv i σ H, ⟨(cds x).length, by simp, Nat.zero_le _, h0⟩, ?_⟩
  rintro i m σ H ⟨rfl, hi, p⟩
  by_cases hlt : i < (cds x).length
  · refine .inr ⟨by show i < x.cps.size; omega, Pv (i + 1), fun σ' H' p' => ⟨(cds x).length - (i + 1), by omega, rfl, hlt, p'⟩, ?_⟩
    rintro v H' ⟨e, c, hc, e2⟩
    subst e
    subst e2
    exact hs i c _ _ (by rw [Array.getElem?_toList]; exact hc) p
  · have e : i = (cds x).length := by omega
    subst e
    exact .inl ⟨by show x.cps.size ≤ _; omega, hd _ H p⟩
/-- {k: v for c in text} -/
theorem dc_text {x : Str} {g : TG} {tt : TT} {tk tv : TE} {vs : List Nat} {σ : L2.St} {H1 : Hp} {D : Addr} {Qd : Hp → Prop} (Pv : Nat → Hp → Prop) (h0 : Pv 0 (upd H1 D (.dK [])))
    (hs : ∀ i c H, (cds x)[i]? = some c → Pv i H → g (.str (one c)) (wipe σ vs) H fun σ2 H2 => wipe σ2 vs = wipe σ vs ∧ tt σ2 H2 fun b H3 =>
      if b = true then tk σ2 H3 fun y H4 => tv σ2 H4 fun z H5 => ∃ kvs k, y = kV k ∧ H5 D = some (.dK kvs) ∧ kvs.length < sizeLine ∧ Pv (i + 1) (upd H5 D (.dK (putK kvs k z))) else Pv (i + 1) H3) (hd : ∀ H, Pv (cds x).length H → Qd H) :
    ∃ W : Nat → Nat → Hp → Prop, (∃ m, W 0 m (upd H1 D (.dK []))) ∧ ∀ i m H, W i m H →
      ((Its x).stop i H ∧ Qd H) ∨ ((Its x).go i H ∧ ∃ Nx : Hp → Prop, (∀ H', Nx H' → ∃ m', m' < m ∧ W (i + 1) m' H') ∧ ∀ v H', (Its x).yld i H v H' → g v (wipe σ vs) H' fun σ2 H2 => wipe σ2 vs = wipe σ vs ∧ tt σ2 H2 fun b H3 =>
        if b = true then tk σ2 H3 fun y H4 => tv σ2 H4 fun z H5 => ∃ kvs k, y = kV k ∧ H5 D = some (.dK kvs) ∧ kvs.length < sizeLine ∧ Nx (upd H5 D (.dK (putK kvs k z))) else Nx H3) := by
  have hz : x.cps.size = (cds x).length := (Array.length_toList).symm
  refine ⟨fun i m H => m = (cds x).length - i ∧ i ≤ (cds x).length ∧ Pv i H, ⟨(cds x).length, by simp, Nat.zero_le _, h0⟩, ?_⟩
  rintro i m H ⟨rfl, hi, p⟩
  by_cases hlt : i < (cds x).length
  · refine .inr ⟨by show i < x.cps.size; omega, Pv (i + 1), fun H' p' => ⟨(cds x).length - (i + 1), by omega, rfl, hlt, p'⟩, ?_⟩
    rintro v H' ⟨e, c, hc, e2⟩
    subst e
    subst e2
    exact hs i c _ (by rw [Array.getElem?_toList]; exact hc) p
  · have e : i = (cds x).length := by omega
    subst e
    exact .inl ⟨by show x.cps.size ≤ _; omega, hd H p⟩
end Lc

set_option Elab.async false
set_option linter.all false
set_option maxRecDepth 100000
set_option maxHeartbeats 6400000
namespace K24
open PySem L2 Tx Tg Tm Da RZ
/-! ### readers on the heap -/
abbrev natsV (l : List Nat) : List V := l.map fun (n : Nat) => V.int (n : Int)
def RowAt (H : Hp) (p : Addr) (l : List Nat) : Prop := H p = some (.tup (natsV l))
abbrev Way := Nat × List Nat
def WayAt (H : Hp) (kv : Key × V) (w : Way) : Prop := ∃ p, kv = (Sum.inr (one w.1), V.ref p) ∧ RowAt H p w.2
abbrev WsAt (H : Hp) (kvs : List (Key × V)) (W : List Way) : Prop := PySem.W.EachIs (WayAt H) kvs W
def MovAt (H : Hp) (d : Addr) (W : List Way) : Prop := ∃ kvs, H d = some (.dK kvs) ∧ WsAt H kvs W
theorem WsAt.keep {H H' : Hp} {kvs : List (Key × V)} {W : List Way} (k : KeepT H H') (h : WsAt H kvs W) : WsAt H' kvs W := PySem.W.EachIs.mono (fun _ _ ⟨p, e, r⟩ => ⟨p, e, k _ _ r⟩) h
theorem MovAt.same {H H' : Hp} {d : Addr} {W : List Way} (s : Same H H') (h : MovAt H d W) : MovAt H' d W := let ⟨kvs, e, w⟩ := h; ⟨kvs, s _ _ e, w.keep (.same s)⟩
theorem Cup.noD {H : Hp} {c d : Addr} {kvs : List (Key × V)} (h : Cup H c) (e : H d = some (.dK kvs)) : d ≠ c := by
  obtain ⟨_, _, _, ec⟩ := h
  exact ne_of e ec (by intro z; cases z)
theorem MovAt.but {c : Addr} {H H' : Hp} {d : Addr} {W : List Way} (hc : Cup H c) (b : But c H H') (h : MovAt H d W) : MovAt H' d W := let ⟨kvs, e, w⟩ := h; ⟨kvs, b _ _ (hc.noD e) e, w.keep (KeepT.but hc.noT b)⟩
theorem RowAt.but {c : Addr} {H H' : Hp} {p : Addr} {l : List Nat} (hc : Cup H c) (b : But c H H') (h : RowAt H p l) : RowAt H' p l := KeepT.but hc.noT b _ _ h
/-- moves that a reader may have -/
structure okW (n : Nat) (sg : Str) (W : List Way) : Prop where
  keys : (W.map (·.1)).Perm (cds sg)
  rows : ∀ w ∈ W, w.2.length = n ∧ ∀ q ∈ w.2, q < n
  one : 1 ≤ n
  most : n ≤ 60
/-- states that a reader may answer with yes -/
structure okG (n : Nat) (G : List Nat) : Prop where
  lt : ∀ q ∈ G, q < n
  up : G.Pairwise (· < ·)
theorem one_inj {a b : Nat} (h : one a = one b) : a = b := by
  have : cds (one a) = cds (one b) := by rw [h]
  have : [a] = [b] := this
  injection this
theorem key_one {a b : Nat} : (Sum.inr (one a) : Key) = Sum.inr (one b) ↔ a = b := ⟨fun e => one_inj (by injection e), fun e => by rw [e]⟩
theorem ways_get {H : Hp} : ∀ {kvs : List (Key × V)} {W : List Way} {c : Nat} {l : List Nat}, WsAt H kvs W → (W.map (·.1)).Nodup → (c, l) ∈ W → ∃ p, valV kvs (Sum.inr (one c) : Key) = some (.ref p) ∧ RowAt H p l
  | _, _, _, _, .nil, _, h => nomatch h
  | _, _, c, l, .cons (b := w) ⟨p, e, r⟩ t, nd, h => by
    subst e
    rw [List.map_cons, List.nodup_cons] at nd
    rcases List.mem_cons.mp h with rfl | h
    · exact ⟨p, valV_pos rfl, r⟩
    · have ne : w.1 ≠ c := fun e => nd.1 (List.mem_map.mpr ⟨_, h, e.symm⟩)
      obtain ⟨p', e', r'⟩ := ways_get t nd.2 h
      exact ⟨p', by rw [valV_neg (fun e => ne (key_one.mp e))]; exact e', r'⟩
theorem ways_none {H : Hp} : ∀ {kvs : List (Key × V)} {W : List Way} {c : Nat}, WsAt H kvs W → c ∉ W.map (·.1) → valV kvs (Sum.inr (one c) : Key) = none
  | _, _, _, .nil, _ => rfl
  | _, _, c, .cons (b := w) ⟨p, e, r⟩ t, h => by
    subst e
    rw [List.map_cons, List.mem_cons, not_or] at h
    rw [valV_neg (fun e => h.1 (key_one.mp e).symm)]
    exact ways_none t h.2
theorem ways_len {H : Hp} {kvs : List (Key × V)} {W : List Way} (h : WsAt H kvs W) : kvs.length = W.length := h.length
theorem sg_nodup {sg : Str} (h : Signs sg) : (cds sg).Nodup := by
  rcases h with rfl | rfl | rfl | rfl | rfl <;> decide +kernel
theorem sg_up {sg : Str} (h : Signs sg) : (cds sg).Pairwise (· < ·) := by
  rcases h with rfl | rfl | rfl | rfl | rfl <;> decide +kernel
theorem okW.nodup {n : Nat} {sg : Str} {W : List Way} (h : okW n sg W) (hs : Signs sg) : (W.map (·.1)).Nodup := h.keys.nodup_iff.mpr (sg_nodup hs)
theorem okW.has {n : Nat} {sg : Str} {W : List Way} (h : okW n sg W) {c : Nat} (hc : c ∈ cds sg) : ∃ l, (c, l) ∈ W ∧ l.length = n ∧ ∀ q ∈ l, q < n := by
  obtain ⟨w, hw, e⟩ := List.mem_map.mp (h.keys.mem_iff.mpr hc)
  subst e
  exact ⟨w.2, hw, h.rows w hw⟩
theorem okW.len {n : Nat} {sg : Str} {W : List Way} (h : okW n sg W) : W.length = sg.length := by
  have := h.keys.length_eq
  rw [List.length_map, cds_len] at this
  exact this
/-- the row of a letter -/
def row (W : List Way) (c : Nat) : List Nat := ((W.find? fun w => decide (w.1 = c)).map (·.2)).getD []
theorem row_eq : ∀ {W : List Way} {c : Nat} {l : List Nat}, (W.map (·.1)).Nodup → (c, l) ∈ W → row W c = l
  | [], _, _, _, h => nomatch h
  | w :: W, c, l, nd, h => by
    rw [List.map_cons, List.nodup_cons] at nd
    unfold row
    rcases List.mem_cons.mp h with rfl | h
    · simp
    · have ne : w.1 ≠ c := fun e => nd.1 (List.mem_map.mpr ⟨_, h, e.symm⟩)
      rw [List.find?_cons, decide_eq_false ne]
      exact row_eq nd.2 h
/-- one step -/
def step (W : List Way) (q c : Nat) : Nat := (row W c).getD q 0
def run (W : List Way) (q : Nat) (l : List Nat) : Nat := l.foldl (step W) q
theorem natsV_at {l : List Nat} {i : Nat} (h : i < l.length) : (natsV l)[i]? = some (.int (l[i] : Int)) := by
  rw [List.getElem?_map, List.getElem?_eq_getElem h]
  rfl
theorem step_at {n : Nat} {sg : Str} {W : List Way} (h : okW n sg W) (hs : Signs sg) {H : Hp} {kvs : List (Key × V)} (hw : WsAt H kvs W) {c q : Nat} (hc : c ∈ cds sg) (hq : q < n) :
    ∃ p l, valV kvs (Sum.inr (one c) : Key) = some (.ref p) ∧ RowAt H p l ∧ (natsV l)[q]? = some (.int (step W q c : Int)) ∧ step W q c < n := by
  obtain ⟨l, hl, h1, h2⟩ := h.has hc
  obtain ⟨p, e, r⟩ := ways_get hw (h.nodup hs) hl
  have er := row_eq (h.nodup hs) hl
  have hq2 : q < l.length := by omega
  have es : step W q c = l[q] := by
    unfold step
    rw [er, List.getD_eq_getElem?_getD, List.getElem?_eq_getElem hq2]
    rfl
  exact ⟨p, l, e, r, by rw [natsV_at hq2, es], by rw [es]; exact h2 _ (List.getElem_mem hq2)⟩
section
variable {P : Program} {w : World} {K : PySem.W.Frag} {mg : Str → Option Value} {base : Heap}
/-! ### judges -/
def spIsState : Sp := fun vs H Q _ => ∃ (q n : Nat), vs = [.int (q : Int), .int (n : Int)] ∧ q < n ∧ n ≤ 1000 ∧ Q (.bl true) H
theorem scIsState : FnScope ["value", "many"] ["value", "many"] (defScope sIsState) := ⟨rfl, rfl, rfl, by decide +kernel, rfl, by decide +kernel, by decide +kernel⟩
theorem small_nat {q n : Nat} (h : q < n) (hn : n ≤ 1000) : q < 10 ^ 200 := Nat.lt_trans (Nat.lt_of_lt_of_le h hn) (by decide +kernel)
theorem ok_isstate {f fI : Addr} {fd dI : FuncData} (F : Fun K "is_state" "is_state" sIsState f fd) (T : Txt K mg) (DI : Df K mg "is_integer" sInt ["value"] fI dI) : FnOk P w K mg base CX0 2 f fd ["value", "many"] spIsState := by
  have GI := ok_int (P := P) (w := w) (base := base) DI.F T
  refine F.ok scIsState (fun vs H Q E h => ?_) (fun cdv A outer s H vs Q E hr h => ?_)
  · obtain ⟨q, n, rfl, _⟩ := h
    rfl
  · obtain ⟨q, n, rfl, h1, h2, qq⟩ := h
    refine ⟨_, (pss_one (ps_ret (pe_and (pe_call GI (hr.mono (by decide)) (by rfl) DI.m DI.F.kp DI.b .nil pass0 (pa_cons (pv 0) pa_nil)) (pe_one (pe_chain op_le op_lt pe_int (pv 0) (pv 1)))))), ?_⟩
    refine ⟨_, rfl, .int (q : Int), .int (q : Int), rfl, .int _, ?_⟩
    rw [nat_isInt (small_nat h1 h2)]
    refine ⟨true, rfl, iteT ?_⟩
    refine ⟨_, rfl, _, _, rfl, rfl, true, congrArg V.bl (decide_eq_true (by omega)), iteT ?_⟩
    have e : decide ((q : Int) < (n : Int)) = true := decide_eq_true (by omega)
    exact ⟨_, rfl, _, _, rfl, rfl, by
      show Q (.bl (decide ((q : Int) < (n : Int)))) H
      rw [e]
      exact qq⟩
theorem all_true {n : Nat} : ((List.replicate n true).all id) = true := List.all_eq_true.mpr fun b hb => by rw [(List.mem_replicate.mp hb).2]; rfl
def spRowOk : Sp := fun vs H Q _ => ∃ (p : Addr) (l : List Nat) (n : Nat), vs = [.ref p, .int (n : Int)] ∧ RowAt H p l ∧ l.length = n ∧ (∀ q ∈ l, q < n) ∧ n ≤ 1000 ∧ ∀ H', Same H H' → Q (.bl true) H'
theorem scRowOk : FnScope ["value", "many", "state"] ["value", "many"] (defScope sRowOk) := ⟨rfl, rfl, rfl, by decide +kernel, rfl, by decide +kernel, by decide +kernel⟩
abbrev nRowOk : List Str := ["value", "many", "state"]
theorem ok_rowok {f fI fS : Addr} {fd dI dS : FuncData} (F : Fun K "is_row_of_states" "is_row_of_states" sRowOk f fd) (T : Txt K mg) (DI : Df K mg "is_integer" sInt ["value"] fI dI) (DS : Df K mg "is_state" sIsState ["value", "many"] fS dS) : FnOk P w K mg base CX0 3 f fd ["value", "many"] spRowOk := by
  have GS := ok_isstate (P := P) (w := w) (base := base) DS.F T DI
  refine F.ok scRowOk (fun vs H Q E h => ?_) (fun cdv A outer s H vs Q E hr h => ?_)
  · obtain ⟨p, l, n, rfl, _⟩ := h
    rfl
  · obtain ⟨p, l, n, rfl, hp, hl, hq, hn, q⟩ := h
    refine ⟨_, (pss_one (ps_ret (pe_and (pe_callB call_isi (by rfl) T.isi (by decide +kernel) (pa_cons (pv 0) (pa_cons (pe_bltn (v := .ty "tuple") (by rfl) T.tuple (by decide +kernel) rfl) pa_nil))) (pe_and (pe_cmpR op_eq (pe_callB call_len_seq (by rfl) T.len PySem.boot_len (pa_cons (pv 0) pa_nil)) (pv 1) (nomark _)) (pe_one (pe_callB (cr_all rfl) (by rfl) T.all (by decide +kernel) (pa_cons (pe_lc (own := [("state", 2)]) (g := (gName 2)) (tt := tYes)  rfl scRowOk.nd (pi_tup (pv 0)) (blkOk_by (own := [("state", 2)]) (N := nRowOk) (sc := defScope sRowOk) (by decide +kernel)) (fun _ _ _ _ _ => (pg_name (i := 2) scRowOk.nd rfl (Or.inl rfl))) (fun _ _ _ _ _ => pts_nil) (fun _ _ _ _ _ => (pe_call GS (hr.mono (by decide)) (by rfl) DS.m DS.F.kp DS.b .nil pass0 (pa_cons (pv 2) (pa_cons (pv 1) pa_nil))))) pa_nil))))))), ?_⟩
    have ht : SqT K H p (natsV l) := SqT.of hp
    refine ⟨_, rfl, _, _, _, _, _, rfl, .ty "tuple", ty_tup ht, kit_ty k_tuple_tuple, true, rfl, iteT ?_⟩
    refine ⟨_, rfl, p, _, rfl, .inr ht, _, rfl, rfl, true, ?_, iteT ?_⟩
    · rw [List.length_map, hl, decide_eq_true rfl]
    refine ⟨_, rfl, p, rfl, ⟨_, ht⟩, fun D nD => ?_⟩
    refine Lc.lcTS (ys := (List.replicate n true).map V.bl) ht nD (by rw [List.length_map, List.length_map, List.length_replicate, hl]) (by rw [List.length_map, hl]; exact Nat.lt_of_le_of_lt hn (by decide)) (fun _ => rfl) ?_ ?_
    · intro i x y H2 hx hy s2 Q' q'
      have hi := (List.getElem?_eq_some_iff.mp hx).1
      rw [List.length_map] at hi
      rw [natsV_at hi] at hx
      cases hx
      rw [List.getElem?_map, List.getElem?_replicate, if_pos (by omega)] at hy
      cases hy
      exact ⟨_, rfl, _, rfl, l[i], n, rfl, hq _ (List.getElem_mem hi), hn, q' H2 (Same.refl _)⟩
    · intro H2 s2 e2
      refine ⟨D, _, rfl, SqL.of e2, ?_⟩
      rw [all_true]
      exact q H2 s2
end
end K24

set_option Elab.async false
set_option linter.all false
set_option maxRecDepth 100000
set_option maxHeartbeats 6400000
namespace K24
open PySem L2 Tx Tg Tm Da RZ
theorem k_dict_dict : kitB "dict" "dict" = some true := by decide +kernel
theorem cut_from (xs : List V) (r : Nat) : cutV xs (some (r : Int)) none = xs.drop r := by
  unfold cutV
  rw [HT.sIx_none, HT.sIx_nat]
  by_cases h : r ≤ xs.length
  · rw [Nat.min_eq_left h, List.take_of_length_le (by rw [List.length_drop]; omega)]
  · rw [Nat.min_eq_right (by omega), List.drop_of_length_le (Nat.le_refl _), List.drop_of_length_le (by omega), List.take_nil]
section
variable {P : Program} {w : World} {K : PySem.W.Frag} {mg : Str → Option Value} {base : Heap}
/-- t[r:] -/
theorem sl_drop {Q : VK} {H : Hp} {pt : Addr} {l : List Nat} {r : Nat} (h : RowAt H pt l) (q : ∀ p H', Same H H' → RowAt H' p (l.drop r) → Q (.ref p) H') : rSlA K (.ref pt) (some (r : Int)) none H Q := by
  refine ⟨pt, natsV l, rfl, SqT.of h, fun hw => ?_, fun _ p np => ?_⟩
  · have h1 := hw.1
    rw [HT.sIx_nat, List.length_map] at h1
    refine q pt H (Same.refl H) ?_
    have : l.drop r = l := by
      by_cases hr : r = 0
      · rw [hr]; rfl
      · have : l.length = 0 := by omega
        rw [List.length_eq_zero_iff.mp this, List.drop_nil]
    rw [this]
    exact h
  · rw [cut_from, ← List.map_drop]
    exact q p _ (same_upd np) upd_same
abbrev nMovesOk : List Str := ["letters", "value", "many", "rows", "letter"]
def spMovesOk : Sp := fun vs H Q _ => ∃ (sg : Str) (d : Addr) (W : List Way) (n : Nat), vs = [.str sg, .ref d] ∧ Signs sg ∧ MovAt H d W ∧ okW n sg W ∧ ∀ H', Same H H' → Q (.bl true) H'
theorem scMovesOk : FnScope nMovesOk ["letters", "value"] (defScope sMovesOk) := ⟨rfl, rfl, rfl, by decide +kernel, rfl, by decide +kernel, by decide +kernel⟩
theorem sg_head {sg : Str} (h : Signs sg) : ∃ x, (cds sg)[0]? = some x ∧ x ∈ cds sg := by
  have h0 := (sg_len h).1
  have hl : 0 < (cds sg).length := by rw [cds_len]; exact h0
  exact ⟨(cds sg)[0], List.getElem?_eq_getElem hl, List.getElem_mem hl⟩
theorem ok_movesok {f fI fS fR : Addr} {fd dI dS dR : FuncData} (F : Fun K "are_reader_moves" "are_reader_moves" sMovesOk f fd) (T : Txt K mg) (DI : Df K mg "is_integer" sInt ["value"] fI dI) (DS : Df K mg "is_state" sIsState ["value", "many"] fS dS)
    (DR : Df K mg "is_row_of_states" sRowOk ["value", "many"] fR dR) : FnOk P w K mg base CX0 4 f fd ["letters", "value"] spMovesOk := by
  have GR := ok_rowok (P := P) (w := w) (base := base) DR.F T DI DS
  refine F.ok scMovesOk (fun vs H Q E h => ?_) (fun cdv A outer s H vs Q E hr h => ?_)
  · obtain ⟨sg, d, W, n, rfl, _⟩ := h
    rfl
  · obtain ⟨sg, d, W, n, rfl, hsg, ⟨kvs, ed, hw⟩, ok, q⟩ := h
    have hu := hu_of hr
    obtain ⟨tS, gS⟩ := T.mSta
    have sgl : sg.length ≤ sizeLine := Nat.le_trans (sg_len hsg).2 (by decide)
    have sg3 := (sg_len hsg).2
    obtain ⟨x0, hx0, mx0⟩ := sg_head hsg
    obtain ⟨l0, hl0, ll0, lq0⟩ := ok.has mx0
    obtain ⟨p0, g0, r0⟩ := ways_get hw (ok.nodup hsg) hl0
    have G0 : ∀ H', Same H H' → DGet H' d (.str (one x0)) (some (.ref p0)) := fun H' s => by
      have := DGet.k (k := (Sum.inr (one x0) : Key)) (s _ _ ed)
      rw [g0] at this
      exact this
    have ht0 : SqT K H p0 (natsV l0) := SqT.of r0
    refine ⟨_, (pss_cons (ps_if (PW.pt (pw_or (pt_not (pt_val (pe_callB call_isi (by rfl) T.isi (by decide +kernel) (pa_cons (pv 1) (pa_cons (pe_bltn (v := .ty "dict") (by rfl) T.dict (by decide +kernel) rfl) pa_nil))))) (pw_or (pt_cmpR op_ne (pe_callB call_lenD (by rfl) T.len PySem.boot_len (pa_cons (pv 1) pa_nil)) (pe_callB call_len_str (by rfl) T.len PySem.boot_len (pa_cons (pv 0) pa_nil)) (nomark _)) (pw_or1 (pt_not (pt_val (pe_callB call_isi (by rfl) T.isi (by decide +kernel) (pa_cons (pe_dget1 hu (pv 1) (pe_ix ix_str (pv 0) pe_int (fun _ _ => rfl)) ⟨rfl, rfl, rfl, rfl⟩) (pa_cons (pe_bltn (v := .ty "tuple") (by rfl) T.tuple (by decide +kernel) rfl) pa_nil))))))))) (pss_one (ps_ret pe_bl)) pss_nil)
    (pss_cons (ps_set (i := 2) scMovesOk.nd rfl (Or.inr rfl) (pe_callB call_len_seq (by rfl) T.len PySem.boot_len (pa_cons (pe_dget hu (pv 1) (pe_ix ix_str (pv 0) pe_int (fun _ _ => rfl)) (fun _ _ => rfl)) pa_nil)))
    (pss_cons (ps_setLc (i := 3) (own := [("letter", 4)]) (g := (gName 4)) (tt := tYes)  (by rfl) scMovesOk.nd rfl rfl (sw_true rfl rfl rfl (by decide +kernel)) (pi_str (pv 0)) (blkOk_by (own := [("letter", 4)]) (N := nMovesOk) (sc := defScope sMovesOk) (by decide +kernel)) (fun _ _ _ _ _ => (pg_name (i := 4) scMovesOk.nd rfl (Or.inl rfl))) (fun _ _ _ _ _ => pts_nil) (fun _ _ _ _ _ => (pe_and (pe_cmp (pc_din hu (pv 4) (pv 1))) (pe_one (pe_call GR (hr.mono (by decide)) (by rfl) DR.m DR.F.kp DR.b .nil pass0 (pa_cons (pe_dget hu (pv 1) (pv 4) (fun _ _ => rfl)) (pa_cons (pv 2) pa_nil)))))))
    (pss_one (ps_ret (pe_and (pe_chain op_le op_le pe_int (pv 2) (pe_glob (v := .int 60) rfl gS ⟨_, rfl⟩)) (pe_one (pe_callB (cr_all rfl) (by rfl) T.all (by decide +kernel) (pa_cons (pv 3) pa_nil))))))))), ?_⟩
    refine ⟨_, rfl, _, _, _, _, _, rfl, .ty "dict", .base (.dK ed), kit_ty k_dict_dict, true, rfl, iteF ?_⟩
    refine ⟨_, rfl, d, kvs, rfl, ed, _, rfl, _, rfl, sgl, rfl, _, rfl, ?_⟩
    rw [decide_eq_true (congrArg V.int (by rw [ways_len hw, ok.len] : (kvs.length : Int) = (sg.length : Int)))]
    refine iteF ?_
    refine ⟨_, rfl, d, rfl, .inl ⟨kvs, .inl ed⟩, _, rfl, sg, 0, x0, rfl, rfl, sgl, atI_nat (j := 0) hx0, some (.ref p0), G0 H (Same.refl H), _, _, _, _, _, rfl, .ty "tuple", ty_tup ht0, kit_ty k_tuple_tuple, true, rfl, iteF ?_⟩
    refine ⟨_, rfl, _, rfl, sg, 0, x0, rfl, rfl, sgl, atI_nat (j := 0) hx0, d, _, rfl, G0 H (Same.refl H), p0, _, rfl, .inr ht0, ?_⟩
    rw [List.length_map, ll0]
    refine ⟨_, rfl, sg, rfl, fun D nD => ?_⟩
    refine Lc.lc_text (fun i H1 => Same H H1 ∧ H1 D = some (.lst ((List.replicate i true).map V.bl))) ⟨same_upd nD, upd_same⟩ ?_ ?_
    · rintro i c H1 hc ⟨s1, e1⟩
      have mc := List.mem_of_getElem? hc
      have hi := (List.getElem?_eq_some_iff.mp hc).1
      rw [cds_len] at hi
      obtain ⟨l, hl, ll, lq⟩ := ok.has mc
      obtain ⟨p, g, r⟩ := ways_get hw (ok.nodup hsg) hl
      have g1 : DGet H1 d (.str (one c)) (some (.ref p)) := by
        have := DGet.k (k := (Sum.inr (one c) : Key)) (s1 _ _ ed)
        rw [g] at this
        exact this
      refine ⟨rfl, iteT (B := False) ?_⟩
      refine ⟨_, rfl, _, rfl, d, some (.ref p), rfl, g1, true, rfl, iteT ?_⟩
      refine ⟨_, rfl, _, rfl, d, _, rfl, g1, _, rfl, p, l, n, rfl, s1 _ _ r, ll, lq, Nat.le_trans ok.most (by decide), fun H2 s2 => ?_⟩
      refine ⟨_, s2 _ _ e1, ?_, same_put (s1.trans s2) nD, ?_⟩
      · rw [List.length_map, List.length_replicate]
        exact Nat.lt_of_le_of_lt (show i ≤ 3 by omega) (by decide)
      · rw [upd_same, List.replicate_succ', List.map_append]
        rfl
    · rintro H1 ⟨s1, e1⟩
      refine ⟨_, rfl, _, _, rfl, rfl, true, congrArg V.bl (decide_eq_true (by have := ok.one; omega)), iteT ⟨_, _, rfl, rfl, true, congrArg V.bl (decide_eq_true (by have := ok.most; omega)), iteT ?_⟩⟩
      refine ⟨_, rfl, D, _, rfl, SqL.of e1, ?_⟩
      rw [all_true]
      exact q H1 s1
abbrev nYesOk : List Str := ["value", "many", "state", "one", "other"]
def spYesOk : Sp := fun vs H Q _ => ∃ (p : Addr) (G : List Nat) (n : Nat), vs = [.ref p, .int (n : Int)] ∧ RowAt H p G ∧ okG n G ∧ n ≤ 1000 ∧ G.length ≤ 1000 ∧ ∀ H', Same H H' → Q (.bl true) H'
theorem scYesOk : FnScope nYesOk ["value", "many"] (defScope sYesOk) := ⟨rfl, rfl, rfl, by decide +kernel, rfl, by decide +kernel, by decide +kernel⟩
theorem ok_yesok {f fI fS : Addr} {fd dI dS : FuncData} (F : Fun K "are_yes_states" "are_yes_states" sYesOk f fd) (T : Txt K mg) (DI : Df K mg "is_integer" sInt ["value"] fI dI) (DS : Df K mg "is_state" sIsState ["value", "many"] fS dS) : FnOk P w K mg base CX0 3 f fd ["value", "many"] spYesOk := by
  have GS := ok_isstate (P := P) (w := w) (base := base) DS.F T DI
  refine F.ok scYesOk (fun vs H Q E h => ?_) (fun cdv A outer s H vs Q E hr h => ?_)
  · obtain ⟨p, l, n, rfl, _⟩ := h
    rfl
  · obtain ⟨p, G, n, rfl, hp, ok, hn, hG, q⟩ := h
    refine ⟨_, (pss_cons (ps_if (PW.pt (pw_or (pt_not (pt_val (pe_callB call_isi (by rfl) T.isi (by decide +kernel) (pa_cons (pv 0) (pa_cons (pe_bltn (v := .ty "tuple") (by rfl) T.tuple (by decide +kernel) rfl) pa_nil))))) (pw_or1 (pt_not (pt_val (pe_callB (cr_all rfl) (by rfl) T.all (by decide +kernel) (pa_cons (pe_lc (own := [("state", 2)]) (g := (gName 2)) (tt := tYes)  rfl scYesOk.nd (pi_tup (pv 0)) (blkOk_by (own := [("state", 2)]) (N := nYesOk) (sc := defScope sYesOk) (by decide +kernel)) (fun _ _ _ _ _ => (pg_name (i := 2) scYesOk.nd rfl (Or.inl rfl))) (fun _ _ _ _ _ => pts_nil) (fun _ _ _ _ _ => (pe_call GS (hr.mono (by decide)) (by rfl) DS.m DS.F.kp DS.b .nil pass0 (pa_cons (pv 2) (pa_cons (pv 1) pa_nil))))) pa_nil))))))) (pss_one (ps_ret pe_bl)) pss_nil)
    (pss_one (ps_ret (pe_callB (cr_all rfl) (by rfl) T.all (by decide +kernel) (pa_cons (pe_lc (own := [("one", 3), ("other", 4)]) (g := (gTup K 2 (gCons (gName 3) (gCons (gName 4) gNil)))) (tt := tYes)  rfl scYesOk.nd (pi_zipA (by rfl) T.zip (pa_cons (pv 0) (pa_cons (pe_slice sl_tupA (pv 0) (po_some pe_int) po_none) pa_nil))) (blkOk_by (own := [("one", 3), ("other", 4)]) (N := nYesOk) (sc := defScope sYesOk) (by decide +kernel)) (fun _ _ _ _ _ => (pg_tup rfl (pgs_cons (pg_name (i := 3) scYesOk.nd rfl (Or.inl rfl)) (pgs_cons (pg_name (i := 4) scYesOk.nd rfl (Or.inl rfl)) pgs_nil)))) (fun _ _ _ _ _ => pts_nil) (fun _ _ _ _ _ => (pe_cmpR op_lt (pv 3) (pv 4) (nomark _)))) pa_nil))))), ?_⟩
    have ht : SqT K H p (natsV G) := SqT.of hp
    refine ⟨_, rfl, _, _, _, _, _, rfl, .ty "tuple", ty_tup ht, kit_ty k_tuple_tuple, true, rfl, iteF ?_⟩
    refine ⟨_, rfl, p, rfl, ⟨_, ht⟩, fun D nD => ?_⟩
    refine Lc.lcTS (ys := (List.replicate G.length true).map V.bl) ht nD (by rw [List.length_map, List.length_map, List.length_replicate]) (by rw [List.length_map]; exact Nat.lt_of_le_of_lt hG (by decide)) (fun _ => rfl) ?_ ?_
    · intro i x y H2 hx hy s2 Q' q'
      have hi := (List.getElem?_eq_some_iff.mp hx).1
      rw [List.length_map] at hi
      rw [natsV_at hi] at hx
      cases hx
      rw [List.getElem?_map, List.getElem?_replicate, if_pos hi] at hy
      cases hy
      exact ⟨_, rfl, _, rfl, G[i], n, rfl, ok.lt _ (List.getElem_mem hi), hn, q' H2 (Same.refl _)⟩
    · intro H2 s2 e2
      refine ⟨D, _, rfl, SqL.of e2, ?_⟩
      rw [all_true]
      refine ⟨_, rfl, iteF ?_⟩
      have hp2 := s2 _ _ hp
      refine ⟨_, rfl, _, rfl, _, rfl, ?_⟩
      dsimp only [tNoPart]
      refine sl_drop (r := 1) hp2 fun p' H3 s3 hp' => ?_
      refine ⟨p, p', natsV G, natsV (G.drop 1), rfl, .inr ⟨SqT.of (s3 _ _ hp2), SqT.of hp', fun D' nD' => ?_⟩⟩
      refine Lc.lc_zipT (by rw [List.length_map, List.length_map, List.length_drop]; omega) (fun i H4 => Same H3 H4 ∧ H4 D' = some (.lst ((List.replicate i true).map V.bl))) ⟨same_upd nD', upd_same⟩ (fun i H4 z => ⟨SqT.of (z.1 _ _ (s3 _ _ hp2)), SqT.of (z.1 _ _ hp')⟩) ?_ ?_
      · rintro i x y t H4 hx hy ⟨s4, e4⟩ nt
        have hi := (List.getElem?_eq_some_iff.mp hx).1
        have hj := (List.getElem?_eq_some_iff.mp hy).1
        rw [List.length_map] at hi hj
        rw [natsV_at hi] at hx
        rw [natsV_at hj] at hy
        cases hx
        cases hy
        rw [List.length_drop] at hj
        have s5 := same_upd (o := .tup [V.int (G[i] : Int), V.int ((G.drop 1)[i] : Int)]) nt
        refine ⟨t, _, rfl, SqT.of upd_same, rfl, _, _, rfl, _, _, rfl, rfl, rfl, iteT (B := False) ?_⟩
        refine ⟨_, rfl, _, rfl, _, _, rfl, rfl, ?_⟩
        have lt : G[i] < (G.drop 1)[i] := by
          rw [List.getElem_drop]
          have := List.pairwise_iff_getElem.mp ok.up i (1 + i) hi (by omega) (by omega)
          exact this
        have e : decide ((G[i] : Int) < ((G.drop 1)[i] : Int)) = true := decide_eq_true (by omega)
        refine ⟨_, s5 _ _ e4, ?_, same_put (s4.trans s5) nD', ?_⟩
        · rw [List.length_map, List.length_replicate]
          exact Nat.lt_of_le_of_lt (show i ≤ 1000 by omega) (by decide)
        · rw [upd_same, List.replicate_succ', List.map_append]
          show some (HO.lst (_ ++ [V.bl (decide ((G[i] : Int) < ((G.drop 1)[i] : Int)))])) = _
          rw [e]
          rfl
      · rintro H4 ⟨s4, e4⟩
        refine ⟨D', _, rfl, SqL.of e4, ?_⟩
        rw [all_true]
        exact q H4 ((s2.trans s3).trans s4)
end
end K24

set_option Elab.async false
set_option linter.all false
set_option maxRecDepth 100000
set_option maxHeartbeats 3200000
/-! a * b, ~a and the like by an own operator of a class of the text -/
namespace Ow
open PySem PySem.Spec PyProof.Rows L2
theorem no_ni {v : V} {u : Value} (r : RelV v u) : u ≠ .notImplemented := by
  rintro rfl
  cases v <;> first | (obtain ⟨_, r⟩ := r; exact Value.noConfusion r) | exact Value.noConfusion r
section
variable {X : Cx} {CX : CXT} {C f : Addr} {fd : FuncData} {ps : List Str} {sp : Sp} {E : XK} {k : Nat} {op : Operator}
/-- both of the class at C: what the operator's def promises -/
def rOwn (C : Addr) (sp : Sp) (E : XK) : R2 := fun x y H Q => ∃ a b dx dy fs gs, x = .ref a ∧ y = .ref b ∧ H a = some (.ins C dx fs) ∧ H b = some (.ins C dy gs) ∧ sp [.ref a, .ref b] H Q E
/-- a call of such a def from where the operator stands -/
theorem own_call (F : FnOk X.prog X.w X.K X.mg X.base CX k f fd ps sp) (hr : Room k X.A) (hb : Binds X.K fd ps []) (hx : Passes CX X E) {pins : List (Addr × Obj)} {s : Shared} {σ : L2.St} {H : Hp} {Q : VK} {us : List Value} {vs : List V}
    (I : Inv X pins σ H s) (r : Vals vs us) (h : sp vs H Q E) : wpAny (model X.prog X.w) X.A (call (.ref f) us) (EP X pins σ Q) X.xe s := by
  have hl := F.len _ _ _ _ h
  refine wpAny_call (codeAny_mono (F.run X.A X.stack s H ⟨us, []⟩ us vs Q E hr I.env0 (by
    have := hb s us I.kIn (by rw [List.append_nil, ← r.length]; exact hl)
    simpa using this) r h) fun r s' hq => ?_)
  cases r with
  | error e => exact hx pins σ H s e s' I hq
  | ok fl =>
    cases fl with
    | ret w => exact I.after hq
    | next => exact False.elim hq
    | brk => exact False.elim hq
    | cont => exact False.elim hq
theorem op_own (F : FnOk X.prog X.w X.K X.mg X.base CX k f fd ps sp) (hr : Room k X.A) (hc : PySem.W.selfFirst X.K C = true) (hs : PySem.W.findIn X.K (.ref C) (PySem.dunder op.info.2) = some (some (.ref f))) (hf : PySem.W.isFn X.K (.ref f) = true)
    (hb : Binds X.K fd ps []) (hx : Passes CX X E) : OpR X (binaryOp op) (rOwn C sp E) := by
  intro pins s σ H x y u v Q I rx ry hq
  obtain ⟨a, b, dx, dy, fs, gs, rfl, rfl, ha, hb', h⟩ := hq
  cases rx
  cases ry
  obtain ⟨mA, J, _⟩ := ins_get I.hok ha
  obtain ⟨mB, J', _⟩ := ins_get I.hok hb'
  obtain ⟨od, J, _⟩ := J.look
  obtain ⟨od', J', _⟩ := J'.look
  obtain ⟨m, hF⟩ := I.fr
  refine PySem.W.binop_K hF I.ok.mod.kin J J'.type hc hs hf ?_
  refine wpAny_mono (own_call F hr hb hx I (vs := [V.ref a, V.ref b]) (.cons rfl (.cons rfl .nil)) h) (fun w s' z => ?_) fun _ _ e => e
  obtain ⟨v, H', I', rv, q⟩ := z
  have := no_ni rv
  cases w <;> first | exact absurd rfl this | exact ⟨v, H', I', rv, q⟩
/-- a op v, v of a built-in type (an own operator that refuses such) -/
def rOwnT (K : PySem.W.Frag) (C : Addr) (T : String) (sp : Sp) (E : XK) : R2 := fun x y H Q => ∃ a dx fs, x = .ref a ∧ H a = some (.ins C dx fs) ∧ (∀ u, RelV y u → typeOf u = pure (.type T)) ∧ sp [.ref a, y] H Q E
theorem op_ownT {T : String} {fo ro rc : Option Value} (F : FnOk X.prog X.w X.K X.mg X.base CX k f fd ps sp) (hr : Room k X.A) (hc : PySem.W.selfFirst X.K C = true) (hs : PySem.W.findIn X.K (.ref C) (PySem.dunder op.info.2) = some (some (.ref f))) (hf : PySem.W.isFn X.K (.ref f) = true)
    (hrc : PySem.W.findIn X.K (.ref C) (dunderR op.info.2) = some rc) (hp : rc = none ∨ ∃ g : Addr, rc = some (.ref g)) (h1 : PySem.W.findIn X.K (.type T) (PySem.dunder op.info.2) = some fo) (h2 : PySem.W.findIn X.K (.type T) (dunderR op.info.2) = some ro)
    (hsub : PySem.W.subIn X.K (.type T) (.ref C) = some false) (hb : Binds X.K fd ps []) (hx : Passes CX X E) : OpR X (binaryOp op) (rOwnT X.K C T sp E) := by
  intro pins s σ H x y u v Q I rx ry hq
  obtain ⟨a, dx, fs, rfl, ha, ht, h⟩ := hq
  cases rx
  obtain ⟨mA, J, _⟩ := ins_get I.hok ha
  obtain ⟨od, J, _⟩ := J.look
  obtain ⟨m, hF⟩ := I.fr
  refine PySem.W.ksp_binT hF I.ok.mod.kin J (ht _ ry) hc hs hf hrc hp h1 h2 hsub ?_
  refine wpAny_mono (own_call F hr hb hx I (vs := [V.ref a, y]) (.cons rfl (.cons ry .nil)) h) (fun w s' z => ?_) fun _ _ e => e
  obtain ⟨v, H', I', rv, q⟩ := z
  have := no_ni rv
  cases w <;> first | exact absurd rfl this | exact ⟨v, H', I', rv, q⟩
/-- ~a, -a by the text's own operator -/
def rOwn1 (C : Addr) (sp : Sp) (E : XK) : V → Hp → VK → Prop := fun x H Q => ∃ a dx fs, x = .ref a ∧ H a = some (.ins C dx fs) ∧ sp [.ref a] H Q E
theorem un_own (F : FnOk X.prog X.w X.K X.mg X.base CX k f fd ps sp) (hr : Room k X.A) (hs : PySem.W.findIn X.K (.ref C) "__invert__" = some (some (.ref f))) (hf : PySem.W.isFn X.K (.ref f) = true)
    (hb : Binds X.K fd ps []) (hx : Passes CX X E) : UnR X (unaryOp .Invert) (rOwn1 C sp E) := by
  intro pins s σ H x u Q I rx hq
  obtain ⟨a, dx, fs, rfl, ha, h⟩ := hq
  cases rx
  obtain ⟨mA, J, _⟩ := ins_get I.hok ha
  obtain ⟨od, J, _⟩ := J.look
  obtain ⟨m, hF⟩ := I.fr
  exact PySem.W.ksp_inv hF I.ok.mod.kin J hs hf (own_call F hr hb hx I (vs := [V.ref a]) (.cons rfl .nil) h)
/-- the same call one step further within -/
theorem own_call1 {A : Around} (hA : A.frames = X.A.frames) (F : FnOk X.prog X.w X.K X.mg X.base CX k f fd ps sp) (hr : Room k A) (hb : Binds X.K fd ps []) (hx : Passes CX X E) {pins : List (Addr × Obj)} {s : Shared} {σ : L2.St} {H : Hp} {Q : VK} {us : List Value} {vs : List V}
    (I : Inv X pins σ H s) (r : Vals vs us) (h : sp vs H Q E) : wpAny (model X.prog X.w) A (call (.ref f) us) (EP X pins σ Q) X.xe s := by
  have hl := F.len _ _ _ _ h
  have e0 : Env0 X.prog X.w X.K X.mg X.base A X.stack s H := by
    have e := I.env0
    exact ⟨by rw [hA]; exact e.frames, e.mod, e.bs, e.bsz, e.funs, e.frf, e.hok, e.bare⟩
  refine wpAny_call (codeAny_mono (F.run A X.stack s H ⟨us, []⟩ us vs Q E hr e0 (by
    have := hb s us I.kIn (by rw [List.append_nil, ← r.length]; exact hl)
    simpa using this) r h) fun r s' hq => ?_)
  cases r with
  | error e => exact hx pins σ H s e s' I hq
  | ok fl =>
    cases fl with
    | ret w => exact I.after hq
    | next => exact False.elim hq
    | brk => exact False.elim hq
    | cont => exact False.elim hq
/-- a == b, both of the class C, by its own __eq__, whatever it answers -/
theorem eq_own (F : FnOk X.prog X.w X.K X.mg X.base CX k f fd ps sp) (hr : Room k X.A) (hn : PySem.W.notFirst X.K C (.ref C) = true) (hs : PySem.W.findIn X.K (.ref C) "__eq__" = some (some (.ref f))) (hf : PySem.W.isFn X.K (.ref f) = true)
    (hb : Binds X.K fd ps []) (hx : Passes CX X E) : OpR X (compareOp .Eq) (rOwn C sp E) := by
  intro pins s σ H x y u v Q I rx ry hq
  obtain ⟨a, b, dx, dy, fs, gs, rfl, rfl, ha, hb', h⟩ := hq
  cases rx
  cases ry
  obtain ⟨mA, J, _⟩ := ins_get I.hok ha
  obtain ⟨mB, J', _⟩ := ins_get I.hok hb'
  obtain ⟨od, J, _⟩ := J.look
  obtain ⟨od', J', _⟩ := J'.look
  obtain ⟨m, hF⟩ := I.fr
  show wpAny (model X.prog X.w) X.A (richCompare .Eq (.ref a) (.ref b)) (EP X pins σ Q) X.xe s
  refine PySem.W.cmp_K (op := .Eq) (tb := .ref C) hr.units0 hF I.ok.mod.kin J J'.type hn hs hf ?_
  refine wpAny_mono (own_call F hr hb hx I (vs := [V.ref a, V.ref b]) (.cons rfl (.cons rfl .nil)) h) (fun w s' z => ?_) fun _ _ e => e
  obtain ⟨v, H', I', rv, q⟩ := z
  have := no_ni rv
  cases w <;> first | exact absurd rfl this | exact ⟨v, H', I', rv, q⟩
/-- len(a) by the class's own __len__ -/
def rLenOwn (C : Addr) (sp : Sp) (E : XK) : List V → Hp → VK → Prop := fun xs H Q => ∃ a dx fs, xs = [.ref a] ∧ H a = some (.ins C dx fs) ∧ sp [.ref a] H (fun v H' => ∃ n : Int, v = .int n ∧ 0 ≤ n ∧ n < 2 ^ 63 ∧ Q (.int n) H') E
theorem len_own (F : FnOk X.prog X.w X.K X.mg X.base CX k f fd ps sp) (hr : Room (k + 1) X.A) (hs : PySem.W.findIn X.K (.ref C) "__len__" = some (some (.ref f))) (hf : PySem.W.isFn X.K (.ref f) = true)
    (hb : Binds X.K fd ps []) (hx : Passes CX X E) : CallR X (.builtin "len") (rLenOwn C sp E) := by
  intro pins s σ H xs us Q I r hq
  obtain ⟨a, dx, fs, rfl, ha, h⟩ := hq
  obtain rfl := Vals.ref1 r
  obtain ⟨mA, J, _⟩ := ins_get I.hok ha
  obtain ⟨od, J, _⟩ := J.look
  obtain ⟨m, hF⟩ := I.fr
  refine PySem.W.len_K hF I.ok.mod.kin J hs hf ?_
  refine wpAny_mono (own_call1 (A := X.A.in1) rfl F hr.in1 hb hx I (vs := [V.ref a]) (.cons rfl .nil) h) (fun w s' z => ?_) fun _ _ e => e
  obtain ⟨v, H', I', rv, n, rfl, h0, h1, q⟩ := z
  obtain ⟨t, rfl⟩ := rv
  exact ⟨⟨h0, h1⟩, .int n, H', I'.tok _, ⟨_, rfl⟩, q⟩
end
end Ow

set_option Elab.async false
set_option linter.all false
set_option maxRecDepth 100000
set_option maxHeartbeats 3200000
/-! a != b, both of a class of the text that has only an own __eq__ -/
namespace Ow
open PySem PySem.Spec PyProof.Rows L2
theorem ifBound_b {A : Around} {E : Value → Shared → Prop} {s : Shared} {K : PySem.W.Frag} {x C : Addr} {ox : Obj} {od : Option Obj} {name : Str} {id : String} {M : Model} {args : List Value} {Q : Option Value → Shared → Prop} (X : K.In s.heap) (I : PySem.W.InstAt s.heap x ox C od)
    (hs : PySem.W.findIn K (.ref C) name = some (some (.builtin id))) (hb : ∀ self, bindSpecial (.builtin id) self = pure (.builtin id, [self]))
    (h : wpAny M A (call (.builtin id) (.ref x :: args)) (fun v => Q (some v)) E s) : wpAny M A (callSpecialIfBound? (.ref x) name args) Q E s := by
  simp only [callSpecialIfBound?, bindSpecialIfBound?]
  refine wpAny_holding (wpAny_bind (wpAny_bind (wpAny_bind (I.type.here ((PySem.W.looks_findIn X hs).here ?_)))))
  simp only [hb]
  refine wpAny_bind (wpAny_askSetting (wpAny_ite ?_))
  have fin : wpAny M A (call (.builtin id) ([.ref x] ++ args) >>= fun v => pure (some v)) Q E s := wpAny_bind (wpAny_mono h (fun v s' h' => wpAny_pure h') fun _ _ h' => h')
  split
  · exact wpAny_bind (wpAny_pure (wpAny_pure fin))
  · exact wpAny_tryCatch (wpAny_bind (wpAny_pure (wpAny_pure fin)))
section
variable {X : Cx} {CX : CXT} {C f : Addr} {fd : FuncData} {ps : List Str} {sp : Sp} {E : XK} {k : Nat}
def rOwnNe (C : Addr) (sp : Sp) (E : XK) : R2 := fun x y H Q => ∃ a b dx dy fs gs, x = .ref a ∧ y = .ref b ∧ H a = some (.ins C dx fs) ∧ H b = some (.ins C dy gs) ∧ sp [.ref a, .ref b] H (fun v H' => ∃ t : Bool, v = .bl t ∧ Q (.bl (!t)) H') E
theorem ne_own (F : FnOk X.prog X.w X.K X.mg X.base CX k f fd ps sp) (hr : Room (k + 1) X.A) (hob : PySem.W.subIn X.K (.ref C) (.type "object") = some true) (hn : PySem.W.findIn X.K (.ref C) "__ne__" = some (some (.builtin "object.__ne__")))
    (hs : PySem.W.findIn X.K (.ref C) "__eq__" = some (some (.ref f))) (hf : PySem.W.isFn X.K (.ref f) = true) (hb : Binds X.K fd ps []) (hx : Passes CX X E) : OpR X (compareOp .NotEq) (rOwnNe C sp E) := by
  intro pins s σ H x y u v Q I rx ry hq
  obtain ⟨a, b, dx, dy, fs, gs, rfl, rfl, ha, hb', h⟩ := hq
  cases rx
  cases ry
  obtain ⟨mA, J, _⟩ := ins_get I.hok ha
  obtain ⟨mB, J', _⟩ := ins_get I.hok hb'
  obtain ⟨od, J, _⟩ := J.look
  obtain ⟨od', J', _⟩ := J'.look
  obtain ⟨m, hF⟩ := I.fr
  have X0 := I.ok.mod.kin.keeps hF.keep
  have inner := own_call1 (A := X.A.in1) rfl F hr.in1 hb hx I (vs := [V.ref a, V.ref b]) (us := [.ref a, .ref b]) (.cons rfl (.cons rfl .nil)) h
  have one : wpAny (model X.prog X.w) X.A (tryCompare (.ref a) "__ne__" (.ref b)) (fun r s' => ∃ v, r = some v ∧ EP X pins σ Q v s') X.xe s := by
    unfold tryCompare
    refine wpAny_bind (ifBound_b X0 J hn PySem.F.cmp_object.ne.bind (wpAny_call (codeAny_call_builtin PySem.F.cmp_object.ne.plain PySem.F.cmpEntry_ne
      (PySem.W.check_slot PySem.F.cmpKind_ne PySem.F.cmpSplit_ne (J.type.andThen (PySem.W.looks_subIn X0 hob)) (PySem.F.cmpArgs_ne _ _) ?_))))
    unfold Builtin.«object.__ne__»
    repeat (first
      | with_reducible refine wpAny_cRoomFor hr.in1.units0 ?_
      | (refine wpAny_bind (m := callSpecialIfBound? (.ref a) (Str.ofString "__eq__") [.ref b]) (PySem.W.ifBound_K X0 J hs hf (wpAny_mono inner (fun r s' hr' => ?_) fun _ _ e => e)))
      | wp_step)
    obtain ⟨v, H', I', rv, t, rfl, q⟩ := hr'
    obtain rfl : r = Value.bool t := rv
    repeat (first | (refine wpAny_bind (m := truthy (.bool _)) (wpAny_truthy_bool ?_)) | wp_step)
    first
      | exact ⟨_, rfl, .bl (!t), H', I', rfl, q⟩
      | exact wpAny_pure ⟨_, rfl, .bl (!t), H', I', rfl, q⟩
  show wpAny (model X.prog X.w) X.A (richCompare .NotEq (.ref a) (.ref b)) (EP X pins σ Q) X.xe s
  unfold richCompare
  simp only [oneThing_ref]
  refine wpAny_holding (wpAny_bind (wpAny_cRoomFor hr.units0 ?_))
  refine wpAny_bind (J.type.here (wpAny_bind (J'.type.here ?_)))
  rw [show (Value.ref C != Value.ref C) = false from by simp]
  simp only [Bool.false_eq_true, if_false]
  refine wpAny_bind (wpAny_pure ?_)
  simp only [Bool.false_eq_true, if_false]
  refine wpAny_bind (wpAny_mono one (fun r s' z => ?_) fun _ _ e => e)
  obtain ⟨v, rfl, hq⟩ := z
  exact wpAny_pure hq
end
end Ow

set_option Elab.async false
set_option linter.all false
set_option maxRecDepth 100000
set_option maxHeartbeats 3200000
/-! a == v, a != v with v of another kind; a[i] by an own __getitem__; str(a) by an own __str__ -/
namespace Ow
open PySem PySem.Spec PyProof.Rows L2
section
variable {X : Cx} {CX : CXT} {C f : Addr} {fd : FuncData} {ps : List Str} {sp : Sp} {E : XK} {k : Nat}
def rOwnX (K : PySem.W.Frag) (C : Addr) (sp : Sp) (E : XK) : R2 := fun x y H Q => ∃ a dx fs t, x = .ref a ∧ H a = some (.ins C dx fs) ∧ TyX K H y t ∧ PySem.W.notFirst K C t = true ∧ sp [.ref a, y] H Q E
theorem eq_ownX (F : FnOk X.prog X.w X.K X.mg X.base CX k f fd ps sp) (hr : Room k X.A) (hs : PySem.W.findIn X.K (.ref C) "__eq__" = some (some (.ref f))) (hf : PySem.W.isFn X.K (.ref f) = true)
    (hb : Binds X.K fd ps []) (hx : Passes CX X E) : OpR X (compareOp .Eq) (rOwnX X.K C sp E) := by
  intro pins s σ H x y u v Q I rx ry hq
  obtain ⟨a, dx, fs, t, rfl, ha, ty, hn, h⟩ := hq
  cases rx
  obtain ⟨mA, J, _⟩ := ins_get I.hok ha
  obtain ⟨od, J, _⟩ := J.look
  obtain ⟨m, hF⟩ := I.fr
  obtain ⟨P, Z, hP, _⟩ := kit_of I ry ty
  show wpAny (model X.prog X.w) X.A (richCompare .Eq (.ref a) v) (EP X pins σ Q) X.xe s
  refine PySem.W.cmp_K (op := .Eq) (tb := t) hr.units0 hF I.ok.mod.kin J (Z.ty _ _ I.kIn hP) hn hs hf ?_
  refine wpAny_mono (own_call F hr hb hx I (vs := [V.ref a, y]) (.cons rfl (.cons ry .nil)) h) (fun w s' z => ?_) fun _ _ e => e
  obtain ⟨v, H', I', rv, q⟩ := z
  have := no_ni rv
  cases w <;> first | exact absurd rfl this | exact ⟨v, H', I', rv, q⟩
def rOwnNeX (K : PySem.W.Frag) (C : Addr) (sp : Sp) (E : XK) : R2 := fun x y H Q => ∃ a dx fs t, x = .ref a ∧ H a = some (.ins C dx fs) ∧ TyX K H y t ∧ PySem.W.notFirst K C t = true ∧ sp [.ref a, y] H (fun v H' => ∃ t : Bool, v = .bl t ∧ Q (.bl (!t)) H') E
theorem ne_ownX (F : FnOk X.prog X.w X.K X.mg X.base CX k f fd ps sp) (hr : Room (k + 1) X.A) (hob : PySem.W.subIn X.K (.ref C) (.type "object") = some true) (hn0 : PySem.W.findIn X.K (.ref C) "__ne__" = some (some (.builtin "object.__ne__")))
    (hs : PySem.W.findIn X.K (.ref C) "__eq__" = some (some (.ref f))) (hf : PySem.W.isFn X.K (.ref f) = true) (hb : Binds X.K fd ps []) (hx : Passes CX X E) : OpR X (compareOp .NotEq) (rOwnNeX X.K C sp E) := by
  intro pins s σ H x y u v Q I rx ry hq
  obtain ⟨a, dx, fs, ty, rfl, ha, hty, hn, h⟩ := hq
  cases rx
  obtain ⟨mA, J, _⟩ := ins_get I.hok ha
  obtain ⟨od, J, _⟩ := J.look
  obtain ⟨m, hF⟩ := I.fr
  obtain ⟨P, Z, hP, _⟩ := kit_of I ry hty
  have X0 := I.ok.mod.kin.keeps hF.keep
  have hv := Z.ty (model X.prog X.w) _ I.kIn hP
  have inner := own_call1 (A := X.A.in1) rfl F hr.in1 hb hx I (vs := [V.ref a, y]) (us := [.ref a, v]) (.cons rfl (.cons ry .nil)) h
  have one : wpAny (model X.prog X.w) X.A (tryCompare (.ref a) "__ne__" v) (fun r s' => ∃ v, r = some v ∧ EP X pins σ Q v s') X.xe s := by
    unfold tryCompare
    refine wpAny_bind (ifBound_b X0 J hn0 PySem.F.cmp_object.ne.bind (wpAny_call (codeAny_call_builtin PySem.F.cmp_object.ne.plain PySem.F.cmpEntry_ne
      (PySem.W.check_slot PySem.F.cmpKind_ne PySem.F.cmpSplit_ne (J.type.andThen (PySem.W.looks_subIn X0 hob)) (PySem.F.cmpArgs_ne _ _) ?_))))
    unfold Builtin.«object.__ne__»
    repeat (first
      | with_reducible refine wpAny_cRoomFor hr.in1.units0 ?_
      | (refine wpAny_bind (m := callSpecialIfBound? (.ref a) (Str.ofString "__eq__") [v]) (PySem.W.ifBound_K X0 J hs hf (wpAny_mono inner (fun r s' hr' => ?_) fun _ _ e => e)))
      | wp_step)
    obtain ⟨v, H', I', rv, t, rfl, q⟩ := hr'
    obtain rfl : r = Value.bool t := rv
    repeat (first | (refine wpAny_bind (m := truthy (.bool _)) (wpAny_truthy_bool ?_)) | wp_step)
    first
      | exact ⟨_, rfl, .bl (!t), H', I', rfl, q⟩
      | exact wpAny_pure ⟨_, rfl, .bl (!t), H', I', rfl, q⟩
  show wpAny (model X.prog X.w) X.A (richCompare .NotEq (.ref a) v) (EP X pins σ Q) X.xe s
  unfold richCompare
  simp only [oneThing_ref]
  refine wpAny_holding (wpAny_bind (wpAny_cRoomFor hr.units0 ?_))
  refine wpAny_bind (J.type.here (wpAny_bind (hv.here ?_)))
  split
  · rename_i q
    have e : PySem.W.subIn X.K ty (.ref C) = some false := by
      rcases Bool.or_eq_true_iff.mp hn with e | e
      · rw [beq_iff_eq.mp e] at q; simp at q
      · exact beq_iff_eq.mp e
    refine wpAny_bind ((PySem.W.looks_subIn X0 e).here ?_)
    simp only [Bool.false_eq_true, if_false]
    refine wpAny_bind (wpAny_mono one (fun r s' z => ?_) fun _ _ e => e)
    obtain ⟨v, rfl, hq⟩ := z
    exact wpAny_pure hq
  · refine wpAny_bind (wpAny_pure ?_)
    simp only [Bool.false_eq_true, if_false]
    refine wpAny_bind (wpAny_mono one (fun r s' z => ?_) fun _ _ e => e)
    obtain ⟨v, rfl, hq⟩ := z
    exact wpAny_pure hq
/-- a[i] -/
def rOwnIx (C : Addr) (sp : Sp) (E : XK) : R2 := fun x y H Q => ∃ a dx fs, x = .ref a ∧ H a = some (.ins C dx fs) ∧ sp [.ref a, y] H Q E
theorem pe_ixOwn {a b : Expr} {ta tb : TE} {pos : Pos} (F : FnOk X.prog X.w X.K X.mg X.base CX k f fd ps sp) (hr : Room (k + 1) X.A) (hs : PySem.W.findIn X.K (.ref C) "__getitem__" = some (some (.ref f))) (hf : PySem.W.fnIn X.K f = true) (hfn : PySem.W.isFn X.K (.ref f) = true)
    (hb : Binds X.K fd ps []) (hx : Passes CX X E) (ha : PE X a ta) (hbb : PE X b tb) (hsl : ∀ o i, subscripted b true o i = runValue (.builtin "lifetime.subscript" ⟨[o, i], []⟩)) : PE X (.Subscript a b pos) (tOp (rOwnIx C sp E) ta tb) := by
  refine ⟨fun pins s σ H Q I h => ?_⟩
  refine Subscript_ (binT ha hbb I (R := fun x y H2 => rOwnIx C sp E x y H2 Q) h fun v u s2 x y H2 I2 rx ry q => ?_)
  obtain ⟨a, dx, fs, rfl, ha, h⟩ := q
  cases rx
  obtain ⟨mA, J, _⟩ := ins_get I2.hok ha
  obtain ⟨od, J, _⟩ := J.look
  obtain ⟨m, hF⟩ := I2.fr
  exact PySem.W.sub_K hF I2.ok.mod.kin J hs hf hfn (own_call1 (A := X.A.in1) rfl F hr.in1 hb hx I2 (vs := [V.ref a, y]) (.cons rfl (.cons ry .nil)) h) (hsl _ _)
/-- str(a) -/
def rStrOwn (C : Addr) (sp : Sp) (E : XK) : List V → Hp → VK → Prop := fun xs H Q => ∃ a dx fs, xs = [.ref a] ∧ H a = some (.ins C dx fs) ∧ sp [.ref a] H (fun v H' => ∃ z, v = .str z ∧ Q (.str z) H') E
theorem str_own (F : FnOk X.prog X.w X.K X.mg X.base CX k f fd ps sp) (hr : Room (k + 2) X.A) (hs : PySem.W.findIn X.K (.ref C) "__str__" = some (some (.ref f))) (hf : PySem.W.isFn X.K (.ref f) = true)
    (hb : Binds X.K fd ps []) (hx : Passes CX X E) : CallR X (.type "str") (rStrOwn C sp E) := by
  intro pins s σ H xs us Q I r hq
  obtain ⟨a, dx, fs, rfl, ha, h⟩ := hq
  obtain rfl := Vals.ref1 r
  obtain ⟨mA, J, _⟩ := ins_get I.hok ha
  obtain ⟨od, J, _⟩ := J.look
  obtain ⟨m, hF⟩ := I.fr
  refine PySem.W.kso_call hr.in1.in1.units0 I.kIn J hs hf ?_
  refine wpAny_mono (own_call1 (A := X.A.in1.in1) rfl F hr.in1.in1 hb hx I (vs := [V.ref a]) (.cons rfl .nil) h) (fun w s' z => ?_) fun _ _ e => e
  obtain ⟨v, H', I', rv, n, rfl, q⟩ := z
  obtain ⟨t, rfl⟩ := rv
  exact ⟨.str n, H', I', ⟨t, rfl⟩, q⟩
end
end Ow

set_option Elab.async false
set_option linter.all false
set_option maxRecDepth 100000
set_option maxHeartbeats 3200000
/-! v in a, v not in a, by an own __contains__ -/
namespace Ow
open PySem PySem.Spec PyProof.Rows L2
section
variable {X : Cx} {CX : CXT} {k : Nat} {f C : Addr} {fd : FuncData} {ps : List Str} {sp : Sp} {E : XK}
def rOwnIn (C : Addr) (sp : Sp) (E : XK) : R2 := fun x y H Q => ∃ a dx fs, y = .ref a ∧ H a = some (.ins C dx fs) ∧ sp [.ref a, x] H (fun v H' => ∃ t : Bool, v = .bl t ∧ Q (.bl t) H') E
def rOwnNotIn (C : Addr) (sp : Sp) (E : XK) : R2 := fun x y H Q => ∃ a dx fs, y = .ref a ∧ H a = some (.ins C dx fs) ∧ sp [.ref a, x] H (fun v H' => ∃ t : Bool, v = .bl t ∧ Q (.bl (!t)) H') E
theorem in_own (F : FnOk X.prog X.w X.K X.mg X.base CX k f fd ps sp) (hr : Room k X.A) (hs : PySem.W.findIn X.K (.ref C) "__contains__" = some (some (.ref f))) (hf : PySem.W.isFn X.K (.ref f) = true)
    (hb : Binds X.K fd ps []) (hx : Passes CX X E) : OpR X (compareOp .In) (rOwnIn C sp E) := by
  intro pins s σ H x y u v Q I rx ry hq
  obtain ⟨a, dx, fs, rfl, ha, h⟩ := hq
  cases ry
  obtain ⟨mA, J, _⟩ := ins_get I.hok ha
  obtain ⟨od, J, _⟩ := J.look
  obtain ⟨m, hF⟩ := I.fr
  refine PySem.W.in_K hF I.ok.mod.kin J hs hf (wpAny_mono (own_call F hr hb hx I (vs := [V.ref a, x]) (us := [.ref a, u]) (.cons rfl (.cons rx .nil)) h) (fun r s' hr' => ?_) fun _ _ e => e)
  obtain ⟨z, H', I', rz, t, rfl, q⟩ := hr'
  obtain rfl : r = Value.bool t := rz
  exact wpAny_truthy_bool ⟨.bl t, H', I', rfl, q⟩
theorem notIn_own (F : FnOk X.prog X.w X.K X.mg X.base CX k f fd ps sp) (hr : Room k X.A) (hs : PySem.W.findIn X.K (.ref C) "__contains__" = some (some (.ref f))) (hf : PySem.W.isFn X.K (.ref f) = true)
    (hb : Binds X.K fd ps []) (hx : Passes CX X E) : OpR X (compareOp .NotIn) (rOwnNotIn C sp E) := by
  intro pins s σ H x y u v Q I rx ry hq
  obtain ⟨a, dx, fs, rfl, ha, h⟩ := hq
  cases ry
  obtain ⟨mA, J, _⟩ := ins_get I.hok ha
  obtain ⟨od, J, _⟩ := J.look
  obtain ⟨m, hF⟩ := I.fr
  refine PySem.W.notIn_K hF I.ok.mod.kin J hs hf (wpAny_mono (own_call F hr hb hx I (vs := [V.ref a, x]) (us := [.ref a, u]) (.cons rfl (.cons rx .nil)) h) (fun r s' hr' => ?_) fun _ _ e => e)
  obtain ⟨z, H', I', rz, t, rfl, q⟩ := hr'
  obtain rfl : r = Value.bool t := rz
  exact wpAny_truthy_bool ⟨.bl (!t), H', I', rfl, q⟩
end
end Ow

set_option Elab.async false
set_option linter.all false
set_option maxRecDepth 100000
set_option maxHeartbeats 6400000
namespace K24
open PySem L2 Tx Tg Tm Da RZ
/-! ### the class of readers -/
abbrev sInit : Stmt := inClass sReader 0
abbrev sLet : Stmt := inClass sReader 1
abbrev sMov : Stmt := inClass sReader 2
abbrev sYes : Stmt := inClass sReader 3
abbrev sLed : Stmt := inClass sReader 4
abbrev sLen : Stmt := inClass sReader 8
abbrev sIn : Stmt := inClass sReader 9
abbrev sEq : Stmt := inClass sReader 10
abbrev sStr : Stmt := inClass sReader 11
abbrev sLed2 : Stmt := inClass sReader 17
/-- a reader: its letters, its moves in their order, its states with yes, how many states -/
structure Rdr where
  sg : Str
  W : List Way
  G : List Nat
  n : Nat
structure okR (r : Rdr) : Prop where
  sg : Signs r.sg
  ord : r.W.map (·.1) = cds r.sg
  W : okW r.n r.sg r.W
  G : okG r.n r.G
  few : r.G.length ≤ 60
abbrev pf (sg : Str) (d g : Addr) : List (Str × V) := [("_letters", .str sg), ("_moves", .ref d), ("_yes", .ref g)]
def RdAt (C : Addr) (H : Hp) (p : Addr) (r : Rdr) : Prop := ∃ dx d g, H p = some (.ins C dx (pf r.sg d g)) ∧ MovAt H d r.W ∧ RowAt H g r.G ∧ okR r
theorem RdAt.same {C : Addr} {H H' : Hp} {p : Addr} {r : Rdr} (s : Same H H') (h : RdAt C H p r) : RdAt C H' p r := let ⟨dx, d, g, e, m, y, ok⟩ := h; ⟨dx, d, g, s _ _ e, m.same s, s _ _ y, ok⟩
theorem RdAt.but {C c : Addr} {H H' : Hp} {p : Addr} {r : Rdr} (hc : Cup H c) (b : But c H H') (h : RdAt C H p r) : RdAt C H' p r := by
  obtain ⟨dx, d, g, e, m, y, ok⟩ := h
  have := id hc
  obtain ⟨_, _, _, ec⟩ := this
  exact ⟨dx, d, g, b _ _ (ne_of e ec (by intro z; cases z)) e, m.but hc b, RowAt.but hc b y, ok⟩
theorem RdAt.ok {C : Addr} {H : Hp} {p : Addr} {r : Rdr} (h : RdAt C H p r) : okR r := let ⟨_, _, _, _, _, _, ok⟩ := h; ok
structure WR (K : PySem.W.Frag) (mg : Str → Option Value) (C : Addr) : Prop where
  gR : mg "Reader" = some (.ref C)
  cl : Cls K C
  nL : NoAttr K C "_letters"
  nM : NoAttr K C "_moves"
  nY : NoAttr K C "_yes"
  tyR : ∀ (H : Hp) (a dx : Addr) (fs : List (Str × V)), H a = some (.ins C dx fs) → TyX K H (.ref a) (.ref C)
  iRR : PySem.W.kitOne K (.ref C) (.ref C) = some true
/-- the moves, in the order of the letters -/
def ordW (sg : Str) (W : List Way) : List Way := (cds sg).map fun c => (c, row W c)
theorem ordW_ok {n : Nat} {sg : Str} {W : List Way} (h : okW n sg W) (hs : Signs sg) : okW n sg (ordW sg W) ∧ (ordW sg W).map (·.1) = cds sg := by
  have e : (ordW sg W).map (·.1) = cds sg := by
    unfold ordW
    rw [List.map_map]
    exact List.map_id' _
  refine ⟨⟨by rw [e], fun w hw => ?_, h.one, h.most⟩, e⟩
  obtain ⟨c, hc, rfl⟩ := List.mem_map.mp hw
  obtain ⟨l, hl, h1, h2⟩ := h.has hc
  rw [show row W c = l from row_eq (h.nodup hs) hl]
  exact ⟨h1, h2⟩
theorem putK_new {kvs : List (Key × V)} {k : Key} {v : V} (h : valV kvs k = none) : putK kvs k v = kvs ++ [(k, v)] := by
  unfold putK
  have : (kvs.any fun kv => decide (kv.1 = k)) = false := by
    rw [valV_any, h]
    rfl
  rw [this]
  rfl
section
variable {P : Program} {w : World} {K : PySem.W.Frag} {mg : Str → Option Value} {base : Heap}
abbrev nInit : List Str := ["self", "letters", "moves", "yes", "letter"]
def spInit (C : Addr) : Sp := fun vs H Q _ => ∃ (x dx : Addr) (sg : Str) (d g : Addr) (W : List Way) (G : List Nat) (n : Nat), vs = [.ref x, .str sg, .ref d, .ref g] ∧ H x = some (.ins C dx []) ∧ Signs sg ∧ MovAt H d W ∧ okW n sg W ∧ RowAt H g G ∧ okG n G ∧ G.length ≤ 60 ∧
  ∀ H', But x H H' → RdAt C H' x ⟨sg, ordW sg W, G, n⟩ → Q .non H'
theorem scInit : FnScope nInit ["self", "letters", "moves", "yes"] (defScope sInit) := ⟨rfl, rfl, rfl, by decide +kernel, rfl, by decide +kernel, by decide +kernel⟩
/-- what the class calls -/
structure LowR (K : PySem.W.Frag) (mg : Str → Option Value) (fI fH fL fC fT fS fR fM fY fX : Addr) (dI dH dL dC dT dS dR dM dY dX : FuncData) : Prop where
  L : Low K mg fI fH fL fC fT dI dH dL dC dT
  DS : Df K mg "is_state" sIsState ["value", "many"] fS dS
  DR : Df K mg "is_row_of_states" sRowOk ["value", "many"] fR dR
  DM : Df K mg "are_reader_moves" sMovesOk ["letters", "value"] fM dM
  DY : Df K mg "are_yes_states" sYesOk ["value", "many"] fY dY
  DX : Df K mg "check_text" sCText ["letters", "value"] fX dX
variable {fI fH fL fC fT fS fR fM fY fX : Addr} {dI dH dL dC dT dS dR dM dY dX : FuncData}
theorem ok_init {f C : Addr} {fd : FuncData} (F : Fun K "__init__" "Reader.__init__" sInit f fd) (T : Txt K mg) (W0 : WR K mg C) (B : LowR K mg fI fH fL fC fT fS fR fM fY fX dI dH dL dC dT dS dR dM dY dX) :
    FnOk P w K mg base CX0 5 f fd ["self", "letters", "moves", "yes"] (spInit C) := by
  have GC := ok_passL (P := P) (w := w) (base := base) B.L.DC.F T B.L.DH B.L.DL
  have GM := ok_movesok (P := P) (w := w) (base := base) B.DM.F T B.L.DI B.DS B.DR
  have GY := ok_yesok (P := P) (w := w) (base := base) B.DY.F T B.L.DI B.DS
  refine F.ok scInit (fun vs H Q E h => ?_) (fun cdv A outer s H vs Q E hr h => ?_)
  · obtain ⟨x, dx, sg, d, g, W, G, n, rfl, _⟩ := h
    rfl
  · obtain ⟨x, dx, sg, d, g, W, G, n, rfl, hx, hsg, hM, ok, hG, okg, lG, q⟩ := h
    have hu := hu_of hr
    have sgl : sg.length ≤ sizeLine := Nat.le_trans (sg_len hsg).2 (by decide)
    obtain ⟨x0, hx0, mx0⟩ := sg_head hsg
    obtain ⟨kvs, ed, hw⟩ := id hM
    obtain ⟨l0, hl0, ll0, lq0⟩ := ok.has mx0
    obtain ⟨p0, g0, r0⟩ := ways_get hw (ok.nodup hsg) hl0
    refine ⟨_, (pss_cons (ps_expr (pe_call GC (hr.mono (by decide)) (by rfl) B.L.DC.m B.L.DC.F.kp B.L.DC.b .nil pass0 (pa_cons (pv 1) pa_nil)))
    (pss_cons (ps_if (pt_not (pt_val (pe_call GM (hr.mono (by decide)) (by rfl) B.DM.m B.DM.F.kp B.DM.b .nil pass0 (pa_cons (pv 1) (pa_cons (pv 2) pa_nil))))) (pss_one ps_never) pss_nil)
    (pss_cons (ps_if (pt_not (pt_val (pe_call GY (hr.mono (by decide)) (by rfl) B.DY.m B.DY.F.kp B.DY.b .nil pass0 (pa_cons (pv 3) (pa_cons (pe_callB call_len_seq (by rfl) T.len PySem.boot_len (pa_cons (pe_dget hu (pv 2) (pe_ix ix_str (pv 1) pe_int (fun _ _ => rfl)) (fun _ _ => rfl)) pa_nil)) pa_nil))))) (pss_one ps_never) pss_nil)
    (pss_cons (ps_fld (pv 0) (pv 1) rfl)
    (pss_cons (ps_fld (pv 0) (pe_dc (own := [("letter", 4)]) (g := (gName 4)) (tt := tYes) (tk := tVar 4) (tv := tDGet (tVar 2) (tVar 4)) rfl scInit.nd (pi_str (pv 1)) (blkOk_by (own := [("letter", 4)]) (N := nInit) (sc := defScope sInit) (by decide +kernel)) (fun _ _ _ _ _ => (pg_name (i := 4) scInit.nd rfl (Or.inl rfl))) (fun _ _ _ _ _ => pts_nil) (fun _ _ _ _ _ => (pv 4)) (fun _ _ _ _ _ => (pe_dget hu (pv 2) (pv 4) (fun _ _ => rfl)))) rfl)
    (pss_one (ps_fld (pv 0) (pv 3) rfl))))))), ?_⟩
    refine ⟨_, rfl, sg, rfl, hsg, fun H1 s1 => ?_⟩
    refine ⟨_, rfl, _, rfl, sg, d, W, n, rfl, hsg, hM.same s1, ok, fun H2 s2 => ⟨_, rfl, iteF ?_⟩⟩
    have s12 := s1.trans s2
    have G0 : DGet H2 d (.str (one x0)) (some (.ref p0)) := by
      have := DGet.k (k := (Sum.inr (one x0) : Key)) (s12 _ _ ed)
      rw [g0] at this
      exact this
    refine ⟨_, rfl, _, rfl, _, rfl, sg, 0, x0, rfl, rfl, sgl, atI_nat (j := 0) hx0, d, _, rfl, G0, p0, _, rfl, .inr (SqT.of (s12 _ _ r0)), ?_⟩
    rw [List.length_map, ll0]
    refine ⟨g, G, n, rfl, s12 _ _ hG, okg, Nat.le_trans ok.most (by decide), Nat.le_trans lG (by decide), fun H3 s3 => ⟨_, rfl, iteF ?_⟩⟩
    have s13 := s12.trans s3
    have hx3 := s13 _ _ hx
    refine ⟨_, rfl, _, rfl, x, C, dx, [], rfl, hx3, W0.cl, W0.nL, by decide, ?_⟩
    have kx := KeepT.upd (o := .ins C dx (putF "_letters" (V.str sg) [])) (NoT.ins hx3)
    have b3 : But x H (upd H3 x (.ins C dx (putF "_letters" (V.str sg) []))) := fun b o n e => by
      rw [upd_ne n]
      exact s13 _ _ e
    have e3 : (upd H3 x (.ins C dx (putF "_letters" (V.str sg) []))) x = some (.ins C dx [("_letters", .str sg)]) := upd_same
    have ed3 : (upd H3 x (.ins C dx (putF "_letters" (V.str sg) []))) d = some (.dK kvs) := by
      rw [upd_ne (ne_of (s13 _ _ ed) hx3 (by intro z; cases z))]
      exact s13 _ _ ed
    have hw3 : WsAt (upd H3 x (.ins C dx (putF "_letters" (V.str sg) []))) kvs W := (hw.keep (.same s13)).keep kx
    have hG3 : RowAt (upd H3 x (.ins C dx (putF "_letters" (V.str sg) []))) g G := kx _ _ (s13 _ _ hG)
    generalize upd H3 x (.ins C dx (putF "_letters" (V.str sg) [])) = H4 at b3 e3 ed3 hw3 hG3 ⊢
    refine ⟨_, rfl, sg, rfl, fun D nD => ?_⟩
    obtain ⟨okO, eO⟩ := ordW_ok ok hsg
    refine Lc.dc_text (fun i H5 => Same H4 H5 ∧ ∃ kvs', H5 D = some (.dK kvs') ∧ WsAt H5 kvs' ((ordW sg W).take i)) ⟨same_upd nD, [], upd_same, .nil⟩ ?_ ?_
    · rintro i c H5 hc ⟨s5, kvs', e5, w5⟩
      have mc := List.mem_of_getElem? hc
      have hi := (List.getElem?_eq_some_iff.mp hc).1
      have hi3 := hi
      rw [cds_len] at hi3
      obtain ⟨l, hl, ll, lq⟩ := ok.has mc
      obtain ⟨p, g1, r1⟩ := ways_get hw3 (ok.nodup hsg) hl
      have G1 : DGet H5 d (.str (one c)) (some (.ref p)) := by
        have := DGet.k (k := (Sum.inr (one c) : Key)) (s5 _ _ ed3)
        rw [g1] at this
        exact this
      have el : (ordW sg W)[i]? = some (c, row W c) := by
        unfold ordW
        rw [List.getElem?_map, hc]
        rfl
      have er : row W c = l := row_eq (ok.nodup hsg) hl
      have lw : kvs'.length = i := by
        rw [ways_len w5, List.length_take]
        have : (ordW sg W).length = (cds sg).length := List.length_map _
        omega
      have nk : c ∉ ((ordW sg W).take i).map (·.1) := by
        rw [List.map_take, eO]
        intro hm
        obtain ⟨j, hj⟩ := List.mem_iff_getElem?.mp hm
        have hj1 := (List.getElem?_eq_some_iff.mp hj).1
        rw [List.length_take] at hj1
        rw [List.getElem?_take, if_pos (by omega)] at hj
        have := (List.getElem?_inj (by omega) (sg_nodup hsg)).mp (hj.trans hc.symm)
        omega
      refine ⟨rfl, iteT (B := False) ?_⟩
      refine ⟨_, rfl, _, rfl, _, rfl, d, _, rfl, G1, kvs', Sum.inr (one c), rfl, e5, Nat.lt_of_le_of_lt (show kvs'.length ≤ 3 by have := (sg_len hsg).2; omega) (by decide), same_put s5 nD, kvs' ++ [(Sum.inr (one c), .ref p)], ?_, ?_⟩
      · rw [upd_same, putK_new (ways_none w5 nk)]
      · rw [List.take_add_one, el]
        refine each_app ((w5.keep (KeepT.upd (.dK e5)))) (.cons ⟨p, rfl, ?_⟩ .nil)
        show _ = some (HO.tup (natsV (row W c)))
        rw [er]
        exact KeepT.upd (.dK e5) _ _ (KeepT.same s5 _ _ r1)
    · rintro H5 ⟨s5, kvs', e5, w5⟩
      have lo : (ordW sg W).length = (cds sg).length := List.length_map _
      rw [List.take_of_length_le (by omega)] at w5
      have hx5 := s5 _ _ e3
      refine ⟨_, rfl, x, C, dx, _, rfl, hx5, W0.cl, W0.nM, (by show 1 < 1000; decide), ?_⟩
      have nDx : D ≠ x := fun e => by rw [e, e3] at nD; cases nD
      refine ⟨_, rfl, _, rfl, x, C, dx, _, rfl, upd_same, W0.cl, W0.nY, (by show 2 < 1000; decide), ?_⟩
      have k1 := KeepT.upd (o := .ins C dx (putF "_moves" (V.ref D) [("_letters", .str sg)])) (NoT.ins hx5)
      have k2 := KeepT.upd (o := .ins C dx (pf sg D g)) (NoT.ins (upd_same (H := H5) (a := x) (o := .ins C dx (putF "_moves" (V.ref D) [("_letters", .str sg)]))))
      refine q _ (fun b o n e => ?_) ⟨dx, D, g, upd_same, ⟨kvs', ?_, (w5.keep k1).keep k2⟩, k2 _ _ (k1 _ _ (KeepT.same s5 _ _ hG3)), hsg, eO, okO, okg, lG⟩
      · rw [upd_ne n, upd_ne n]
        exact s5 _ _ (b3 _ _ n e)
      · rw [upd_ne nDx, upd_ne nDx]
        exact e5
end
end K24

set_option Elab.async false
set_option linter.all false
set_option maxRecDepth 100000
set_option maxHeartbeats 6400000
namespace K24
open PySem L2 Tx Tg Tm Da RZ
/-! ### the moves as data -/
abbrev natsD (l : List Nat) : List PyData := l.map fun (n : Nat) => PyData.int (n : Int)
abbrev waysD (W : List Way) : List (PyData × PyData) := W.map fun w => (PyData.str (one w.1), PyData.tuple (natsD w.2))
theorem nats_dr (K : PySem.W.Frag) (H : Hp) : ∀ l : List Nat, DrAll K H (natsV l) (natsD l)
  | [] => .nil
  | n :: l => .cons (.int _) (nats_dr K H l)
theorem nats_dp (K : PySem.W.Frag) (H : Hp) : ∀ l : List Nat, DpAll K H (natsV l) (natsD l)
  | [] => .nil
  | n :: l => .cons (.int _) (nats_dp K H l)
theorem row_dr {K : PySem.W.Frag} {H : Hp} {p : Addr} {l : List Nat} (h : RowAt H p l) : Dr K H (.ref p) (.tuple (natsD l)) := .tup (SqT.of h) (nats_dr K H l)
theorem ways_dr {K : PySem.W.Frag} {H : Hp} : ∀ {kvs : List (Key × V)} {W : List Way}, WsAt H kvs W → DrKv K H kvs (waysD W)
  | _, _, .nil => .nil
  | _, _, .cons ⟨p, e, r⟩ t => by
    subst e
    exact .cons (row_dr r) (ways_dr t)
theorem mov_dr {K : PySem.W.Frag} {H : Hp} {d : Addr} {W : List Way} (h : MovAt H d W) : Dr K H (.ref d) (.dict (waysD W)) := let ⟨_, e, w⟩ := h; .dct e (ways_dr w)
theorem nats_alike : ∀ l m : List Nat, AlikeAll (natsD l) (natsD m)
  | [], _ => .nilL _
  | _ :: _, [] => .nilR _
  | a :: l, b :: m => .cons (.int _ _) (nats_alike l m)
theorem ways_alike : ∀ {W W' : List Way}, W.map (·.1) = W'.map (·.1) → AlikeKv (waysD W) (waysD W')
  | [], [], _ => .nil
  | w :: W, w' :: W', h => by
    rw [List.map_cons, List.map_cons] at h
    injection h with h1 h2
    show AlikeKv ((.str (one w.1), .tuple (natsD w.2)) :: waysD W) ((.str (one w'.1), .tuple (natsD w'.2)) :: waysD W')
    rw [h1]
    exact .cons (.tup (nats_alike _ _)) (ways_alike h2)
  | [], _ :: _, h => nomatch h
  | _ :: _, [], h => nomatch h
theorem nats_dq : ∀ l m : List Nat, dqAll (natsD l) (natsD m) = decide (l = m)
  | [], [] => rfl
  | [], _ :: _ => rfl
  | _ :: _, [] => rfl
  | a :: l, b :: m => by
    show (((a : Int) == (b : Int)) && dqAll (natsD l) (natsD m)) = _
    rw [nats_dq l m]
    by_cases h : a = b
    · subst h
      rw [beq_self_eq_true, Bool.true_and]
      exact decide_eq_decide.mpr ⟨fun e => by rw [e], fun e => by injection e⟩
    · have hb : ((a : Int) == (b : Int)) = false := beq_eq_false_iff_ne.mpr (by omega)
      rw [hb, Bool.false_and]
      exact (decide_eq_false (fun e => h (by injection e))).symm
theorem ways_dq : ∀ {W W' : List Way}, W.map (·.1) = W'.map (·.1) → dqKv (waysD W) (waysD W') = decide (W = W')
  | [], [], _ => rfl
  | w :: W, w' :: W', h => by
    rw [List.map_cons, List.map_cons] at h
    injection h with h1 h2
    show (dqAll (natsD w.2) (natsD w'.2) && dqKv (waysD W) (waysD W')) = _
    rw [nats_dq, ways_dq h2, ← Bool.decide_and]
    exact decide_eq_decide.mpr ⟨fun ⟨a, b⟩ => by rw [b, Prod.ext h1 a], fun e => by injection e with e1 e2; exact ⟨by rw [e1], e2⟩⟩
  | [], _ :: _, h => nomatch h
  | _ :: _, [], h => nomatch h
theorem nats_eqv : ∀ l m : List Nat, PyData.eqvAll (natsD l) (natsD m) = decide (l = m)
  | [], [] => rfl
  | [], _ :: _ => rfl
  | _ :: _, [] => rfl
  | a :: l, b :: m => by
    show (((a : Int) == (b : Int)) && PyData.eqvAll (natsD l) (natsD m)) = _
    rw [nats_eqv l m]
    by_cases h : a = b
    · subst h
      rw [beq_self_eq_true, Bool.true_and]
      exact decide_eq_decide.mpr ⟨fun e => by rw [e], fun e => by injection e⟩
    · have hb : ((a : Int) == (b : Int)) = false := beq_eq_false_iff_ne.mpr (by omega)
      rw [hb, Bool.false_and]
      exact (decide_eq_false (fun e => h (by injection e))).symm
theorem nats_lay : ∀ l : List Nat, PyData.canLayAll0 (natsD l) = true
  | [] => rfl
  | a :: l => by
    show ((true : Bool) && PyData.canLayAll0 (natsD l)) = true
    rw [nats_lay l]
    rfl
theorem nats_deep : ∀ l : List Nat, PyData.depthAll (natsD l) = 0
  | [] => rfl
  | a :: l => by
    show max 0 (PyData.depthAll (natsD l)) = 0
    rw [nats_deep l]
    rfl
theorem nats_shaped (l : List Nat) : SeqAt.shaped (.tuple (natsD l)) = true := by
  unfold SeqAt.shaped
  rw [Bool.and_eq_true]
  exact ⟨nats_lay l, decide_eq_true (by show PyData.depthAll (natsD l) + 1 ≤ 64; rw [nats_deep]; decide)⟩
theorem ways_deep : ∀ W : List Way, PyData.depthKv (waysD W) ≤ 1
  | [] => Nat.zero_le _
  | w :: W => by
    have := ways_deep W
    show max (max 0 (PyData.depthAll (natsD w.2) + 1)) (PyData.depthKv (waysD W)) ≤ 1
    rw [nats_deep]
    omega
theorem flat_nats (l : List Nat) : ∀ v ∈ natsV l, flatV v = true := fun v hv => by
  obtain ⟨n, _, rfl⟩ := List.mem_map.mp hv
  rfl
theorem inV_nats (q : Nat) : ∀ l : List Nat, inV (.int (q : Int)) (natsV l) = decide (q ∈ l)
  | [] => rfl
  | a :: l => by
    have ih := inV_nats q l
    show (((a : Int) == (q : Int)) || inV (.int (q : Int)) (natsV l)) = _
    rw [ih]
    by_cases h : a = q
    · subst h
      rw [beq_self_eq_true, Bool.true_or]
      exact (decide_eq_true List.mem_cons_self).symm
    · have hb : ((a : Int) == (q : Int)) = false := beq_eq_false_iff_ne.mpr (by omega)
      rw [hb, Bool.false_or]
      exact decide_eq_decide.mpr ⟨fun e => List.mem_cons_of_mem _ e, fun e => (List.mem_cons.mp e).resolve_left (fun z => h z.symm)⟩
section
variable {P : Program} {w : World} {K : PySem.W.Frag} {mg : Str → Option Value} {base : Heap} {C : Addr}
/-! ### the properties -/
def spLet (C : Addr) : Sp := fun vs H Q _ => ∃ (p : Addr) (r : Rdr), vs = [.ref p] ∧ RdAt C H p r ∧ Q (.str r.sg) H
def spMov (C : Addr) : Sp := fun vs H Q _ => ∃ (p : Addr) (r : Rdr), vs = [.ref p] ∧ RdAt C H p r ∧ ∀ d H', Same H H' → MovAt H' d r.W → Q (.ref d) H'
def spYesP (C : Addr) : Sp := fun vs H Q _ => ∃ (p : Addr) (r : Rdr), vs = [.ref p] ∧ RdAt C H p r ∧ ∀ g, RowAt H g r.G → Q (.ref g) H
theorem scLet : FnScope ["self"] ["self"] (defScope sLet) := ⟨rfl, rfl, rfl, by decide +kernel, rfl, by decide +kernel, by decide +kernel⟩
theorem scMov : FnScope ["self"] ["self"] (defScope sMov) := ⟨rfl, rfl, rfl, by decide +kernel, rfl, by decide +kernel, by decide +kernel⟩
theorem scYesP : FnScope ["self"] ["self"] (defScope sYes) := ⟨rfl, rfl, rfl, by decide +kernel, rfl, by decide +kernel, by decide +kernel⟩
theorem ok_let {f : Addr} {fd : FuncData} (F : Fun K "letters" "Reader.letters" sLet f fd) (W0 : WR K mg C) : FnOk P w K mg base CX0 1 f fd ["self"] (spLet C) := by
  refine F.ok scLet (fun vs H Q E h => ?_) (fun cdv A outer s H vs Q E hr h => ?_)
  · obtain ⟨p, r, rfl, _⟩ := h
    rfl
  · obtain ⟨p, r, rfl, ⟨dx, d, g, hp, _⟩, q⟩ := h
    refine ⟨_, (pss_one (ps_ret (pe_fld (pv 0) rfl))), ?_⟩
    exact ⟨_, rfl, p, C, dx, _, _, rfl, hp, W0.cl, W0.nL, rfl, q⟩
theorem ok_mov {f : Addr} {fd : FuncData} (F : Fun K "moves" "Reader.moves" sMov f fd) (T : Txt K mg) (W0 : WR K mg C) : FnOk P w K mg base CX0 1 f fd ["self"] (spMov C) := by
  refine F.ok scMov (fun vs H Q E h => ?_) (fun cdv A outer s H vs Q E hr h => ?_)
  · obtain ⟨p, r, rfl, _⟩ := h
    rfl
  · obtain ⟨p, r, rfl, ⟨dx, d, g, hp, ⟨kvs, ed, hw⟩, _⟩, q⟩ := h
    refine ⟨_, (pss_one (ps_ret (pe_callTy call_dictD (by rfl) T.dict (by decide +kernel) (pa_cons (pe_fld (pv 0) rfl) pa_nil)))), ?_⟩
    refine ⟨_, rfl, p, C, dx, _, _, rfl, hp, W0.cl, W0.nM, rfl, d, kvs, rfl, .inl ed, fun d' nd => ?_⟩
    have s1 := same_upd (o := .dK kvs) nd
    exact q d' _ s1 ⟨kvs, upd_same, hw.keep (.same s1)⟩
theorem ok_yesp {f : Addr} {fd : FuncData} (F : Fun K "yes" "Reader.yes" sYes f fd) (W0 : WR K mg C) : FnOk P w K mg base CX0 1 f fd ["self"] (spYesP C) := by
  refine F.ok scYesP (fun vs H Q E h => ?_) (fun cdv A outer s H vs Q E hr h => ?_)
  · obtain ⟨p, r, rfl, _⟩ := h
    rfl
  · obtain ⟨p, r, rfl, ⟨dx, d, g, hp, _, hg, _⟩, q⟩ := h
    refine ⟨_, (pss_one (ps_ret (pe_fld (pv 0) rfl))), ?_⟩
    exact ⟨_, rfl, p, C, dx, _, _, rfl, hp, W0.cl, W0.nY, rfl, q g hg⟩
/-! ### len, led -/
def spLen (C : Addr) : Sp := fun vs H Q _ => ∃ (p : Addr) (r : Rdr), vs = [.ref p] ∧ RdAt C H p r ∧ Q (.int (r.n : Int)) H
theorem scLen : FnScope ["self"] ["self"] (defScope sLen) := ⟨rfl, rfl, rfl, by decide +kernel, rfl, by decide +kernel, by decide +kernel⟩
theorem ok_len {f : Addr} {fd : FuncData} (F : Fun K "__len__" "Reader.__len__" sLen f fd) (T : Txt K mg) (W0 : WR K mg C) : FnOk P w K mg base CX0 1 f fd ["self"] (spLen C) := by
  refine F.ok scLen (fun vs H Q E h => ?_) (fun cdv A outer s H vs Q E hr h => ?_)
  · obtain ⟨p, r, rfl, _⟩ := h
    rfl
  · obtain ⟨p, r, rfl, ⟨dx, d, g, hp, ⟨kvs, ed, hw⟩, _, ok⟩, q⟩ := h
    have hu := hu_of hr
    have sgl : r.sg.length ≤ sizeLine := Nat.le_trans (sg_len ok.sg).2 (by decide)
    obtain ⟨x0, hx0, mx0⟩ := sg_head ok.sg
    obtain ⟨l0, hl0, ll0, lq0⟩ := ok.W.has mx0
    obtain ⟨p0, g0, r0⟩ := ways_get hw (ok.W.nodup ok.sg) hl0
    have G0 : DGet H d (.str (one x0)) (some (.ref p0)) := by
      have := DGet.k (k := (Sum.inr (one x0) : Key)) ed
      rw [g0] at this
      exact this
    refine ⟨_, (pss_one (ps_ret (pe_callB call_len_seq (by rfl) T.len PySem.boot_len (pa_cons (pe_dget hu (pe_fld (pv 0) rfl) (pe_ix ix_str (pe_fld (pv 0) rfl) pe_int (fun _ _ => rfl)) (fun _ _ => rfl)) pa_nil)))), ?_⟩
    refine ⟨_, rfl, p, C, dx, _, _, rfl, hp, W0.cl, W0.nM, rfl, _, rfl, p, C, dx, _, _, rfl, hp, W0.cl, W0.nL, rfl, r.sg, 0, x0, rfl, rfl, sgl, atI_nat (j := 0) hx0, d, _, rfl, G0, p0, _, rfl, .inr (SqT.of r0), ?_⟩
    rw [List.length_map, ll0]
    exact q
abbrev nLed2 : List Str := ["self", "state", "text", "led", "letter"]
def spLed2 (C : Addr) : Sp := fun vs H Q _ => ∃ (p : Addr) (r : Rdr) (q : Nat) (z : Str), vs = [.ref p, .int (q : Int), .str z] ∧ RdAt C H p r ∧ q < r.n ∧ Over r.sg z ∧ (run r.W q (cds z) < r.n → Q (.int (run r.W q (cds z) : Int)) H)
theorem scLed2 : FnScope nLed2 ["self", "state", "text"] (defScope sLed2) := ⟨rfl, rfl, rfl, by decide +kernel, rfl, by decide +kernel, by decide +kernel⟩
theorem run_snoc (W : List Way) (q : Nat) (l : List Nat) (c : Nat) : run W q (l ++ [c]) = step W (run W q l) c := List.foldl_append ..
theorem ok_led2 {f : Addr} {fd : FuncData} (F : Fun K "_led" "Reader._led" sLed2 f fd) (W0 : WR K mg C) : FnOk P w K mg base CX0 1 f fd ["self", "state", "text"] (spLed2 C) := by
  refine F.ok scLed2 (fun vs H Q E h => ?_) (fun cdv A outer s H vs Q E hr h => ?_)
  · obtain ⟨p, r, q, z, rfl, _⟩ := h
    rfl
  · obtain ⟨p, r, q, z, rfl, ⟨dx, d, g, hp, ⟨kvs, ed, hw⟩, _, ok⟩, hq, hz, qq⟩ := h
    have hu := hu_of hr
    refine ⟨_, (pss_cons (ps_set (i := 3) scLed2.nd rfl (Or.inl rfl) (pv 1))
    (pss_cons (ps_for PassesOwn.never rfl (pi_str (pv 2)) (pg_name (i := 4) scLed2.nd rfl (Or.inl rfl))
      (pss_one (ps_set (i := 3) scLed2.nd rfl (Or.inl rfl) (pe_ix ix_tup (pe_dget hu (pe_fld (pv 0) rfl) (pv 4) (fun _ _ => rfl)) (pv 3) (fun _ _ => rfl)))))
    (pss_one (ps_ret (pv 3))))), ?_⟩
    refine ⟨_, rfl, _, rfl, z, rfl, ?_⟩
    refine Lc.for_text (fun i σ H1 => ∃ t4 : Option V, σ = [some (.ref p), some (.int (q : Int)), some (.str z), some (.int (run r.W q ((cds z).take i) : Int)), t4] ∧ H1 = H ∧ run r.W q ((cds z).take i) < r.n) ⟨none, rfl, rfl, hq⟩ ?_ ?_
    · rintro i c σ H1 hc ⟨t4, rfl, rfl, hlt⟩
      obtain ⟨p1, l1, g1, r1, a1, b1⟩ := step_at ok.W ok.sg hw (hz c (List.mem_of_getElem? hc)) hlt
      have G1 : DGet H1 d (.str (one c)) (some (.ref p1)) := by
        have := DGet.k (k := (Sum.inr (one c) : Key)) ed
        rw [g1] at this
        exact this
      have e : run r.W q ((cds z).take (i + 1)) = step r.W (run r.W q ((cds z).take i)) c := by
        rw [List.take_add_one, hc]
        exact run_snoc ..
      refine ⟨_, rfl, p, C, dx, _, _, rfl, hp, W0.cl, W0.nM, rfl, _, rfl, d, _, rfl, G1, _, rfl, p1, _, _, _, rfl, rfl, SqT.of r1, atI_nat a1, some (.str (one c)), ?_, rfl, by rw [e]; exact b1⟩
      rw [e]
      rfl
    · rintro σ H1 ⟨t4, rfl, rfl, hlt⟩
      rw [List.take_of_length_le (Nat.le_refl _)] at hlt ⊢
      exact ⟨_, rfl, qq hlt⟩
end
end K24

set_option Elab.async false
set_option linter.all false
set_option maxRecDepth 100000
set_option maxHeartbeats 6400000
namespace K24
open PySem L2 Tx Tg Tm Da RZ
structure LenR (P : Program) (w : World) (K : PySem.W.Frag) (mg : Str → Option Value) (base : Heap) (C f : Addr) (d : FuncData) : Prop where
  g : FnOk P w K mg base CX0 1 f d ["self"] (spLen C)
  b : Binds K d ["self"] []
  s : PySem.W.findIn K (.ref C) "__len__" = some (some (.ref f))
  fn : PySem.W.isFn K (.ref f) = true
structure LedR (P : Program) (w : World) (K : PySem.W.Frag) (mg : Str → Option Value) (base : Heap) (C f : Addr) (d : FuncData) : Prop where
  g : FnOk P w K mg base CX0 1 f d ["self", "state", "text"] (spLed2 C)
  b : Binds K d ["self", "state", "text"] []
  m : Meth K C "_led" f
section
variable {P : Program} {w : World} {K : PySem.W.Frag} {mg : Str → Option Value} {base : Heap} {C : Addr} {fI fH fL fC fT fS fR fM fY fX fN fD : Addr} {dI dH dL dC dT dS dR dM dY dX dN dD : FuncData}
theorem run_lt {r : Rdr} (ok : okR r) : ∀ {l : List Nat} {q : Nat}, q < r.n → (∀ c ∈ l, c ∈ cds r.sg) → run r.W q l < r.n
  | [], _, hq, _ => hq
  | c :: l, q, hq, h => by
    obtain ⟨x, hx, h1, h2⟩ := ok.W.has (h c List.mem_cons_self)
    have er := row_eq (ok.W.nodup ok.sg) hx
    refine run_lt ok (l := l) (q := step r.W q c) ?_ fun c hc => h c (List.mem_cons_of_mem _ hc)
    unfold step
    rw [er, List.getD_eq_getElem?_getD, List.getElem?_eq_getElem (by omega)]
    exact h2 _ (List.getElem_mem _)
def spLed (C : Addr) : Sp := fun vs H Q _ => ∃ (p : Addr) (r : Rdr) (q : Nat) (z : Str), vs = [.ref p, .int (q : Int), .str z] ∧ RdAt C H p r ∧ q < r.n ∧ Over r.sg z ∧ z.length ≤ 4000 ∧ ∀ H', Same H H' → Q (.int (run r.W q (cds z) : Int)) H'
theorem scLed : FnScope ["self", "state", "text"] ["self", "state", "text"] (defScope sLed) := ⟨rfl, rfl, rfl, by decide +kernel, rfl, by decide +kernel, by decide +kernel⟩
theorem ok_led {f : Addr} {fd : FuncData} (F : Fun K "led" "Reader.led" sLed f fd) (T : Txt K mg) (W0 : WR K mg C) (B : LowR K mg fI fH fL fC fT fS fR fM fY fX dI dH dL dC dT dS dR dM dY dX) (N : LenR P w K mg base C fN dN) (L2' : LedR P w K mg base C fD dD) :
    FnOk P w K mg base CX0 6 f fd ["self", "state", "text"] (spLed C) := by
  have GS := ok_isstate (P := P) (w := w) (base := base) B.DS.F T B.L.DI
  have GX := ok_ctext (P := P) (w := w) (base := base) B.DX.F T B.L
  refine F.ok scLed (fun vs H Q E h => ?_) (fun cdv A outer s H vs Q E hr h => ?_)
  · obtain ⟨p, r, q, z, rfl, _⟩ := h
    rfl
  · obtain ⟨p, r, q, z, rfl, hP, hq, hz, lz, qq⟩ := h
    refine ⟨_, (pss_cons (ps_if (pt_not (pt_val (pe_call GS (hr.mono (by decide)) (by rfl) B.DS.m B.DS.F.kp B.DS.b .nil pass0 (pa_cons (pv 1) (pa_cons (pe_callB (Ow.len_own N.g (hr.mono (by decide)) N.s N.fn N.b pass0) (by rfl) T.len PySem.boot_len (pa_cons (pv 0) pa_nil)) pa_nil))))) (pss_one ps_never) pss_nil)
    (pss_cons (ps_expr (pe_call GX (hr.mono (by decide)) (by rfl) B.DX.m B.DX.F.kp B.DX.b .nil pass0 (pa_cons (pe_fld (pv 0) rfl) (pa_cons (pv 2) pa_nil))))
    (pss_one (ps_ret (pe_meth (pv 0) W0.cl L2'.m L2'.g (hr.mono (by decide)) L2'.b .nil pass0 (pa_cons (pv 1) (pa_cons (pv 2) pa_nil))))))), ?_⟩
    obtain ⟨dx, d, g, hp, _⟩ := id hP
    refine ⟨_, rfl, _, rfl, p, dx, _, rfl, hp, p, r, rfl, hP, _, rfl, by omega, by have := hP.ok.W.most; omega, q, r.n, rfl, hq, Nat.le_trans hP.ok.W.most (by decide), _, rfl, iteF ?_⟩
    refine ⟨_, rfl, p, C, dx, _, _, rfl, hp, W0.cl, W0.nL, rfl, _, rfl, r.sg, z, rfl, hP.ok.sg, hz, lz, fun H1 s1 => ?_⟩
    exact ⟨_, rfl, p, dx, _, rfl, s1 _ _ hp, rfl, _, rfl, _, rfl, p, r, q, z, rfl, hP.same s1, hq, hz, fun _ => qq H1 s1⟩
def yesOf (r : Rdr) : PyData → Bool
  | .str z => decide (run r.W 0 (cds z) ∈ r.G)
  | _ => false
def spIn (C : Addr) : Sp := fun vs H Q _ => ∃ (p : Addr) (r : Rdr) (v : V) (d : PyData), vs = [.ref p, v] ∧ RdAt C H p r ∧ Val H v d ∧ Ok d ∧ Q (.bl (has r.sg 4000 d && yesOf r d)) H
theorem scIn : FnScope ["self", "value"] ["self", "value"] (defScope sIn) := ⟨rfl, rfl, rfl, by decide +kernel, rfl, by decide +kernel, by decide +kernel⟩
theorem ok_in {f : Addr} {fd : FuncData} (F : Fun K "__contains__" "Reader.__contains__" sIn f fd) (T : Txt K mg) (W0 : WR K mg C) (B : LowR K mg fI fH fL fC fT fS fR fM fY fX dI dH dL dC dT dS dR dM dY dX) (L2' : LedR P w K mg base C fD dD) :
    FnOk P w K mg base CX0 2 f fd ["self", "value"] (spIn C) := by
  have GH := ok_has (P := P) (w := w) (base := base) B.L.DH.F T
  refine F.ok scIn (fun vs H Q E h => ?_) (fun cdv A outer s H vs Q E hr h => ?_)
  · obtain ⟨p, r, v, d, rfl, _⟩ := h
    rfl
  · obtain ⟨p, r, v, d, rfl, hP, hv, hd, q⟩ := h
    obtain ⟨tn, hn⟩ := T.mText
    refine ⟨_, (pss_one (ps_ret (pe_and (pe_call GH (hr.mono (by decide)) (by rfl) B.L.DH.m B.L.DH.F.kp B.L.DH.b .nil pass0 (pa_cons (pv 1) (pa_cons (pe_fld (pv 0) rfl) (pa_cons (pe_glob (v := .int 4000) rfl hn ⟨_, rfl⟩) pa_nil)))) (pe_one (pe_cmpR op_in_seq (pe_meth (pv 0) W0.cl L2'.m L2'.g (hr.mono (by decide)) L2'.b .nil pass0 (pa_cons pe_int (pa_cons (pv 1) pa_nil))) (pe_fld (pv 0) rfl) (by rfl)))))), ?_⟩
    obtain ⟨dx, d', g, hp, hm, hg, ok⟩ := id hP
    refine ⟨_, rfl, _, rfl, p, C, dx, _, _, rfl, hp, W0.cl, W0.nL, rfl, v, d, r.sg, 4000, rfl, hv, hd, _, rfl, ?_⟩
    cases hh : has r.sg 4000 d with
    | false =>
      rw [hh, Bool.false_and] at q
      exact iteF q
    | true =>
      rw [hh, Bool.true_and] at q
      refine iteT ?_
      cases hv with
      | str z =>
        have ho : Over r.sg z := by
          have hh : (decide (z.length ≤ 4000) && only z r.sg) = true := hh
          rw [Bool.and_eq_true] at hh
          exact only_iff.mp hh.2
        refine ⟨_, rfl, p, dx, _, rfl, hp, rfl, _, rfl, p, r, 0, z, rfl, hP, ok.W.one, ho, fun hlt => ?_⟩
        refine ⟨_, rfl, p, C, dx, _, _, rfl, hp, W0.cl, W0.nY, rfl, g, natsV r.G, rfl, .inr (SqT.of hg), rfl, List.all_eq_true.mpr (flat_nats r.G), ?_⟩
        have e : (if false = true then !inV (V.int (run r.W 0 (cds z) : Int)) (natsV r.G) else inV (V.int (run r.W 0 (cds z) : Int)) (natsV r.G)) = yesOf r (.str z) := inV_nats _ _
        rw [e]
        exact q
      | _ => cases hh
/-- two readers are one -/
def reqB (r r' : Rdr) : Bool := decide (r.sg = r'.sg ∧ r.W = r'.W ∧ r.G = r'.G)
def spEq (C : Addr) : Sp := fun vs H Q _ => ∃ (p o : Addr) (r r' : Rdr), vs = [.ref p, .ref o] ∧ RdAt C H p r ∧ RdAt C H o r' ∧ Q (.bl (reqB r r')) H
theorem scEq : FnScope ["self", "other"] ["self", "other"] (defScope sEq) := ⟨rfl, rfl, rfl, by decide +kernel, rfl, by decide +kernel, by decide +kernel⟩
theorem ok_eq {f : Addr} {fd : FuncData} (F : Fun K "__eq__" "Reader.__eq__" sEq f fd) (T : Txt K mg) (W0 : WR K mg C) : FnOk P w K mg base CX0 1 f fd ["self", "other"] (spEq C) := by
  refine F.ok scEq (fun vs H Q E h => ?_) (fun cdv A outer s H vs Q E hr h => ?_)
  · obtain ⟨p, o, r, r', rfl, _⟩ := h
    rfl
  · obtain ⟨p, o, r, r', rfl, hP, hO, q⟩ := h
    obtain ⟨dx, d, g, hp, hm, hg, ok⟩ := id hP
    obtain ⟨dy, d', g', ho, hm', hg', ok'⟩ := id hO
    refine ⟨_, (pss_one (ps_ret (pe_and (pe_callB call_isi (by rfl) T.isi (by decide +kernel) (pa_cons (pv 1) (pa_cons (pe_glob (v := .ref C) (by rfl) W0.gR rfl) pa_nil))) (pe_and (pe_cmpR op_eq (pe_fld (pv 0) rfl) (pe_fld (pv 1) rfl) (nomark _)) (pe_and (pe_cmpR (Da.op_eqK hr.units) (pe_fld (pv 0) rfl) (pe_fld (pv 1) rfl) (nomark _)) (pe_one (pe_cmpR (op_eqD hr.units) (pe_fld (pv 0) rfl) (pe_fld (pv 1) rfl) (nomark _)))))))), ?_⟩
    refine ⟨_, rfl, _, _, _, _, _, rfl, .own C, W0.tyR _ _ _ _ ho, W0.iRR, true, rfl, iteT ?_⟩
    refine ⟨_, rfl, p, C, dx, _, _, rfl, hp, W0.cl, W0.nL, rfl, _, rfl, o, C, dy, _, _, rfl, ho, W0.cl, W0.nL, rfl, rfl, _, rfl, ?_⟩
    have dl : decide (V.str r.sg = V.str r'.sg) = decide (r.sg = r'.sg) := decide_eq_decide.mpr ⟨fun e => by injection e, fun e => by rw [e]⟩
    rw [dl]
    by_cases e1 : r.sg = r'.sg
    · rw [decide_eq_true e1]
      refine iteT ?_
      have ek : r.W.map (·.1) = r'.W.map (·.1) := by rw [ok.ord, ok'.ord, e1]
      refine ⟨_, rfl, p, C, dx, _, _, rfl, hp, W0.cl, W0.nM, rfl, _, rfl, o, C, dy, _, _, rfl, ho, W0.cl, W0.nM, rfl, waysD r.W, waysD r'.W, mov_dr hm, mov_dr hm', ways_alike ek, Nat.le_trans (ways_deep _) (by decide), _, rfl, ?_⟩
      rw [ways_dq ek]
      by_cases e2 : r.W = r'.W
      · rw [decide_eq_true e2]
        refine iteT ?_
        refine ⟨_, rfl, p, C, dx, _, _, rfl, hp, W0.cl, W0.nY, rfl, _, rfl, o, C, dy, _, _, rfl, ho, W0.cl, W0.nY, rfl, .tuple (natsD r.G), .tuple (natsD r'.G), .tup (SqT.of hg) (nats_dp _ _ _), .tup (SqT.of hg') (nats_dp _ _ _), nats_shaped _, nats_shaped _, ?_⟩
        have e3 : PyData.eqv (.tuple (natsD r.G)) (.tuple (natsD r'.G)) = reqB r r' := (nats_eqv _ _).trans (decide_eq_decide.mpr ⟨fun e => ⟨e1, e2, e⟩, fun e => e.2.2⟩)
        rw [e3]
        exact q
      · rw [decide_eq_false e2]
        rw [show reqB r r' = false from decide_eq_false fun e => e2 e.2.1] at q
        exact iteF q
    · rw [decide_eq_false e1]
      rw [show reqB r r' = false from decide_eq_false fun e => e1 e.1] at q
      exact iteF q
def spEqX (K : PySem.W.Frag) (C : Addr) : Sp := fun vs H Q _ => ∃ (p : Addr) (v : V) (t : Value), vs = [.ref p, v] ∧ TyX K H v t ∧ PySem.W.kitOne K t (.ref C) = some false ∧ Q (.bl false) H
theorem ok_eqX {f : Addr} {fd : FuncData} (F : Fun K "__eq__" "Reader.__eq__" sEq f fd) (T : Txt K mg) (W0 : WR K mg C) : FnOk P w K mg base CX0 1 f fd ["self", "other"] (spEqX K C) := by
  refine F.ok scEq (fun vs H Q E h => ?_) (fun cdv A outer s H vs Q E hr h => ?_)
  · obtain ⟨p, v, t, rfl, _⟩ := h
    rfl
  · obtain ⟨p, v, t, rfl, ty, k, q⟩ := h
    refine ⟨_, (pss_one (ps_ret (pe_and (pe_callB call_isi (by rfl) T.isi (by decide +kernel) (pa_cons (pv 1) (pa_cons (pe_glob (v := .ref C) (by rfl) W0.gR rfl) pa_nil))) (pe_and (pe_cmpR op_eq (pe_fld (pv 0) rfl) (pe_fld (pv 1) rfl) (nomark _)) (pe_and (pe_cmpR (Da.op_eqK hr.units) (pe_fld (pv 0) rfl) (pe_fld (pv 1) rfl) (nomark _)) (pe_one (pe_cmpR (op_eqD hr.units) (pe_fld (pv 0) rfl) (pe_fld (pv 1) rfl) (nomark _)))))))), ?_⟩
    exact ⟨_, rfl, _, _, _, _, _, rfl, .own C, ty, k, false, rfl, iteF q⟩
def toldR (n : Nat) (sg : Str) : Str := (("reader of " : Str) ++ ((toString (n : Int) : String) : Str) ++ (" states over " : Str)) ++ sg
def spStr (C : Addr) : Sp := fun vs H Q _ => ∃ (p : Addr) (r : Rdr), vs = [.ref p] ∧ RdAt C H p r ∧ Q (.str (toldR r.n r.sg)) H
theorem scStr : FnScope ["self"] ["self"] (defScope sStr) := ⟨rfl, rfl, rfl, by decide +kernel, rfl, by decide +kernel, by decide +kernel⟩
theorem small_text : ∀ n < 61, ((toString ((n : Nat) : Int) : String) : Str).length ≤ 10 ∧ ((n : Nat) : Int).natAbs.log2 < 1920 := by decide +kernel
theorem ok_str {f : Addr} {fd : FuncData} (F : Fun K "__str__" "Reader.__str__" sStr f fd) (T : Txt K mg) (W0 : WR K mg C) (N : LenR P w K mg base C fN dN) : FnOk P w K mg base CX0 3 f fd ["self"] (spStr C) := by
  refine F.ok scStr (fun vs H Q E h => ?_) (fun cdv A outer s H vs Q E hr h => ?_)
  · obtain ⟨p, r, rfl, _⟩ := h
    rfl
  · obtain ⟨p, r, rfl, hP, q⟩ := h
    obtain ⟨dx, d, g, hp, hm, hg, ok⟩ := id hP
    refine ⟨_, (pss_one (ps_ret (pe_joined (.cons pe_str (.cons (pe_fmt (pe_callB (Ow.len_own N.g (hr.mono (by decide)) N.s N.fn N.b pass0) (by rfl) T.len PySem.boot_len (pa_cons (pv 0) pa_nil))) (.cons pe_str (.cons (pe_fmt (pe_fld (pv 0) rfl)) .nil))))))), ?_⟩
    have st := small_text r.n (by have := ok.W.most; omega)
    have sl := (sg_len ok.sg).2
    have l1 : ("reader of " : Str).length = 10 := by decide +kernel
    have l2 : (" states over " : Str).length = 13 := by decide +kernel
    have le : (Str.empty : Str).length = 0 := rfl
    refine ⟨_, rfl, ?_, _, rfl, p, dx, _, rfl, hp, p, r, rfl, hP, _, rfl, by omega, by have := ok.W.most; omega, .inr ⟨_, rfl, st.2, _, rfl, ?_, _, rfl, ?_, _, rfl, p, C, dx, _, _, rfl, hp, W0.cl, W0.nL, rfl, .inl ⟨r.sg, rfl, ?_, r.sg, rfl, ?_, ?_⟩⟩⟩
    · rw [str_len, le, l1]
      decide
    · rw [str_len, str_len, le, l1]
      exact Nat.le_trans (show _ ≤ 100 by omega) (by decide)
    · rw [str_len, str_len, str_len, le, l1, l2]
      exact Nat.le_trans (show _ ≤ 100 by omega) (by decide)
    · exact Nat.le_trans sl (by decide)
    · rw [str_len, str_len, str_len, str_len, le, l1, l2]
      exact Nat.le_trans (show _ ≤ 100 by omega) (by decide)
    · rw [empty_app]
      exact q
end
end K24

set_option Elab.async false
set_option linter.all false
set_option maxRecDepth 100000
set_option maxHeartbeats 6400000
namespace K24
open PySem L2 Tx Tg Tm Da RZ
theorem perm_map {α β : Type} {f : α → β} {ys m : List β} (h : ys.Perm m) : ∀ l : List α, m = l.map f → ∃ t : List α, ys = t.map f ∧ t.Perm l := by
  induction h with
  | nil =>
    intro l e
    exact ⟨[], rfl, by rw [List.map_eq_nil_iff.mp e.symm]⟩
  | cons x _ ih =>
    intro l e
    cases l with
    | nil => cases e
    | cons a l =>
      rw [List.map_cons] at e
      injection e with e1 e2
      obtain ⟨t, h1, h2⟩ := ih l e2
      exact ⟨a :: t, by rw [List.map_cons, e1, h1], h2.cons a⟩
  | swap x y l' =>
    intro l e
    match l, e with
    | a :: b :: l, e =>
      rw [List.map_cons, List.map_cons] at e
      injection e with e1 e2
      injection e2 with e2 e3
      exact ⟨b :: a :: l, by rw [List.map_cons, List.map_cons, e1, e2, e3], .swap _ _ _⟩
  | trans _ _ ih1 ih2 =>
    intro l e
    obtain ⟨t, h1, h2⟩ := ih2 l e
    obtain ⟨u, h3, h4⟩ := ih1 t h1
    exact ⟨u, h3, h4.trans h2⟩
theorem erase_map {α β : Type} (f : α → β) : ∀ (l : List α) (r : Nat), (l.map f).eraseIdx r = (l.eraseIdx r).map f
  | [], _ => rfl
  | _ :: _, 0 => rfl
  | a :: l, r + 1 => by
    show f a :: (l.map f).eraseIdx r = f a :: (l.eraseIdx r).map f
    rw [erase_map f l r]
theorem erase_perm {α : Type} : ∀ (l : List α) (r : Nat) (h : r < l.length), (l[r] :: l.eraseIdx r).Perm l
  | [], _, h => absurd h (Nat.not_lt_zero _)
  | _ :: _, 0, _ => List.Perm.refl _
  | a :: l, r + 1, h => (List.Perm.swap _ _ _).trans ((erase_perm l r (Nat.lt_of_succ_lt_succ h)).cons a)
theorem idx_nat {r n : Nat} (h : r < n) : seqIndex? (r : Int) n = some r := by
  unfold seqIndex?
  have h0 : ¬ ((r : Int) < 0) := by omega
  simp only [h0, if_false]
  have h1 : (0 : Int) ≤ (r : Int) ∧ (r : Int) < (n : Int) := by omega
  simp [h1.2]
  try omega

section
variable {P : Program} {w : World} {K : PySem.W.Frag} {mg : Str → Option Value} {base : Heap}
abbrev nDealt : List Str := ["_law_cup_here", "_law_items", "_law_waits", "_law_turn"]
def spDealtL : Sp := fun vs H Q _ => ∃ (c a : Addr) (xs : List V), vs = [.ref c, .ref a] ∧ Cup H c ∧ H a = some (.lst xs) ∧ a ≠ c ∧ xs.length ≤ 60 ∧ ∀ p H' ys, Cup H' c → But c H H' → H p = none → H' p = some (.lst ys) → ys.Perm xs → Q (.ref p) H'
def spDealtS : Sp := fun vs H Q _ => ∃ (c : Addr) (z : Str), vs = [.ref c, .str z] ∧ Cup H c ∧ z.length ≤ 60 ∧ ∀ p H' ys, Cup H' c → But c H H' → H p = none → H' p = some (.lst ys) → ys.Perm (ones (cds z)) → Q (.ref p) H'
theorem scDealt : FnScope nDealt ["_law_cup_here", "_law_items"] (defScope sDealt) := ⟨rfl, rfl, rfl, by decide +kernel, rfl, by decide +kernel, by decide +kernel⟩
theorem ok_dealtL {f fB : Addr} {fd dB : FuncData} (F : Fun K "_law_dealt" "_law_dealt" sDealt f fd) (T : Txt K mg) (DB : Df K mg "_law_bit" sBit ["_law_cup_here", "_law_much"] fB dB) : FnOk P w K mg base CX0 2 f fd ["_law_cup_here", "_law_items"] spDealtL := by
  have GB := ok_bit (P := P) (w := w) (base := base) DB.F T
  refine F.ok scDealt (fun vs H Q E h => ?_) (fun cdv A outer s H vs Q E hr h => ?_)
  · obtain ⟨c, a, xs, rfl, _⟩ := h
    rfl
  · obtain ⟨c, a, xs, rfl, hc, ha, nac, n9, q⟩ := h
    refine ⟨_, (pss_cons (ps_set (i := 2) scDealt.nd rfl (Or.inr rfl) (pe_callTy call_list_of (by rfl) T.list (by decide +kernel) (pa_cons (pv 1) pa_nil)))
    (pss_one (ps_ret (pe_lc (own := [("_law_turn", 3)]) (g := (gName 3)) (tt := tYes) (te := tBM K "list" rPopAt (tVar 2) (tCons (tCall spBit [] E0 (tCons (tVar 0) (tCons (tCB (fun xs H Q => ∃ p ys, xs = [.ref p] ∧ (SqL K H p ys ∨ SqT K H p ys) ∧ Q (.int ys.length) H) (tCons (tVar 2) tNil)) tNil))) tNil)) rfl scDealt.nd (pi_range1 rfl T.range (pa_cons (pe_callB call_len_seq (by rfl) T.len PySem.boot_len (pa_cons (pv 1) pa_nil)) pa_nil)) (blkOk_by (own := [("_law_turn", 3)]) (N := nDealt) (sc := defScope sDealt) (by decide +kernel)) (fun _ _ _ _ _ => (pg_name (i := 3) scDealt.nd rfl (Or.inl rfl))) (fun _ _ _ _ _ => pts_nil) (fun _ _ _ _ _ => (pe_bm PySem.F.plainAttrs_list PySem.F.slot_list_pop PySem.F.type_list_pop mt_popAt (pv 2) (pa_cons (pe_call GB (hr.mono (by decide)) (by rfl) DB.m DB.F.kp DB.b .nil pass0 (pa_cons (pv 0) (pa_cons (pe_callB call_len_seq (by rfl) T.len PySem.boot_len (pa_cons (pv 2) pa_nil)) pa_nil))) pa_nil))))))), ?_⟩
    refine ⟨_, rfl, a, _, rfl, .inl (SqL.of ha), fun W nW => ?_⟩
    have xl : (xs : List V).length ≤ 60 := n9
    have sW := same_upd (o := .lst xs) nW
    have eW : (upd H W (.lst xs)) W = some (.lst xs) := upd_same
    have nWc : W ≠ c := hc.ne nW
    have hc1 := hc.same sW
    have ha1 := sW _ _ ha
    have hf1 : ∀ b, b ≠ W → H b = none → (upd H W (.lst xs)) b = none := fun b hb e => by rw [upd_ne hb]; exact e
    have nW0 := nW
    generalize upd H W (.lst xs) = H1 at sW eW hc1 ha1 hf1 ⊢
    refine ⟨_, rfl, a, _, rfl, .inl (SqL.of ha1), _, rfl, by omega, by omega, fun D nD => ?_⟩
    have nDc : D ≠ c := hc1.ne nD
    have nDW : D ≠ W := (ne_of_none eW nD).symm
    have nD0 : H D = none := free_none sW nD
    have en : ((xs.length : Nat) : Int).toNat = xs.length := by omega
    rw [en]
    refine lc_range (lo := 0) (n := (xs : List V).length) (fun i H2 => ∃ got left : List V, H2 D = some (.lst got) ∧ H2 W = some (.lst left) ∧ got.length = i ∧ (got ++ left).Perm xs ∧ Cup H2 c ∧ But c H H2)
      ⟨[], xs, upd_same, by rw [upd_ne nDW.symm]; exact eW, rfl, List.Perm.refl _, hc1.same (same_upd nD), But.of (sW.trans (same_upd nD))⟩ ?_ ?_
    · rintro i H2 hi ⟨got, left, eD, eW2, hg, hp, hc2, b2⟩
      have hl : left.length = (xs : List V).length - i := by
        have := hp.length_eq
        rw [List.length_append] at this
        omega
      refine ⟨rfl, iteT (B := False) ?_⟩
      refine ⟨_, rfl, .inl ⟨rfl, _, SqL.of eW2⟩, _, rfl, _, rfl, W, _, rfl, .inl (SqL.of eW2), c, _, rfl, hc2, by omega, ?_, fun r H3 r0 rm hc3 b3 => ?_⟩
      · exact small9000 (by omega) (by omega)
      · obtain ⟨r, rfl⟩ : ∃ k : Nat, r = (k : Int) := ⟨r.toNat, by omega⟩
        have hrl2 : r < left.length := by omega
        have eD3 := b3 _ _ nDc eD
        have eW3 := b3 _ _ nWc eW2
        refine ⟨W, _, (r : Int), r, _, rfl, rfl, eW3, by omega, by omega, idx_nat hrl2, List.getElem?_eq_getElem hrl2, ?_⟩
        refine ⟨got, by rw [upd_ne nDW]; exact eD3, ?_, got ++ [left[r]], left.eraseIdx r, upd_same, ?_, ?_, ?_, ?_, ?_⟩
        · rw [hg]
          exact Nat.lt_of_le_of_lt (show _ ≤ 60 by omega) (by decide)
        · rw [upd_ne nDW.symm, upd_same]
        · rw [List.length_append, hg]
          rfl
        · rw [List.append_assoc]
          exact (List.Perm.append_left got (erase_perm left r hrl2)).trans hp
        · obtain ⟨c0, c1, c2, ec⟩ := hc3
          exact ⟨c0, c1, c2, by rw [upd_ne nDc.symm, upd_ne nWc.symm]; exact ec⟩
        · intro b o n' e
          rw [upd_ne (ne_of_none e nD0), upd_ne (ne_of_none e nW0)]
          exact b3 _ _ n' (b2 _ _ n' e)
    · rintro H2 ⟨got, left, eD, eW2, hg, hp, hc2, b2⟩
      have hl : left = [] := by
        have := hp.length_eq
        rw [List.length_append] at this
        exact List.length_eq_zero_iff.mp (by omega)
      rw [hl, List.append_nil] at hp
      exact q D H2 got hc2 b2 nD0 eD hp

theorem ok_dealtS {f fB : Addr} {fd dB : FuncData} (F : Fun K "_law_dealt" "_law_dealt" sDealt f fd) (T : Txt K mg) (DB : Df K mg "_law_bit" sBit ["_law_cup_here", "_law_much"] fB dB) : FnOk P w K mg base CX0 2 f fd ["_law_cup_here", "_law_items"] spDealtS := by
  have GB := ok_bit (P := P) (w := w) (base := base) DB.F T
  refine F.ok scDealt (fun vs H Q E h => ?_) (fun cdv A outer s H vs Q E hr h => ?_)
  · obtain ⟨c, z, rfl, _⟩ := h
    rfl
  · obtain ⟨c, z, rfl, hc, n9, q⟩ := h
    refine ⟨_, (pss_cons (ps_set (i := 2) scDealt.nd rfl (Or.inr rfl) (pe_callTy (cr_listTx rfl) (by rfl) T.list (by decide +kernel) (pa_cons (pv 1) pa_nil)))
    (pss_one (ps_ret (pe_lc (own := [("_law_turn", 3)]) (g := (gName 3)) (tt := tYes) (te := tBM K "list" rPopAt (tVar 2) (tCons (tCall spBit [] E0 (tCons (tVar 0) (tCons (tCB (fun xs H Q => ∃ p ys, xs = [.ref p] ∧ (SqL K H p ys ∨ SqT K H p ys) ∧ Q (.int ys.length) H) (tCons (tVar 2) tNil)) tNil))) tNil)) rfl scDealt.nd (pi_range1 rfl T.range (pa_cons (pe_callB call_len_str (by rfl) T.len PySem.boot_len (pa_cons (pv 1) pa_nil)) pa_nil)) (blkOk_by (own := [("_law_turn", 3)]) (N := nDealt) (sc := defScope sDealt) (by decide +kernel)) (fun _ _ _ _ _ => (pg_name (i := 3) scDealt.nd rfl (Or.inl rfl))) (fun _ _ _ _ _ => pts_nil) (fun _ _ _ _ _ => (pe_bm PySem.F.plainAttrs_list PySem.F.slot_list_pop PySem.F.type_list_pop mt_popAt (pv 2) (pa_cons (pe_call GB (hr.mono (by decide)) (by rfl) DB.m DB.F.kp DB.b .nil pass0 (pa_cons (pv 0) (pa_cons (pe_callB call_len_seq (by rfl) T.len PySem.boot_len (pa_cons (pv 2) pa_nil)) pa_nil))) pa_nil))))))), ?_⟩
    refine ⟨_, rfl, z, rfl, Nat.le_trans n9 (by decide), fun W nW => ?_⟩
    have xl : ((ones (cds z)) : List V).length ≤ 60 := by rw [List.length_map, cds_len]; exact n9
    have sW := same_upd (o := .lst (ones (cds z))) nW
    have eW : (upd H W (.lst (ones (cds z)))) W = some (.lst (ones (cds z))) := upd_same
    have nWc : W ≠ c := hc.ne nW
    have hc1 := hc.same sW
    have ha1 := trivial
    have hf1 : ∀ b, b ≠ W → H b = none → (upd H W (.lst (ones (cds z)))) b = none := fun b hb e => by rw [upd_ne hb]; exact e
    have nW0 := nW
    generalize upd H W (.lst (ones (cds z))) = H1 at sW eW hc1 ha1 hf1 ⊢
    refine ⟨_, rfl, z, rfl, Nat.le_trans n9 (by decide), _, rfl, by omega, by omega, fun D nD => ?_⟩
    have nDc : D ≠ c := hc1.ne nD
    have nDW : D ≠ W := (ne_of_none eW nD).symm
    have nD0 : H D = none := free_none sW nD
    have en : ((z.length : Nat) : Int).toNat = (ones (cds z)).length := by rw [List.length_map, cds_len]; omega
    rw [en]
    refine lc_range (lo := 0) (n := ((ones (cds z)) : List V).length) (fun i H2 => ∃ got left : List V, H2 D = some (.lst got) ∧ H2 W = some (.lst left) ∧ got.length = i ∧ (got ++ left).Perm (ones (cds z)) ∧ Cup H2 c ∧ But c H H2)
      ⟨[], (ones (cds z)), upd_same, by rw [upd_ne nDW.symm]; exact eW, rfl, List.Perm.refl _, hc1.same (same_upd nD), But.of (sW.trans (same_upd nD))⟩ ?_ ?_
    · rintro i H2 hi ⟨got, left, eD, eW2, hg, hp, hc2, b2⟩
      have hl : left.length = ((ones (cds z)) : List V).length - i := by
        have := hp.length_eq
        rw [List.length_append] at this
        omega
      refine ⟨rfl, iteT (B := False) ?_⟩
      refine ⟨_, rfl, .inl ⟨rfl, _, SqL.of eW2⟩, _, rfl, _, rfl, W, _, rfl, .inl (SqL.of eW2), c, _, rfl, hc2, by omega, ?_, fun r H3 r0 rm hc3 b3 => ?_⟩
      · exact small9000 (by omega) (by omega)
      · obtain ⟨r, rfl⟩ : ∃ k : Nat, r = (k : Int) := ⟨r.toNat, by omega⟩
        have hrl2 : r < left.length := by omega
        have eD3 := b3 _ _ nDc eD
        have eW3 := b3 _ _ nWc eW2
        refine ⟨W, _, (r : Int), r, _, rfl, rfl, eW3, by omega, by omega, idx_nat hrl2, List.getElem?_eq_getElem hrl2, ?_⟩
        refine ⟨got, by rw [upd_ne nDW]; exact eD3, ?_, got ++ [left[r]], left.eraseIdx r, upd_same, ?_, ?_, ?_, ?_, ?_⟩
        · rw [hg]
          exact Nat.lt_of_le_of_lt (show _ ≤ 60 by omega) (by decide)
        · rw [upd_ne nDW.symm, upd_same]
        · rw [List.length_append, hg]
          rfl
        · rw [List.append_assoc]
          exact (List.Perm.append_left got (erase_perm left r hrl2)).trans hp
        · obtain ⟨c0, c1, c2, ec⟩ := hc3
          exact ⟨c0, c1, c2, by rw [upd_ne nDc.symm, upd_ne nWc.symm]; exact ec⟩
        · intro b o n' e
          rw [upd_ne (ne_of_none e nD0), upd_ne (ne_of_none e nW0)]
          exact b3 _ _ n' (b2 _ _ n' e)
    · rintro H2 ⟨got, left, eD, eW2, hg, hp, hc2, b2⟩
      have hl : left = [] := by
        have := hp.length_eq
        rw [List.length_append] at this
        exact List.length_eq_zero_iff.mp (by omega)
      rw [hl, List.append_nil] at hp
      exact q D H2 got hc2 b2 nD0 eD hp

/-! ### drawn states with yes -/
abbrev nSome : List Str := ["_law_cup_here", "_law_many", "_law_at"]
def spSome : Sp := fun vs H Q _ => ∃ (c : Addr) (n : Nat), vs = [.ref c, .int (n : Int)] ∧ Cup H c ∧ n ≤ 60 ∧ ∀ g G H', RowAt H' g G → okG n G → G.length ≤ n → Cup H' c → But c H H' → Q (.ref g) H'
theorem scSome : FnScope nSome ["_law_cup_here", "_law_many"] (defScope sSome) := ⟨rfl, rfl, rfl, by decide +kernel, rfl, by decide +kernel, by decide +kernel⟩
theorem ok_some {f fB : Addr} {fd dB : FuncData} (F : Fun K "_law_some_of" "_law_some_of" sSome f fd) (T : Txt K mg) (DB : Df K mg "_law_bit" sBit ["_law_cup_here", "_law_much"] fB dB) : FnOk P w K mg base CX0 2 f fd ["_law_cup_here", "_law_many"] spSome := by
  have GB := ok_bit (P := P) (w := w) (base := base) DB.F T
  refine F.ok scSome (fun vs H Q E h => ?_) (fun cdv A outer s H vs Q E hr h => ?_)
  · obtain ⟨c, n, rfl, _⟩ := h
    rfl
  · obtain ⟨c, n, rfl, hc, hn, q⟩ := h
    refine ⟨_, (pss_one (ps_ret (pe_callTy call_tuple_of (by rfl) T.tuple (by decide +kernel) (pa_cons (pe_lc (own := [("_law_at", 2)]) (g := (gName 2))   rfl scSome.nd (pi_range1 rfl T.range (pa_cons (pv 1) pa_nil)) (blkOk_by (own := [("_law_at", 2)]) (N := nSome) (sc := defScope sSome) (by decide +kernel)) (fun _ _ _ _ _ => (pg_name (i := 2) scSome.nd rfl (Or.inl rfl))) (fun _ _ _ _ _ => pts_one (pt_cmpR op_eq (pe_call GB (hr.mono (by decide)) (by rfl) DB.m DB.F.kp DB.b .nil pass0 (pa_cons (pv 0) (pa_cons pe_int pa_nil))) pe_int (nomark _))) (fun _ _ _ _ _ => (pv 2))) pa_nil)))), ?_⟩
    refine ⟨_, rfl, _, rfl, by omega, by omega, fun D nD => ?_⟩
    have nDc : D ≠ c := hc.ne nD
    rw [Int.toNat_natCast]
    refine lc_range (lo := 0) (n := n) (fun i H2 => Cup H2 c ∧ But c H H2 ∧ ∃ G, H2 D = some (.lst (natsV G)) ∧ okG i G ∧ G.length ≤ i) ⟨hc.same (same_upd nD), But.of (same_upd nD), [], upd_same, ⟨nofun, .nil⟩, Nat.le_refl _⟩ ?_ ?_
    · rintro i H2 hi ⟨hc2, b2, G, e2, ok, hl⟩
      rw [Int.zero_add]
      refine ⟨rfl, ?_⟩
      refine ⟨_, rfl, c, 2, rfl, hc2, by decide, small9000 (by decide) (by decide), fun r H3 r0 r2 hc3 b3 => ?_⟩
      have e3 := b3 _ _ nDc e2
      refine ⟨rfl, _, rfl, ?_⟩
      by_cases h : r = 0
      · rw [decide_eq_true (congrArg V.int h)]
        refine iteT ?_
        refine ⟨_, rfl, _, e3, ?_, hc3.put nDc, (b2.trans b3).putN nD, G ++ [i], ?_, ⟨fun q hq => ?_, ?_⟩, by rw [List.length_append]; exact Nat.succ_le_succ hl⟩
        · rw [List.length_map]
          exact Nat.lt_of_le_of_lt (show _ ≤ 60 by omega) (by decide)
        · rw [upd_same]
          show _ = some (HO.lst ((G ++ [i]).map _))
          rw [List.map_append]
          rfl
        · rcases List.mem_append.mp hq with hq | hq
          · exact Nat.lt_succ_of_lt (ok.lt q hq)
          · rw [List.mem_singleton.mp hq]
            exact Nat.lt_succ_self _
        · refine List.pairwise_append.mpr ⟨ok.up, List.pairwise_singleton _ _, fun a ha b hb => ?_⟩
          rw [List.mem_singleton.mp hb]
          exact ok.lt a ha
      · rw [decide_eq_false (fun e => h (by injection e))]
        exact iteF ⟨hc3, b2.trans b3, G, e3, ⟨fun q hq => Nat.lt_succ_of_lt (ok.lt q hq), ok.up⟩, Nat.le_succ_of_le hl⟩
    · rintro H2 ⟨hc2, b2, G, e2, ok, hl⟩
      refine ⟨D, _, rfl, .inl ⟨SqL.of e2, fun p np => ?_⟩⟩
      have s3 := same_upd (o := .tup (natsV G)) np
      exact q p G _ upd_same ok hl (hc2.same s3) (b2.trans (But.of s3))
end
end K24

set_option Elab.async false
set_option linter.all false
set_option maxRecDepth 100000
set_option maxHeartbeats 6400000
namespace K24
open PySem L2 Tx Tg Tm Da RZ
/-! ### drawn moves -/
/-- a pair of a letter and its row, as a tuple -/
def PairW (H : Hp) (p : Addr) (w : Way) : Prop := ∃ r, H p = some (.tup [.str (one w.1), .ref r]) ∧ RowAt H r w.2
abbrev PairsW (H : Hp) (ps : List Addr) (W : List Way) : Prop := PySem.W.EachIs (PairW H) ps W
theorem PairsW.keep {H H' : Hp} {ps : List Addr} {W : List Way} (k : KeepT H H') (h : PairsW H ps W) : PairsW H' ps W := PySem.W.EachIs.mono (fun _ _ ⟨r, e, h⟩ => ⟨r, k _ _ e, k _ _ h⟩) h
theorem merge_new : ∀ {kvs : List (Key × V)} {acc : List (Key × V)}, ((acc ++ kvs).map (·.1)).Nodup → mergeK acc kvs = acc ++ kvs
  | [], acc, _ => (List.append_nil acc).symm
  | kv :: kvs, acc, nd => by
    show mergeK (putK acc kv.1 kv.2) kvs = _
    have hn : valV acc kv.1 = none := by
      cases h : valV acc kv.1 with
      | none => rfl
      | some v =>
        rw [List.map_append, List.nodup_append] at nd
        have m1 : kv.1 ∈ acc.map (·.1) := by
          unfold valV at h
          cases hf : acc.find? (fun x => decide (x.1 = kv.1)) with
          | none => rw [hf] at h; cases h
          | some x =>
            have := List.find?_some hf
            exact List.mem_map.mpr ⟨x, List.mem_of_find?_eq_some hf, of_decide_eq_true this⟩
        exact absurd rfl (nd.2.2 _ m1 _ List.mem_cons_self)
    rw [putK_new hn, merge_new (by rw [List.append_assoc]; exact nd), List.append_assoc]
    rfl
theorem refs_of {ps : List Addr} {i : Nat} (h : i < ps.length) : (ps.map V.ref)[i]? = some (.ref ps[i]) := by
  rw [List.getElem?_map, List.getElem?_eq_getElem h]
  rfl
/-- the dict of such pairs -/
def kvsW : List Addr → List Way → List (Key × V)
  | r :: rs, w :: W => (Sum.inr (one w.1), V.ref r) :: kvsW rs W
  | _, _ => []
theorem pairs_dict {K : PySem.W.Frag} {H : Hp} : ∀ {ps : List Addr} {W : List Way}, PairsW H ps W → ∃ kvs, Paired (fun p kv => SqT K H p [kV kv.1, kv.2]) ps kvs ∧ WsAt H kvs W ∧ kvs.map (·.1) = W.map (fun w => (Sum.inr (one w.1) : Key))
  | _, _, .nil => ⟨[], .nil, .nil, rfl⟩
  | _, _, .cons (b := w) ⟨r, e, h⟩ t => by
    obtain ⟨kvs, p1, p2, p3⟩ := pairs_dict (K := K) t
    exact ⟨(Sum.inr (one w.1), .ref r) :: kvs, .cons (SqT.of e) p1, .cons ⟨r, rfl, h⟩ p2, by rw [List.map_cons, p3]; rfl⟩
theorem keys_nodup {sg : Str} {W : List Way} (hs : Signs sg) (e : W.map (·.1) = cds sg) : (W.map (fun w => (Sum.inr (one w.1) : Key))).Nodup := by
  have : W.map (fun w => (Sum.inr (one w.1) : Key)) = (W.map (·.1)).map fun c => (Sum.inr (one c) : Key) := by rw [List.map_map]; rfl
  rw [this, e]
  exact List.Pairwise.map _ (fun a b (h : a ≠ b) e => h (key_one.mp e)) (sg_nodup hs)
/-- dict([..]) of the pairs that a list holds -/
theorem dict_pairs {K : PySem.W.Frag} {H : Hp} {D : Addr} {ps : List Addr} {W : List Way} {sg : Str} {Q : VK} (hs : Signs sg) (e : H D = some (.lst (ps.map V.ref))) (h : PairsW H ps W) (ek : W.map (·.1) = cds sg)
    (q : ∀ d H', Same H H' → MovAt H' d W → Q (.ref d) H') : ∃ (a : Addr) (ps : List Addr) (kvs : List (Key × V)), [V.ref D] = [.ref a] ∧ SqL K H a (ps.map V.ref) ∧ Paired (fun p kv => SqT K H p [kV kv.1, kv.2]) ps kvs ∧
    ∀ p, H p = none → Q (.ref p) (upd H p (.dK (mergeK [] kvs))) := by
  obtain ⟨kvs, p1, p2, p3⟩ := pairs_dict (K := K) h
  refine ⟨D, ps, kvs, rfl, SqL.of e, p1, fun p np => ?_⟩
  have s1 := same_upd (o := .dK (mergeK [] kvs)) np
  refine q p _ s1 ⟨kvs, ?_, p2.keep (.same s1)⟩
  rw [upd_same, merge_new (by rw [List.nil_append, p3]; exact keys_nodup hs ek), List.nil_append]
theorem nats_of {n : Nat} : ∀ {zs : List V}, (∀ (i : Nat) (y : V), zs[i]? = some y → ∃ q : Nat, y = .int (q : Int) ∧ q < n) → ∃ l : List Nat, zs = natsV l ∧ ∀ q ∈ l, q < n
  | [], _ => ⟨[], rfl, nofun⟩
  | z :: zs, h => by
    obtain ⟨q, e, hq⟩ := h 0 z rfl
    obtain ⟨l, e2, h2⟩ := nats_of (zs := zs) fun i y hy => h (i + 1) y hy
    exact ⟨q :: l, by rw [e, e2]; rfl, fun x hx => by
      rcases List.mem_cons.mp hx with rfl | hx
      · exact hq
      · exact h2 x hx⟩
theorem rg_nats (n : Nat) : rgV 0 (n : Int) = natsV (List.range n) := by
  unfold rgV
  have e : ((n : Int) - 0).toNat = n := by omega
  rw [e]
  refine List.map_congr_left fun i _ => ?_
  rw [Int.zero_add]
def rTupOf (K : PySem.W.Frag) : List V → Hp → VK → Prop := fun xs H Q => ∃ p ys, xs = [.ref p] ∧ ((SqL K H p ys ∧ ∀ l, H l = none → Q (.ref l) (upd H l (.tup ys))) ∨ (SqT K H p ys ∧ Q (.ref p) H))
section
variable {P : Program} {w : World} {K : PySem.W.Frag} {mg : Str → Option Value} {base : Heap}
def spWays (most : Nat) : Sp := fun vs H Q _ => ∃ (c : Addr) (sg : Str) (n : Nat), vs = [.ref c, .str sg, .int (n : Int)] ∧ Cup H c ∧ Signs sg ∧ 1 ≤ n ∧ n ≤ most ∧ ∀ d W H', MovAt H' d W → okW n sg W → W.map (·.1) = cds sg → Cup H' c → But c H H' → Q (.ref d) H'
abbrev nAny : List Str := ["_law_cup_here", "_law_signs_here", "_law_many", "_law_sign", "_law_at"]
theorem scAny : FnScope nAny ["_law_cup_here", "_law_signs_here", "_law_many"] (defScope sAny) := ⟨rfl, rfl, rfl, by decide +kernel, rfl, by decide +kernel, by decide +kernel⟩
abbrev nTurning : List Str := ["_law_cup_here", "_law_signs_here", "_law_many", "_law_sign"]
theorem scTurning : FnScope nTurning ["_law_cup_here", "_law_signs_here", "_law_many"] (defScope sTurning) := ⟨rfl, rfl, rfl, by decide +kernel, rfl, by decide +kernel, by decide +kernel⟩
theorem ok_any {f fB : Addr} {fd dB : FuncData} (F : Fun K "_law_any_ways" "_law_any_ways" sAny f fd) (T : Txt K mg) (DB : Df K mg "_law_bit" sBit ["_law_cup_here", "_law_much"] fB dB) : FnOk P w K mg base CX0 2 f fd ["_law_cup_here", "_law_signs_here", "_law_many"] (spWays 60) := by
  have GB := ok_bit (P := P) (w := w) (base := base) DB.F T
  refine F.ok scAny (fun vs H Q E h => ?_) (fun cdv A outer s H vs Q E hr h => ?_)
  · obtain ⟨c, sg, n, rfl, _⟩ := h
    rfl
  · obtain ⟨c, sg, n, rfl, hc, hsg, n1, n60, q⟩ := h
    refine ⟨_, (pss_one (ps_ret (pe_callTy (call_dictP rfl) (by rfl) T.dict (by decide +kernel) (pa_cons (pe_lc (own := [("_law_sign", 3)]) (g := (gName 3)) (tt := tYes) (te := tTup (tCons (tVar 3) (tCons (tCB (rTupOf K) (tCons (tLc (iRng1 (tCons (tVar 2) tNil)) (gName 4) tYes (tCall spBit [] E0 (tCons (tVar 0) (tCons (tVar 2) tNil))) [4]) tNil)) tNil))) rfl scAny.nd (pi_str (pv 1)) (blkOk_by (own := [("_law_sign", 3)]) (N := nAny) (sc := defScope sAny) (by decide +kernel)) (fun _ _ _ _ _ => (pg_name (i := 3) scAny.nd rfl (Or.inl rfl))) (fun _ _ _ _ _ => pts_nil) (fun _ _ _ _ _ => (pe_tup (pa_cons (pv 3) (pa_cons (pe_callTy call_tuple_of (by rfl) T.tuple (by decide +kernel) (pa_cons (pe_lc (own := [("_law_at", 4)]) (g := (gName 4)) (tt := tYes) (te := tCall spBit [] E0 (tCons (tVar 0) (tCons (tVar 2) tNil))) rfl scAny.nd (pi_range1 rfl T.range (pa_cons (pv 2) pa_nil)) (blkOk_by (own := [("_law_at", 4)]) (N := nAny) (by rfl)) (fun _ _ _ _ _ => (pg_name (i := 4) scAny.nd rfl (Or.inl rfl))) (fun _ _ _ _ _ => pts_nil) (fun _ _ _ _ _ => (pe_call GB (hr.mono (by decide)) (by rfl) DB.m DB.F.kp DB.b .nil pass0 (pa_cons (pv 0) (pa_cons (pv 2) pa_nil))))) pa_nil)) pa_nil))))) pa_nil)))), ?_⟩
    refine ⟨_, rfl, sg, rfl, fun D nD => ?_⟩
    have nDc : D ≠ c := hc.ne nD
    refine Lc.lc_text (fun i H2 => Cup H2 c ∧ But c H H2 ∧ ∃ ps W, H2 D = some (.lst (ps.map V.ref)) ∧ PairsW H2 ps W ∧ W.map (·.1) = (cds sg).take i ∧ ∀ w ∈ W, w.2.length = n ∧ ∀ q ∈ w.2, q < n) ⟨hc.same (same_upd nD), But.of (same_upd nD), [], [], upd_same, .nil, rfl, nofun⟩ ?_ ?_
    · rintro i x H2 hx ⟨hc2, b2, ps, W, e2, hps, hW, hr2⟩
      have hi := (List.getElem?_eq_some_iff.mp hx).1
      rw [cds_len] at hi
      have sg3 := (sg_len hsg).2
      have lps : ps.length ≤ 3 := by
        have h1 := hps.length
        have h2 := congrArg List.length hW
        rw [List.length_map, List.length_take] at h2
        omega
      refine ⟨rfl, iteT (B := False) ?_⟩
      refine ⟨_, rfl, _, rfl, _, rfl, by omega, by omega, fun D2 nD2 => ?_⟩
      have nD2c : D2 ≠ c := hc2.ne nD2
      rw [Int.toNat_natCast]
      refine Lc.lcRD (c := c) (I := fun H => Cup H c) (P := fun _ v => ∃ q : Nat, v = .int (q : Int) ∧ q < n) nD2 nD2c (hc2.same (same_upd nD2)) (Nat.lt_of_le_of_lt n60 (by decide)) (fun _ => rfl) (fun H o h => h.put nD2c) ?_ ?_
      · intro i H3 hi hc3 b3 Q' q'
        refine ⟨_, rfl, _, rfl, c, (n : Int), rfl, hc3, by omega, small9000 (by omega) (by omega), fun r H4 r0 r1 hc4 b4 => ?_⟩
        exact q' _ _ ⟨r.toNat, congrArg V.int (by omega), by omega⟩ hc4 b4
      intro H3 zs hc3 b3 e3 lz hz
      have b3 : But c H2 H3 := b3
      obtain ⟨l, rfl, hq⟩ := nats_of hz
      have hl : l.length = n := by rw [List.length_map] at lz; exact lz
      refine ⟨D2, _, rfl, .inl ⟨SqL.of e3, fun rr nr => ?_⟩⟩
      have s35 := same_upd (o := .tup (natsV l)) nr
      have hrr : RowAt (upd H3 rr (.tup (natsV l))) rr l := upd_same
      have hc5 := hc3.same s35
      generalize upd H3 rr (.tup (natsV l)) = H5 at s35 hrr hc5 ⊢
      have e5 := s35 _ _ (b3 _ _ nDc e2)
      have k25 : KeepT H2 H5 := (KeepT.but hc2.noT b3).trans (.same s35)
      refine ⟨(by show 2 ≤ sizeLine; decide), fun p np => ?_⟩
      have s6 := same_upd (o := .tup [.str (one x), .ref rr]) np
      refine ⟨ps.map V.ref, s6 _ _ e5, ?_, (hc5.same s6).put nDc, (b2.trans (b3.trans (But.of (s35.trans s6)))).putN nD, ps ++ [p], W ++ [(x, l)], ?_, ?_, ?_, ?_⟩
      · rw [List.length_map]
        exact Nat.lt_of_le_of_lt lps (by decide)
      · rw [upd_same, List.map_append]
        rfl
      · have k7 : KeepT (upd H5 p (.tup [.str (one x), .ref rr])) (upd (upd H5 p (.tup [.str (one x), .ref rr])) D (.lst (ps.map V.ref ++ [V.ref p]))) := KeepT.upd (.lst (s6 _ _ e5))
        exact each_app (hps.keep ((k25.trans (.same s6)).trans k7)) (.cons ⟨rr, k7 _ _ upd_same, k7 _ _ (s6 _ _ hrr)⟩ .nil)
      · rw [List.map_append, hW, List.take_add_one, hx]
        rfl
      · intro w hw
        rcases List.mem_append.mp hw with hw | hw
        · exact hr2 w hw
        · rw [List.mem_singleton.mp hw]
          exact ⟨hl, hq⟩
    · rintro H2 ⟨hc2, b2, ps, W, e2, hps, hW, hr2⟩
      rw [List.take_of_length_le (Nat.le_refl _)] at hW
      exact dict_pairs (K := K) hsg e2 hps hW fun d H3 s3 hd => q d W H3 hd ⟨by rw [hW], hr2, n1, n60⟩ hW (hc2.same s3) (b2.trans (But.of s3))

theorem ok_turning {f fB fD : Addr} {fd dB dD : FuncData} (F : Fun K "_law_turning_ways" "_law_turning_ways" sTurning f fd) (T : Txt K mg) (DB : Df K mg "_law_bit" sBit ["_law_cup_here", "_law_much"] fB dB) (DD : Df K mg "_law_dealt" sDealt ["_law_cup_here", "_law_items"] fD dD) : FnOk P w K mg base CX0 3 f fd ["_law_cup_here", "_law_signs_here", "_law_many"] (spWays 60) := by
  have GB := ok_bit (P := P) (w := w) (base := base) DB.F T
  have GD := ok_dealtL (P := P) (w := w) (base := base) DD.F T DB
  refine F.ok scTurning (fun vs H Q E h => ?_) (fun cdv A outer s H vs Q E hr h => ?_)
  · obtain ⟨c, sg, n, rfl, _⟩ := h
    rfl
  · obtain ⟨c, sg, n, rfl, hc, hsg, n1, n60, q⟩ := h
    refine ⟨_, (pss_one (ps_ret (pe_callTy (call_dictP rfl) (by rfl) T.dict (by decide +kernel) (pa_cons (pe_lc (own := [("_law_sign", 3)]) (g := (gName 3)) (tt := tYes) (te := tTup (tCons (tVar 3) (tCons (tCB (rTupOf K) (tCons (tCall spDealtL [] E0 (tCons (tVar 0) (tCons (tLstRg (tRg1 (tVar 2))) tNil))) tNil)) tNil))) rfl scTurning.nd (pi_str (pv 1)) (blkOk_by (own := [("_law_sign", 3)]) (N := nTurning) (sc := defScope sTurning) (by decide +kernel)) (fun _ _ _ _ _ => (pg_name (i := 3) scTurning.nd rfl (Or.inl rfl))) (fun _ _ _ _ _ => pts_nil) (fun _ _ _ _ _ => (pe_tup (pa_cons (pv 3) (pa_cons (pe_callTy call_tuple_of (by rfl) T.tuple (by decide +kernel) (pa_cons (pe_call GD (hr.mono (by decide)) (by rfl) DD.m DD.F.kp DD.b .nil pass0 (pa_cons (pv 0) (pa_cons (pe_listRg rfl (by rfl) T.list (prg_1 (by rfl) T.range (pv 2))) pa_nil))) pa_nil)) pa_nil))))) pa_nil)))), ?_⟩
    refine ⟨_, rfl, sg, rfl, fun D nD => ?_⟩
    have nDc : D ≠ c := hc.ne nD
    refine Lc.lc_text (fun i H2 => Cup H2 c ∧ But c H H2 ∧ ∃ ps W, H2 D = some (.lst (ps.map V.ref)) ∧ PairsW H2 ps W ∧ W.map (·.1) = (cds sg).take i ∧ ∀ w ∈ W, w.2.length = n ∧ ∀ q ∈ w.2, q < n) ⟨hc.same (same_upd nD), But.of (same_upd nD), [], [], upd_same, .nil, rfl, nofun⟩ ?_ ?_
    · rintro i x H2 hx ⟨hc2, b2, ps, W, e2, hps, hW, hr2⟩
      have hi := (List.getElem?_eq_some_iff.mp hx).1
      rw [cds_len] at hi
      have sg3 := (sg_len hsg).2
      have lps : ps.length ≤ 3 := by
        have h1 := hps.length
        have h2 := congrArg List.length hW
        rw [List.length_map, List.length_take] at h2
        omega
      refine ⟨rfl, iteT (B := False) ?_⟩
      refine ⟨_, rfl, _, rfl, _, rfl, _, rfl, RgOk.of_le (Int.le_refl 0) (by omega) (by decide) (by omega), fun L nL => ?_⟩
      rw [rg_nats]
      have sL := same_upd (o := .lst (natsV (List.range n))) nL
      refine ⟨c, L, natsV (List.range n), rfl, hc2.same sL, upd_same, hc2.ne nL, by rw [List.length_map, List.length_range]; exact n60, fun p H3 ys hc3 b3' np e3 perm => ?_⟩
      obtain ⟨l, rfl, hpl⟩ := perm_map perm _ rfl
      have b3 : But c H2 H3 := (But.of sL).trans b3'
      have hl : l.length = n := by rw [hpl.length_eq, List.length_range]
      have hq : ∀ q ∈ l, q < n := fun q hq => List.mem_range.mp (hpl.mem_iff.mp hq)
      refine ⟨p, _, rfl, .inl ⟨SqL.of e3, fun rr nr => ?_⟩⟩
      have s35 := same_upd (o := .tup (natsV l)) nr
      have hrr : RowAt (upd H3 rr (.tup (natsV l))) rr l := upd_same
      have hc5 := hc3.same s35
      generalize upd H3 rr (.tup (natsV l)) = H5 at s35 hrr hc5 ⊢
      have e5 := s35 _ _ (b3 _ _ nDc e2)
      have k25 : KeepT H2 H5 := (KeepT.but hc2.noT b3).trans (.same s35)
      refine ⟨(by show 2 ≤ sizeLine; decide), fun p np => ?_⟩
      have s6 := same_upd (o := .tup [.str (one x), .ref rr]) np
      refine ⟨ps.map V.ref, s6 _ _ e5, ?_, (hc5.same s6).put nDc, (b2.trans (b3.trans (But.of (s35.trans s6)))).putN nD, ps ++ [p], W ++ [(x, l)], ?_, ?_, ?_, ?_⟩
      · rw [List.length_map]
        exact Nat.lt_of_le_of_lt lps (by decide)
      · rw [upd_same, List.map_append]
        rfl
      · have k7 : KeepT (upd H5 p (.tup [.str (one x), .ref rr])) (upd (upd H5 p (.tup [.str (one x), .ref rr])) D (.lst (ps.map V.ref ++ [V.ref p]))) := KeepT.upd (.lst (s6 _ _ e5))
        exact each_app (hps.keep ((k25.trans (.same s6)).trans k7)) (.cons ⟨rr, k7 _ _ upd_same, k7 _ _ (s6 _ _ hrr)⟩ .nil)
      · rw [List.map_append, hW, List.take_add_one, hx]
        rfl
      · intro w hw
        rcases List.mem_append.mp hw with hw | hw
        · exact hr2 w hw
        · rw [List.mem_singleton.mp hw]
          exact ⟨hl, hq⟩
    · rintro H2 ⟨hc2, b2, ps, W, e2, hps, hW, hr2⟩
      rw [List.take_of_length_le (Nat.le_refl _)] at hW
      exact dict_pairs (K := K) hsg e2 hps hW fun d H3 s3 hd => q d W H3 hd ⟨by rw [hW], hr2, n1, n60⟩ hW (hc2.same s3) (b2.trans (But.of s3))

end
end K24

set_option Elab.async false
set_option linter.all false
set_option maxRecDepth 100000
set_option maxHeartbeats 6400000
namespace K24
open PySem L2 Tx Tg Tm Da RZ
theorem WsAt.put {H H' : Hp} {kvs : List (Key × V)} {W : List Way} {c p : Nat} {l : List Nat} (k : KeepT H H') (h : WsAt H kvs W) (hr : RowAt H' p l) : WsAt H' (kvs ++ [(Sum.inr (one c), .ref p)]) (W ++ [(c, l)]) := each_app (h.keep k) (.cons ⟨p, rfl, hr⟩ .nil)
theorem not_taken {l : List Nat} {i c : Nat} (nd : l.Nodup) (h : l[i]? = some c) : c ∉ l.take i := fun hm => by
  have hi := (List.getElem?_eq_some_iff.mp h).1
  obtain ⟨j, hj⟩ := List.mem_iff_getElem?.mp hm
  have hj1 := (List.getElem?_eq_some_iff.mp hj).1
  rw [List.length_take] at hj1
  rw [List.getElem?_take, if_pos (by omega)] at hj
  have := (List.getElem?_inj (by omega) nd).mp (hj.trans h.symm)
  omega
section
variable {P : Program} {w : World} {K : PySem.W.Frag} {mg : Str → Option Value} {base : Heap}
abbrev nRing : List Str := ["_law_cup_here", "_law_signs_here", "_law_many", "_law_found", "_law_sign", "_law_step", "_law_at"]
theorem scRing : FnScope nRing ["_law_cup_here", "_law_signs_here", "_law_many"] (defScope sRing) := ⟨rfl, rfl, rfl, by decide +kernel, rfl, by decide +kernel, by decide +kernel⟩
theorem ok_ring {f fB : Addr} {fd dB : FuncData} (F : Fun K "_law_ring_ways" "_law_ring_ways" sRing f fd) (T : Txt K mg) (DB : Df K mg "_law_bit" sBit ["_law_cup_here", "_law_much"] fB dB) : FnOk P w K mg base CX0 2 f fd ["_law_cup_here", "_law_signs_here", "_law_many"] (spWays 60) := by
  have GB := ok_bit (P := P) (w := w) (base := base) DB.F T
  refine F.ok scRing (fun vs H Q E h => ?_) (fun cdv A outer s H vs Q E hr h => ?_)
  · obtain ⟨c, sg, n, rfl, _⟩ := h
    rfl
  · obtain ⟨c, sg, n, rfl, hc, hsg, n1, n60, q⟩ := h
    have hu := hu_of hr
    refine ⟨_, (pss_cons (ps_set (i := 3) scRing.nd rfl (Or.inl rfl) pe_dnewK)
    (pss_cons (ps_for PassesOwn.never rfl (pi_str (pv 1)) (pg_name (i := 4) scRing.nd rfl (Or.inl rfl))
      (pss_cons (ps_set (i := 5) scRing.nd rfl (Or.inr rfl) (pe_call GB (hr.mono (by decide)) (by rfl) DB.m DB.F.kp DB.b .nil pass0 (pa_cons (pv 0) (pa_cons (pv 2) pa_nil))))
      (pss_one (ps_dput hu (pv 3) (pv 4) (pe_callTy call_tuple_of (by rfl) T.tuple (by decide +kernel) (pa_cons (pe_lc (own := [("_law_at", 6)]) (g := (gName 6)) (tt := tYes)  rfl scRing.nd (pi_range1 rfl T.range (pa_cons (pv 2) pa_nil)) (blkOk_by (own := [("_law_at", 6)]) (N := nRing) (sc := defScope sRing) (by decide +kernel)) (fun _ _ _ _ _ => (pg_name (i := 6) scRing.nd rfl (Or.inl rfl))) (fun _ _ _ _ _ => pts_nil) (fun _ _ _ _ _ => (pe_op op_modN (pe_callTy call_int1 (by rfl) T.int (by decide +kernel) (pa_cons (pe_op op_add (pv 6) (pv 5)) pa_nil)) (pv 2)))) pa_nil)) rfl))))
    (pss_one (ps_ret (pv 3))))), ?_⟩
    intro F nF
    have nFc : F ≠ c := hc.ne nF
    refine ⟨_, rfl, sg, rfl, ?_⟩
    refine Lc.for_text (fun i σ H1 => ∃ (t4 t5 : Option V) (kvs : List (Key × V)) (W : List Way), σ = [some (.ref c), some (.str sg), some (.int (n : Int)), some (.ref F), t4, t5, none] ∧ Cup H1 c ∧ But c H H1 ∧ H1 F = some (.dK kvs) ∧ WsAt H1 kvs W ∧ W.map (·.1) = (cds sg).take i ∧ ∀ w ∈ W, w.2.length = n ∧ ∀ q ∈ w.2, q < n)
      ⟨none, none, [], [], rfl, hc.same (same_upd nF), But.of (same_upd nF), upd_same, .nil, rfl, nofun⟩ ?_ ?_
    · rintro i x σ H1 hx ⟨t4, t5, kvs, W, rfl, hc1, b1, e1, hw, hW, hr2⟩
      have hi := (List.getElem?_eq_some_iff.mp hx).1
      rw [cds_len] at hi
      have sg3 := (sg_len hsg).2
      refine ⟨_, rfl, _, rfl, c, (n : Int), rfl, hc1, by omega, small9000 (by omega) (by omega), fun r H2 r0 r1 hc2 b2 => ?_⟩
      obtain ⟨r, rfl⟩ : ∃ k : Nat, r = (k : Int) := ⟨r.toNat, by omega⟩
      have e2 := b2 _ _ nFc e1
      have hw2 := hw.keep (KeepT.but hc1.noT b2)
      refine ⟨_, rfl, _, rfl, by omega, by omega, fun D nD => ?_⟩
      rw [Int.toNat_natCast]
      refine Lc.lcRS (ys := natsV ((List.range n).map fun i => (i + r) % n)) nD (by rw [List.length_map, List.length_map, List.length_range]) (Nat.lt_of_le_of_lt n60 (by decide)) (fun _ => rfl) ?_ ?_
      · intro j y H3 hj hy s3 Q' q'
        rw [List.getElem?_map, List.getElem?_map, List.getElem?_range hj] at hy
        cases hy
        refine ⟨_, rfl, _, rfl, _, _, rfl, rfl, .inl ⟨_, rfl, _, rfl, _, _, rfl, rfl, (show (n : Int) ≠ 0 by omega), ?_⟩⟩
        have e : V.int (Int.fmod (0 + (j : Int) + (r : Int)) (n : Int)) = V.int (((j + r) % n : Nat) : Int) := congrArg V.int (by rw [Int.zero_add, Int.fmod_eq_emod_of_nonneg _ (by omega)]; rfl)
        show Q' (V.int (Int.fmod (0 + (j : Int) + (r : Int)) (n : Int))) H3
        rw [e]
        exact q' H3 (Same.refl _)
      · intro H3 s3 e3
        refine ⟨D, _, rfl, .inl ⟨SqL.of e3, fun rr nr => ?_⟩⟩
        have s4 := same_upd (o := .tup (natsV ((List.range n).map fun i => (i + r) % n))) nr
        have hrr : RowAt (upd H3 rr (.tup (natsV ((List.range n).map fun i => (i + r) % n)))) rr ((List.range n).map fun i => (i + r) % n) := upd_same
        have hc4 := (hc2.same s3).same s4
        have e4 := s4 _ _ (s3 _ _ e2)
        have hw4 := hw2.keep (.same (s3.trans s4))
        have b4 : But c H _ := (b1.trans b2).trans (But.of (s3.trans s4))
        generalize upd H3 rr (.tup (natsV ((List.range n).map fun i => (i + r) % n))) = H4 at hrr hc4 e4 hw4 b4 ⊢
        have nk : valV kvs (Sum.inr (one x) : Key) = none := ways_none hw4 (by rw [hW]; exact not_taken (sg_nodup hsg) hx)
        refine ⟨_, rfl, _, rfl, F, _, rfl, DPut.k (k := (Sum.inr (one x) : Key)) e4 ?_, ?_⟩
        · have h1 := ways_len hw
          have h2 := congrArg List.length hW
          rw [List.length_map, List.length_take] at h2
          exact Nat.lt_of_le_of_lt (show kvs.length ≤ 3 by omega) (by decide)
        have kF : KeepT H4 (upd H4 F (.dK (putK kvs (Sum.inr (one x)) (.ref rr)))) := KeepT.upd (.dK e4)
        refine ⟨_, _, kvs ++ [(Sum.inr (one x), .ref rr)], W ++ [(x, (List.range n).map fun i => (i + r) % n)], rfl, hc4.put nFc, b4.putN nF, by rw [upd_same, putK_new nk], hw4.put kF (kF _ _ hrr), ?_, ?_⟩
        · rw [List.map_append, hW, List.take_add_one, hx]
          rfl
        · intro w hw
          rcases List.mem_append.mp hw with hw | hw
          · exact hr2 w hw
          · rw [List.mem_singleton.mp hw]
            refine ⟨by rw [List.length_map, List.length_range], fun q hq => ?_⟩
            obtain ⟨j, _, rfl⟩ := List.mem_map.mp hq
            exact Nat.mod_lt _ (by omega)
    · rintro σ H1 ⟨t4, t5, kvs, W, rfl, hc1, b1, e1, hw, hW, hr2⟩
      rw [List.take_of_length_le (Nat.le_refl _)] at hW
      exact ⟨_, rfl, q F W H1 ⟨kvs, e1, hw⟩ ⟨by rw [hW], hr2, n1, n60⟩ hW hc1 b1⟩
end
end K24

set_option Elab.async false
set_option linter.all false
set_option maxRecDepth 100000
set_option maxHeartbeats 6400000
namespace K24
open PySem L2 Tx Tg Tm Da RZ
theorem cut_fr {z : Str} (i : Nat) : cds (cutS z (some (i : Int)) none) = (cds z).drop i := by
  unfold cutS
  show (((cds z).drop (HT.sIx z.length 0 (some (i : Int)))).take (HT.sIx z.length z.length none - HT.sIx z.length 0 (some (i : Int)))) = _
  rw [HT.sIx_none, HT.sIx_nat]
  by_cases h : i ≤ z.length
  · rw [Nat.min_eq_left h, List.take_of_length_le (by rw [List.length_drop, cds_len]; omega)]
  · rw [Nat.min_eq_right (by omega), List.drop_of_length_le (by rw [cds_len]; omega), List.drop_of_length_le (by rw [cds_len]; omega), List.take_nil]
/-- a row of the pairs: block i / m and place i % m -/
theorem pair_lt {m a b : Nat} (ha : a < m) (hb : b < m) : m * a + b < m * m := by
  have h1 : m * (a + 1) ≤ m * m := Nat.mul_le_mul_left m ha
  rw [Nat.mul_add, Nat.mul_one] at h1
  omega
theorem pair_head {m i : Nat} (hm : 1 ≤ m) : (m : Int) * Int.fdiv (0 + (i : Int)) (m : Int) + Int.fmod (0 + (i : Int) + 1) (m : Int) = ((m * (i / m) + (i + 1) % m : Nat) : Int) := by
  rw [Int.zero_add, Int.fdiv_eq_ediv_of_nonneg _ (by omega), Int.fmod_eq_emod_of_nonneg _ (by omega)]
  rfl
theorem pair_row {m i s t : Nat} (hm : 1 ≤ m) : Int.fmod (Int.fdiv (0 + (i : Int)) (m : Int) + (s : Int) + (t : Int) * Int.fmod (0 + (i : Int)) (m : Int)) (m : Int) = (((i / m + s + t * (i % m)) % m : Nat) : Int) := by
  rw [Int.zero_add, Int.fdiv_eq_ediv_of_nonneg _ (by omega), Int.fmod_eq_emod_of_nonneg _ (by omega), Int.fmod_eq_emod_of_nonneg _ (by omega)]
  rfl
section
variable {P : Program} {w : World} {K : PySem.W.Frag} {mg : Str → Option Value} {base : Heap}
abbrev nPair : List Str := ["_law_cup_here", "_law_signs_here", "_law_many", "_law_found", "_law_sign", "_law_step", "_law_times", "_law_row", "_law_at", "_law_later"]
theorem scPair : FnScope nPair ["_law_cup_here", "_law_signs_here", "_law_many"] (defScope sPair) := ⟨rfl, rfl, rfl, by decide +kernel, rfl, by decide +kernel, by decide +kernel⟩
def spPair : Sp := fun vs H Q _ => ∃ (c : Addr) (sg : Str) (m : Nat), vs = [.ref c, .str sg, .int (m : Int)] ∧ Cup H c ∧ Signs sg ∧ 1 ≤ m ∧ m ≤ 3 ∧ ∀ d W H', MovAt H' d W → okW (m * m) sg W → W.map (·.1) = cds sg → Cup H' c → But c H H' → Q (.ref d) H'
theorem ok_pair {f fB : Addr} {fd dB : FuncData} (F : Fun K "_law_pair_ways" "_law_pair_ways" sPair f fd) (T : Txt K mg) (DB : Df K mg "_law_bit" sBit ["_law_cup_here", "_law_much"] fB dB) : FnOk P w K mg base CX0 2 f fd ["_law_cup_here", "_law_signs_here", "_law_many"] spPair := by
  have GB := ok_bit (P := P) (w := w) (base := base) DB.F T
  refine F.ok scPair (fun vs H Q E h => ?_) (fun cdv A outer s H vs Q E hr h => ?_)
  · obtain ⟨c, sg, n, rfl, _⟩ := h
    rfl
  · obtain ⟨c, sg, m, rfl, hc, hsg, n1, n3, q⟩ := h
    have hu := hu_of hr
    refine ⟨_, (pss_cons (ps_set (i := 3) scPair.nd rfl (Or.inl rfl) (pe_disp (pps_cons (pe_ix ix_str (pv 1) pe_int (fun _ _ => rfl)) (pe_callTy call_tuple_of (by rfl) T.tuple (by decide +kernel) (pa_cons (pe_lc (own := [("_law_at", 8)]) (g := (gName 8)) (tt := tYes)  rfl scPair.nd (pi_range1 rfl T.range (pa_cons (pe_op op_mul (pv 2) (pv 2)) pa_nil)) (blkOk_by (own := [("_law_at", 8)]) (N := nPair) (sc := defScope sPair) (by decide +kernel)) (fun _ _ _ _ _ => (pg_name (i := 8) scPair.nd rfl (Or.inl rfl))) (fun _ _ _ _ _ => pts_nil) (fun _ _ _ _ _ => (pe_op op_add (pe_op op_mul (pv 2) (pe_callTy call_int1 (by rfl) T.int (by decide +kernel) (pa_cons (pe_op op_fdivN (pv 8) (pv 2)) pa_nil))) (pe_op op_modN (pe_callTy call_int1 (by rfl) T.int (by decide +kernel) (pa_cons (pe_op op_add (pv 8) pe_int) pa_nil)) (pv 2))))) pa_nil)) pps_nil) (by rfl) (by rfl) (fun z => by cases z) (by decide)))
    (pss_cons (ps_for PassesOwn.never rfl (pi_str (pe_slice sl_str (pv 1) (po_some pe_int) po_none)) (pg_name (i := 4) scPair.nd rfl (Or.inl rfl))
      (pss_cons (ps_par (i := 5) (j := 6) (by rfl) scPair.nd rfl rfl (by decide) rfl rfl (pa_cons (pe_call GB (hr.mono (by decide)) (by rfl) DB.m DB.F.kp DB.b .nil pass0 (pa_cons (pv 0) (pa_cons (pv 2) pa_nil))) (pa_cons (pe_call GB (hr.mono (by decide)) (by rfl) DB.m DB.F.kp DB.b .nil pass0 (pa_cons (pv 0) (pa_cons (pv 2) pa_nil))) pa_nil)) (by rfl))
      (pss_cons (ps_set (i := 7) scPair.nd rfl (Or.inl rfl) (pe_lst pa_nil))
      (pss_cons (ps_for PassesOwn.never rfl (pi_range1 rfl T.range (pa_cons (pe_op op_mul (pv 2) (pv 2)) pa_nil)) (pg_name (i := 8) scPair.nd rfl (Or.inl rfl))
        (pss_cons (ps_set (i := 9) scPair.nd rfl (Or.inl rfl) (pe_op op_modN (pe_callTy call_int1 (by rfl) T.int (by decide +kernel) (pa_cons (pe_op op_add (pe_op op_add (pe_op op_fdivN (pv 8) (pv 2)) (pv 5)) (pe_op op_mul (pv 6) (pe_op op_modN (pe_callTy call_int1 (by rfl) T.int (by decide +kernel) (pa_cons (pv 8) pa_nil)) (pv 2)))) pa_nil)) (pv 2)))
        (pss_one (ps_expr (pe_bm PySem.F.plainAttrs_list PySem.F.slot_list_append PySem.F.type_list_append mt_append (pv 7) (pa_cons (pe_op op_add (pe_op op_mul (pv 2) (pv 9)) (pe_op op_modN (pe_callTy call_int1 (by rfl) T.int (by decide +kernel) (pa_cons (pv 8) pa_nil)) (pv 2))) pa_nil))))))
      (pss_one (ps_dput hu (pv 3) (pv 4) (pe_callTy call_tuple_of (by rfl) T.tuple (by decide +kernel) (pa_cons (pv 7) pa_nil)) rfl))))))
    (pss_one (ps_ret (pv 3))))), ?_⟩
    have sg3 := (sg_len hsg).2
    have sgl : sg.length ≤ sizeLine := Nat.le_trans sg3 (by decide)
    obtain ⟨x0, hx0, mx0⟩ := sg_head hsg
    have mm9 : m * m ≤ 9 := Nat.mul_le_mul n3 n3
    have mm1 : 1 ≤ m * m := Nat.mul_le_mul n1 n1
    have en : ((m : Int) * (m : Int)).toNat = m * m := by rw [← Int.natCast_mul, Int.toNat_natCast]
    have cm : ∀ z : Int, CMul (m : Int) z := fun _ => .inl ⟨by omega, by omega⟩
    intro F nF
    have nFc : F ≠ c := hc.ne nF
    refine ⟨_, rfl, sg, 0, x0, rfl, rfl, sgl, atI_nat (j := 0) hx0, ?_⟩
    refine ⟨_, rfl, _, rfl, _, _, rfl, rfl, cm _, _, rfl, ?_⟩
    have mmI : (m : Int) * (m : Int) = ((m * m : Nat) : Int) := (Int.natCast_mul m m).symm
    refine ⟨by rw [mmI]; omega, by rw [mmI]; omega, fun D nD => ?_⟩
    have nFD : F ≠ D := ne_of_none upd_same nD
    have nD0 : H D = none := by rw [← nD, upd_ne nFD.symm]
    have s1 := same_upd (o := .dK []) nF
    have hc1 := hc.same s1
    rw [en]
    let hd : List Nat := (List.range (m * m)).map fun i => m * (i / m) + (i + 1) % m
    have lhd : hd.length = m * m := by show (List.map _ _).length = _; rw [List.length_map, List.length_range]
    have hhd : ∀ q ∈ hd, q < m * m := fun q hq => by
      obtain ⟨i, hi, rfl⟩ := List.mem_map.mp hq
      have := List.mem_range.mp hi
      exact pair_lt (Nat.div_lt_of_lt_mul this) (Nat.mod_lt _ n1)
    refine Lc.lcRS (ys := natsV hd) nD (by rw [List.length_map, lhd]) (Nat.lt_of_le_of_lt mm9 (by decide)) (fun _ => rfl) ?_ ?_
    · intro j y H3 hj hy s3 Q' q'
      rw [List.getElem?_map, List.getElem?_map, List.getElem?_range hj] at hy
      cases hy
      refine ⟨_, rfl, _, rfl, _, rfl, _, _, rfl, rfl, ⟨by omega, by omega⟩, .inl ⟨_, rfl, _, _, rfl, rfl, cm _, ?_⟩⟩
      refine ⟨_, rfl, _, _, rfl, rfl, .inl ⟨_, rfl, _, rfl, _, _, rfl, rfl, (show (m : Int) ≠ 0 by omega), _, _, rfl, rfl, ?_⟩⟩
      show Q' (V.int _) H3
      rw [pair_head n1]
      exact q' H3 (Same.refl _)
    intro H3 s3 e3
    refine ⟨D, _, rfl, .inl ⟨SqL.of e3, fun rr nr => ?_⟩⟩
    have s4 := same_upd (o := .tup (natsV hd)) nr
    have hrr : RowAt (upd H3 rr (.tup (natsV hd))) rr hd := upd_same
    have hc4 := (hc1.same s3).same s4
    have e4 := s4 _ _ (s3 _ _ upd_same)
    have b4 : But c H _ := But.of ((s1.trans s3).trans s4)
    generalize upd H3 rr (.tup (natsV hd)) = H4 at hrr hc4 e4 b4 ⊢
    refine ⟨e4, [(Sum.inr (one x0), .ref rr)], rfl, (by show 1 ≤ 15; decide), ?_⟩
    have kF : KeepT H4 (upd H4 F (.dK [(Sum.inr (one x0), V.ref rr)])) := KeepT.upd (.dK e4)
    show tSeq _ _ _ _ (upd H4 F (.dK [(Sum.inr (one x0), V.ref rr)]))
    have hc5 : Cup (upd H4 F (.dK [(Sum.inr (one x0), V.ref rr)])) c := hc4.put nFc
    have b5 : But c H (upd H4 F (.dK [(Sum.inr (one x0), V.ref rr)])) := b4.putN nF
    have e5 : (upd H4 F (.dK [(Sum.inr (one x0), V.ref rr)])) F = some (.dK [(Sum.inr (one x0), V.ref rr)]) := upd_same
    have hr5 : RowAt (upd H4 F (.dK [(Sum.inr (one x0), V.ref rr)])) rr hd := kF _ _ hrr
    generalize upd H4 F (.dK [(Sum.inr (one x0), V.ref rr)]) = H5 at hc5 b5 e5 hr5 ⊢
    have ecut := cut_fr (z := sg) 1
    have lcut : (cds (cutS sg (some ((1 : Nat) : Int)) none)).length = (cds sg).length - 1 := by rw [ecut, List.length_drop]
    have lsg : (cds sg).length = sg.length := cds_len _
    have sg0 := (sg_len hsg).1
    refine ⟨_, rfl, _, rfl, _, rfl, sgl, _, rfl, ?_⟩
    refine Lc.for_text (x := cutS sg (some ((1 : Nat) : Int)) none) (fun i σ H1 => ∃ (t4 t5 t6 t7 t8 t9 : Option V) (kvs : List (Key × V)) (W : List Way), σ = [some (.ref c), some (.str sg), some (.int (m : Int)), some (.ref F), t4, t5, t6, t7, t8, t9] ∧ Cup H1 c ∧ But c H H1 ∧ H1 F = some (.dK kvs) ∧ WsAt H1 kvs W ∧ W.map (·.1) = (cds sg).take (i + 1) ∧ ∀ w ∈ W, w.2.length = m * m ∧ ∀ q ∈ w.2, q < m * m)
      ⟨none, none, none, none, none, none, [(Sum.inr (one x0), V.ref rr)], [(x0, hd)], rfl, hc5, b5, e5, .cons ⟨rr, rfl, hr5⟩ .nil, ?_, ?_⟩ ?_ ?_
    · rw [List.take_add_one, hx0]
      rfl
    · intro w hw
      rw [List.mem_singleton.mp hw]
      exact ⟨lhd, hhd⟩
    · rintro i x σ H1 hx ⟨t4, t5, t6, t7, t8, t9, kvs, W, rfl, hc1, b1, e1, hw, hW, hr2⟩
      have hi := (List.getElem?_eq_some_iff.mp hx).1
      have hx : (cds (cutS sg (some ((1 : Nat) : Int)) none))[i]? = some x := hx
      rw [ecut, List.getElem?_drop, Nat.add_comm] at hx
      have hi2 := (List.getElem?_eq_some_iff.mp hx).1
      refine ⟨_, rfl, _, rfl, c, (m : Int), rfl, hc1, by omega, small9000 (by omega) (by omega), fun st H2 st0 st1 hc2 b2 => ?_⟩
      obtain ⟨st, rfl⟩ : ∃ k : Nat, st = (k : Int) := ⟨st.toNat, by omega⟩
      refine ⟨_, rfl, _, rfl, c, (m : Int), rfl, hc2, by omega, small9000 (by omega) (by omega), fun tm H3 tm0 tm1 hc3 b3 => ?_⟩
      obtain ⟨tm, rfl⟩ : ∃ k : Nat, tm = (k : Int) := ⟨tm.toNat, by omega⟩
      have e3 := b3 _ _ nFc (b2 _ _ nFc e1)
      have hw3 := (hw.keep (KeepT.but hc1.noT b2)).keep (KeepT.but hc2.noT b3)
      have b03 := (b1.trans b2).trans b3
      refine ⟨_, _, rfl, (by show 0 ≤ sizeLine; decide), fun R nR => ?_⟩
      have nRc : R ≠ c := hc3.ne nR
      have nR0 : H R = none := by
        cases e : H R with
        | none => rfl
        | some o => rw [b03 _ _ nRc e] at nR; cases nR
      have s4 := same_upd (o := .lst []) nR
      have e4 := s4 _ _ e3
      have hw4 := hw3.keep (.same s4)
      have hc4 := hc3.same s4
      have b4 : But c H _ := b03.trans (But.of s4)
      have eR4 : (upd H3 R (.lst [])) R = some (.lst []) := upd_same
      generalize upd H3 R (.lst []) = H4 at e4 hw4 hc4 b4 eR4 ⊢
      let f1 : Nat → Nat := fun i => m * ((i / m + st + tm * (i % m)) % m) + i % m
      have nRF : R ≠ F := fun e => by rw [e, e4] at eR4; cases eR4
      refine ⟨_, rfl, _, rfl, _, _, rfl, rfl, cm _, _, rfl, by rw [mmI]; omega, by rw [mmI]; omega, ?_⟩
      rw [en]
      refine for_range (n := m * m) (fun j σ H5 => ∃ (t8 t9 : Option V), σ = [some (.ref c), some (.str sg), some (.int (m : Int)), some (.ref F), some (.str (one x)), some (.int (st : Int)), some (.int (tm : Int)), some (.ref R), t8, t9] ∧ Cup H5 c ∧ But R H4 H5 ∧ H5 R = some (.lst (natsV ((List.range j).map f1)))) ⟨t8, t9, rfl, hc4, But.refl _ _, eR4⟩ ?_ ?_
      · rintro j σ H5 hj ⟨u8, u9, rfl, hc5, b5, eR5⟩
        have fm : 0 ≤ Int.fmod (0 + (j : Int)) (m : Int) ∧ Int.fmod (0 + (j : Int)) (m : Int) < (m : Int) := by
          rw [Int.fmod_eq_emod_of_nonneg _ (by omega)]
          exact ⟨Int.emod_nonneg _ (by omega), Int.emod_lt_of_pos _ (by omega)⟩
        refine ⟨_, rfl, _, rfl, _, _, rfl, rfl, ⟨by omega, by omega⟩, _, rfl, _, _, rfl, rfl, _, rfl, _, rfl, .inl ⟨_, rfl, _, rfl, _, _, rfl, rfl, (show (m : Int) ≠ 0 by omega), _, _, rfl, rfl, .inl ⟨by omega, by omega⟩, _, _, rfl, rfl, .inl ⟨_, rfl, _, rfl, _, _, rfl, rfl, (show (m : Int) ≠ 0 by omega), ?_⟩⟩⟩
        refine ⟨_, rfl, .inl ⟨rfl, _, SqL.of eR5⟩, _, rfl, _, rfl, _, _, rfl, rfl, cm _, _, rfl, .inl ⟨_, rfl, _, rfl, _, _, rfl, rfl, (show (m : Int) ≠ 0 by omega), _, _, rfl, rfl, R, _, _, rfl, rfl, eR5, ?_, _, _, rfl, hc5.put nRc, fun b o n e => by rw [upd_ne n]; exact b5 _ _ n e, ?_⟩⟩
        · rw [List.length_map, List.length_map, List.length_range]
          exact Nat.lt_of_le_of_lt (show _ ≤ 9 by omega) (by decide)
        · have ev : V.int ((m : Int) * Int.fmod (Int.fdiv (0 + (j : Int)) (m : Int) + (st : Int) + (tm : Int) * Int.fmod (0 + (j : Int)) (m : Int)) (m : Int) + Int.fmod (0 + (j : Int)) (m : Int)) = V.int (f1 j : Int) := congrArg V.int (by
            rw [pair_row n1, Int.zero_add, Int.fmod_eq_emod_of_nonneg _ (by omega)]
            rfl)
          rw [upd_same]
          show some (HO.lst (_ ++ [V.int _])) = _
          rw [ev, List.range_succ, List.map_append]
          show _ = some (HO.lst (natsV (_ ++ [f1 j])))
          unfold natsV
          rw [List.map_append]
          rfl
      · rintro σ H5 ⟨u8, u9, rfl, hc5, b5, eR5⟩
        have e5 := b5 _ _ nRF.symm e4
        have hw5 := hw4.keep (KeepT.but (NoT.lst eR4) b5)
        have b05 : But c H H5 := fun b o n e => by
          have nb : b ≠ R := fun z => by rw [z, nR0] at e; cases e
          exact b5 _ _ nb (b4 _ _ n e)
        refine ⟨_, rfl, R, _, rfl, .inl ⟨SqL.of eR5, fun rr nr => ?_⟩⟩
        let rw : List Nat := (List.range (m * m)).map f1
        have lrw : rw.length = m * m := by show (List.map _ _).length = _; rw [List.length_map, List.length_range]
        have hrw : ∀ q ∈ rw, q < m * m := fun q hq => by
          obtain ⟨i, hi, rfl⟩ := List.mem_map.mp hq
          exact pair_lt (Nat.mod_lt _ n1) (Nat.mod_lt _ n1)
        have s6 := same_upd (o := .tup (natsV rw)) nr
        have hrr : RowAt (upd H5 rr (.tup (natsV rw))) rr rw := upd_same
        have hc6 := hc5.same s6
        have e6 := s6 _ _ e5
        have hw6 := hw5.keep (.same s6)
        have b6 : But c H _ := b05.trans (But.of s6)
        show (fun (v : V) (H1 : Hp) => _) (V.ref rr) (upd H5 rr (.tup (natsV rw)))
        generalize upd H5 rr (.tup (natsV rw)) = H6 at hrr hc6 e6 hw6 b6 ⊢
        have nk : valV kvs (Sum.inr (one x) : Key) = none := ways_none hw6 (by rw [hW]; exact not_taken (sg_nodup hsg) hx)
        refine ⟨_, rfl, _, rfl, F, _, rfl, DPut.k (k := (Sum.inr (one x) : Key)) e6 ?_, ?_⟩
        · have h1 := ways_len hw
          have h2 := congrArg List.length hW
          rw [List.length_map, List.length_take] at h2
          exact Nat.lt_of_le_of_lt (show kvs.length ≤ 3 by omega) (by decide)
        have kF : KeepT H6 (upd H6 F (.dK (putK kvs (Sum.inr (one x)) (.ref rr)))) := KeepT.upd (.dK e6)
        refine ⟨_, _, _, _, _, _, kvs ++ [(Sum.inr (one x), .ref rr)], W ++ [(x, rw)], rfl, hc6.put nFc, b6.putN nF, by rw [upd_same, putK_new nk], hw6.put kF (kF _ _ hrr), ?_, ?_⟩
        · rw [List.map_append, hW, List.take_add_one (i := i + 1), hx]
          rfl
        · intro w hw
          rcases List.mem_append.mp hw with hw | hw
          · exact hr2 w hw
          · rw [List.mem_singleton.mp hw]
            exact ⟨lrw, hrw⟩
    · rintro σ H1 ⟨t4, t5, t6, t7, t8, t9, kvs, W, rfl, hc1, b1, e1, hw, hW, hr2⟩
      have hW : W.map (·.1) = (cds sg).take ((cds (cutS sg (some ((1 : Nat) : Int)) none)).length + 1) := hW
      rw [lcut, List.take_of_length_le (by omega)] at hW
      exact ⟨_, rfl, q F W H1 ⟨kvs, e1, hw⟩ ⟨by rw [hW], hr2, mm1, Nat.le_trans mm9 (by decide)⟩ hW hc1 b1⟩
end
end K24

set_option Elab.async false
set_option linter.all false
set_option maxRecDepth 100000
set_option maxHeartbeats 6400000
namespace K24
open PySem L2 Tx Tg Tm Da RZ
/-- a reader as plain data -/
abbrev kvP (sg : Str) (d g : Addr) : List (Key × V) := [(Sum.inr "signs", .str sg), (Sum.inr "ways", .ref d), (Sum.inr "good", .ref g)]
def PlainAt (H : Hp) (p : Addr) (r : Rdr) : Prop := ∃ d g, H p = some (.dK (kvP r.sg d g)) ∧ MovAt H d r.W ∧ RowAt H g r.G ∧ okR r
theorem PlainAt.ok {H : Hp} {p : Addr} {r : Rdr} (h : PlainAt H p r) : okR r := let ⟨_, _, _, _, _, ok⟩ := h; ok
theorem PlainAt.same {H H' : Hp} {p : Addr} {r : Rdr} (s : Same H H') (h : PlainAt H p r) : PlainAt H' p r := let ⟨d, g, e, m, y, ok⟩ := h; ⟨d, g, s _ _ e, m.same s, s _ _ y, ok⟩
theorem PlainAt.but {c : Addr} {H H' : Hp} {p : Addr} {r : Rdr} (hc : Cup H c) (b : But c H H') (h : PlainAt H p r) : PlainAt H' p r := by
  obtain ⟨d, g, e, m, y, ok⟩ := h
  exact ⟨d, g, b _ _ (hc.noD e) e, m.but hc b, RowAt.but hc b y, ok⟩
/-- what comes after, from a state that several ways lead to -/
theorem two {a b : TS} {D : Ends} {σ : L2.St} {H : Hp} (I : L2.St → Hp → Prop) (hb : ∀ σ H, I σ H → b D σ H) (ha : (∀ σ H, I σ H → b D σ H) → tSeq a b D σ H) : tSeq a b D σ H := ha hb
section
variable {P : Program} {w : World} {K : PySem.W.Frag} {mg : Str → Option Value} {base : Heap}
def spPlain : Sp := fun vs H Q _ => ∃ (c : Addr) (sg : Str), vs = [.ref c, .str sg] ∧ Cup H c ∧ Signs sg ∧ ∀ p r H', PlainAt H' p r → r.sg = sg → r.n ≤ 9 → Cup H' c → But c H H' → Q (.ref p) H'
abbrev nTurner : List Str := ["_law_cup_here", "_law_signs_here", "_law_lot", "_law_ways"]
theorem scTurner : FnScope nTurner ["_law_cup_here", "_law_signs_here"] (defScope sTurner) := ⟨rfl, rfl, rfl, by decide +kernel, rfl, by decide +kernel, by decide +kernel⟩
/-- what draws -/
structure Dr1 (K : PySem.W.Frag) (mg : Str → Option Value) (fB fP fD fS fA fT fR f2 : Addr) (dB dP dD dS dA dT dR d2 : FuncData) : Prop where
  B : Df K mg "_law_bit" sBit ["_law_cup_here", "_law_much"] fB dB
  P : Df K mg "_law_pick" sPick ["_law_cup_here", "_law_items"] fP dP
  D : Df K mg "_law_dealt" sDealt ["_law_cup_here", "_law_items"] fD dD
  S : Df K mg "_law_some_of" sSome ["_law_cup_here", "_law_many"] fS dS
  A : Df K mg "_law_any_ways" sAny ["_law_cup_here", "_law_signs_here", "_law_many"] fA dA
  T : Df K mg "_law_turning_ways" sTurning ["_law_cup_here", "_law_signs_here", "_law_many"] fT dT
  R : Df K mg "_law_ring_ways" sRing ["_law_cup_here", "_law_signs_here", "_law_many"] fR dR
  P2 : Df K mg "_law_pair_ways" sPair ["_law_cup_here", "_law_signs_here", "_law_many"] f2 d2
variable {fB fP fD fS fA fT fR f2 : Addr} {dB dP dD dS dA dT dR d2 : FuncData}
theorem ok_turner {f : Addr} {fd : FuncData} (F : Fun K "_law_turner" "_law_turner" sTurner f fd) (T : Txt K mg) (B : Dr1 K mg fB fP fD fS fA fT fR f2 dB dP dD dS dA dT dR d2) : FnOk P w K mg base CX0 4 f fd ["_law_cup_here", "_law_signs_here"] spPlain := by
  have DB := B.B
  have DP := B.P
  have DT := B.T
  have DR := B.R
  have D2 := B.P2
  have DS := B.S
  have GB := ok_bit (P := P) (w := w) (base := base) DB.F T
  have GP := ok_pick (P := P) (w := w) (base := base) DP.F T DB
  have GT := ok_turning (P := P) (w := w) (base := base) DT.F T DB B.D
  have GR := ok_ring (P := P) (w := w) (base := base) DR.F T DB
  have G2 := ok_pair (P := P) (w := w) (base := base) D2.F T DB
  have GS := ok_some (P := P) (w := w) (base := base) DS.F T DB
  refine F.ok scTurner (fun vs H Q E h => ?_) (fun cdv A outer s H vs Q E hr h => ?_)
  · obtain ⟨c, sg, rfl, _⟩ := h
    rfl
  · obtain ⟨c, sg, rfl, hc, hsg, q⟩ := h
    have hu := hu_of hr
    refine ⟨_, (pss_cons (ps_set (i := 2) scTurner.nd rfl (Or.inl rfl) (pe_call GB (hr.mono (by decide)) (by rfl) DB.m DB.F.kp DB.b .nil pass0 (pa_cons (pv 0) (pa_cons pe_int pa_nil))))
    (pss_cons (ps_if (pt_cmpR op_eq (pv 2) pe_int (nomark _)) (pss_one (ps_set (i := 3) scTurner.nd rfl (Or.inl rfl) (pe_call GT (hr.mono (by decide)) (by rfl) DT.m DT.F.kp DT.b .nil pass0 (pa_cons (pv 0) (pa_cons (pv 1) (pa_cons (pe_op op_add pe_int (pe_call GB (hr.mono (by decide)) (by rfl) DB.m DB.F.kp DB.b .nil pass0 (pa_cons (pv 0) (pa_cons pe_int pa_nil)))) pa_nil)))))) (pss_one (ps_if (pt_cmpR op_lt (pv 2) pe_int (nomark _)) (pss_one (ps_set (i := 3) scTurner.nd rfl (Or.inl rfl) (pe_call GR (hr.mono (by decide)) (by rfl) DR.m DR.F.kp DR.b .nil pass0 (pa_cons (pv 0) (pa_cons (pv 1) (pa_cons (pe_call GP (hr.mono (by decide)) (by rfl) DP.m DP.F.kp DP.b .nil pass0 (pa_cons (pv 0) (pa_cons (pe_lst (pa_cons pe_int (pa_cons pe_int (pa_cons pe_int (pa_cons pe_int (pa_cons pe_int (pa_cons pe_int (pa_cons pe_int (pa_cons pe_int pa_nil))))))))) pa_nil))) pa_nil)))))) (pss_one (ps_set (i := 3) scTurner.nd rfl (Or.inl rfl) (pe_call G2 (hr.mono (by decide)) (by rfl) D2.m D2.F.kp D2.b .nil pass0 (pa_cons (pv 0) (pa_cons (pv 1) (pa_cons (pe_call GP (hr.mono (by decide)) (by rfl) DP.m DP.F.kp DP.b .nil pass0 (pa_cons (pv 0) (pa_cons (pe_lst (pa_cons pe_int (pa_cons pe_int (pa_cons pe_int pa_nil)))) pa_nil))) pa_nil)))))))))
    (pss_one (ps_ret (pe_disp (pps_cons pe_str (pv 1) (pps_cons pe_str (pv 3) (pps_cons pe_str (pe_call GS (hr.mono (by decide)) (by rfl) DS.m DS.F.kp DS.b .nil pass0 (pa_cons (pv 0) (pa_cons (pe_callB call_len_seq (by rfl) T.len PySem.boot_len (pa_cons (pe_dget hu (pv 3) (pe_ix ix_str (pv 1) pe_int (fun _ _ => rfl)) (fun _ _ => rfl)) pa_nil)) pa_nil))) pps_nil))) (by rfl) (by rfl) (fun z => by cases z) (by decide)))))), ?_⟩
    obtain ⟨x0, hx0, mx0⟩ := sg_head hsg
    have sgl : sg.length ≤ sizeLine := Nat.le_trans (sg_len hsg).2 (by decide)
    refine ⟨_, rfl, c, 5, rfl, hc, by decide, small9000 (by decide) (by decide), fun r H1 r0 r5 hc1 b1 => ?_⟩
    dsimp only [gName]
    refine two (fun σ H2 => ∃ d W n, σ = [some (.ref c), some (.str sg), some (.int r), some (.ref d)] ∧ MovAt H2 d W ∧ okW n sg W ∧ W.map (·.1) = cds sg ∧ Cup H2 c ∧ But c H H2 ∧ n ≤ 9) ?_ fun tl => ?_
    · rintro σ H2 ⟨d, W, n, rfl, hM, ok, ord, hc2, b2, n9⟩
      obtain ⟨l0, hl0, ll0, lq0⟩ := ok.has mx0
      intro p np
      have s3 := same_upd (o := .dK []) np
      have hc3 := hc2.same s3
      have b3 : But c H2 _ := But.of s3
      have hM3 := hM.same s3
      have e3 : (upd H2 p (.dK [])) p = some (.dK []) := upd_same
      generalize upd H2 p (.dK []) = H3 at hc3 b3 hM3 e3 ⊢
      have npc : p ≠ c := hc2.ne np
      obtain ⟨kvs, ed, hw⟩ := id hM3
      obtain ⟨p0, g0, r0⟩ := ways_get hw (ok.nodup hsg) hl0
      have G0 : DGet H3 d (.str (one x0)) (some (.ref p0)) := by
        have := DGet.k (k := (Sum.inr (one x0) : Key)) ed
        rw [g0] at this
        exact this
      refine ⟨_, rfl, _, rfl, _, rfl, _, rfl, _, rfl, sg, 0, x0, rfl, rfl, sgl, atI_nat (j := 0) hx0, d, _, rfl, G0, p0, _, rfl, .inr (SqT.of r0), ?_⟩
      refine ⟨c, n, by rw [List.length_map, ll0]; rfl, hc3, ok.most, fun g G H4 hG okg lG hc4 b4 => ?_⟩
      refine ⟨b4 _ _ npc e3, kvP sg d g, rfl, (by show 3 ≤ 15; decide), ?_⟩
      have kp : KeepT H4 (upd H4 p (.dK (kvP sg d g))) := KeepT.upd (.dK (b4 _ _ npc e3))
      have hM4 := hM3.but hc3 b4
      refine q p ⟨sg, W, G, n⟩ _ ⟨d, g, upd_same, ?_, kp _ _ hG, ⟨hsg, ord, ok, okg, Nat.le_trans lG ok.most⟩⟩ rfl n9 (hc4.put npc) ?_
      · obtain ⟨kvs2, e2, _⟩ := hM
        obtain ⟨kvs4, e4, hw4⟩ := hM4
        exact ⟨kvs4, by rw [upd_ne (ne_of_none e2 np)]; exact e4, hw4.keep kp⟩
      · exact b2.trans ((b3.trans b4).putN np)
    · refine ⟨_, rfl, rfl, _, rfl, ?_⟩
      by_cases h0 : r = 0
      · rw [decide_eq_true (congrArg V.int h0)]
        refine iteT ?_
        refine ⟨_, rfl, _, rfl, _, rfl, c, 4, rfl, hc1, by decide, small9000 (by decide) (by decide), fun k H2 k0 k4 hc2 b2 => ?_⟩
        obtain ⟨k, rfl⟩ : ∃ z : Nat, k = (z : Int) := ⟨k.toNat, by omega⟩
        refine ⟨_, _, rfl, rfl, c, sg, 2 + k, rfl, hc2, hsg, by omega, by omega, fun d W H3 hM ok ord hc3 b3 => ?_⟩
        exact tl _ _ ⟨d, W, 2 + k, rfl, hM, ok, ord, hc3, (b1.trans b2).trans b3, by omega⟩
      · rw [decide_eq_false (fun e => h0 (by injection e))]
        refine iteF ?_
        refine ⟨_, rfl, _, _, rfl, rfl, _, rfl, ?_⟩
        by_cases h3 : r < 3
        · rw [decide_eq_true h3]
          refine iteT ?_
          refine ⟨_, rfl, _, rfl, _, rfl, (by show 8 ≤ sizeLine; decide), fun L nL => ?_⟩
          have sL := same_upd (o := .lst [.int 2, .int 3, .int 4, .int 5, .int 6, .int 7, .int 8, .int 9]) nL
          refine ⟨c, hc1.same sL, .inl ⟨L, _, rfl, hc1.ne nL, upd_same, by decide, by decide, fun x H2 hx hc2 b2 => ?_⟩⟩
          obtain ⟨k, hk, k1, k9⟩ : ∃ k : Nat, x = .int (k : Int) ∧ 1 ≤ k ∧ k ≤ 9 := by
            simp only [List.mem_cons, List.not_mem_nil, or_false] at hx
            rcases hx with rfl | rfl | rfl | rfl | rfl | rfl | rfl | rfl
            · exact ⟨2, rfl, by decide, by decide⟩
            · exact ⟨3, rfl, by decide, by decide⟩
            · exact ⟨4, rfl, by decide, by decide⟩
            · exact ⟨5, rfl, by decide, by decide⟩
            · exact ⟨6, rfl, by decide, by decide⟩
            · exact ⟨7, rfl, by decide, by decide⟩
            · exact ⟨8, rfl, by decide, by decide⟩
            · exact ⟨9, rfl, by decide, by decide⟩
          refine ⟨c, sg, k, by rw [hk]; rfl, hc2, hsg, k1, Nat.le_trans k9 (by decide), fun d W H3 hM ok ord hc3 b3 => ?_⟩
          exact tl _ _ ⟨d, W, k, rfl, hM, ok, ord, hc3, (b1.trans ((But.of sL).trans b2)).trans b3, k9⟩
        · rw [decide_eq_false h3]
          refine iteF ?_
          refine ⟨_, rfl, _, rfl, _, rfl, (by show 3 ≤ sizeLine; decide), fun L nL => ?_⟩
          have sL := same_upd (o := .lst [.int 2, .int 2, .int 3]) nL
          refine ⟨c, hc1.same sL, .inl ⟨L, _, rfl, hc1.ne nL, upd_same, by decide, by decide, fun x H2 hx hc2 b2 => ?_⟩⟩
          obtain ⟨k, hk, k1, k9⟩ : ∃ k : Nat, x = .int (k : Int) ∧ 1 ≤ k ∧ k ≤ 3 := by
            simp only [List.mem_cons, List.not_mem_nil, or_false] at hx
            rcases hx with rfl | rfl | rfl
            · exact ⟨2, rfl, by decide, by decide⟩
            · exact ⟨2, rfl, by decide, by decide⟩
            · exact ⟨3, rfl, by decide, by decide⟩
          refine ⟨c, sg, k, by rw [hk]; rfl, hc2, hsg, k1, k9, fun d W H3 hM ok ord hc3 b3 => ?_⟩
          exact tl _ _ ⟨d, W, k * k, rfl, hM, ok, ord, hc3, (b1.trans ((But.of sL).trans b2)).trans b3, Nat.mul_le_mul k9 k9⟩
abbrev nPlain : List Str := ["_law_cup_here", "_law_signs_here", "_law_many"]
theorem scPlain : FnScope nPlain ["_law_cup_here", "_law_signs_here"] (defScope sPlain) := ⟨rfl, rfl, rfl, by decide +kernel, rfl, by decide +kernel, by decide +kernel⟩
theorem ok_plain {f fN : Addr} {fd dN : FuncData} (F : Fun K "_law_plain_reader" "_law_plain_reader" sPlain f fd) (T : Txt K mg) (B : Dr1 K mg fB fP fD fS fA fT fR f2 dB dP dD dS dA dT dR d2) (DT : Df K mg "_law_turner" sTurner ["_law_cup_here", "_law_signs_here"] fN dN) : FnOk P w K mg base CX0 5 f fd ["_law_cup_here", "_law_signs_here"] spPlain := by
  have DB := B.B
  have DA := B.A
  have DS := B.S
  have GB := ok_bit (P := P) (w := w) (base := base) DB.F T
  have GT := ok_turner (P := P) (w := w) (base := base) DT.F T B
  have GA := ok_any (P := P) (w := w) (base := base) DA.F T DB
  have GS := ok_some (P := P) (w := w) (base := base) DS.F T DB
  refine F.ok scPlain (fun vs H Q E h => ?_) (fun cdv A outer s H vs Q E hr h => ?_)
  · obtain ⟨c, sg, rfl, _⟩ := h
    rfl
  · obtain ⟨c, sg, rfl, hc, hsg, q⟩ := h
    have hu := hu_of hr
    refine ⟨_, (pss_cons (ps_if (pt_cmpR op_eq (pe_call GB (hr.mono (by decide)) (by rfl) DB.m DB.F.kp DB.b .nil pass0 (pa_cons (pv 0) (pa_cons pe_int pa_nil))) pe_int (nomark _)) (pss_one (ps_ret (pe_call GT (hr.mono (by decide)) (by rfl) DT.m DT.F.kp DT.b .nil pass0 (pa_cons (pv 0) (pa_cons (pv 1) pa_nil))))) pss_nil)
    (pss_cons (ps_set (i := 2) scPlain.nd rfl (Or.inl rfl) (pe_op op_add pe_int (pe_call GB (hr.mono (by decide)) (by rfl) DB.m DB.F.kp DB.b .nil pass0 (pa_cons (pv 0) (pa_cons pe_int pa_nil)))))
    (pss_one (ps_ret (pe_disp (pps_cons pe_str (pv 1) (pps_cons pe_str (pe_call GA (hr.mono (by decide)) (by rfl) DA.m DA.F.kp DA.b .nil pass0 (pa_cons (pv 0) (pa_cons (pv 1) (pa_cons (pv 2) pa_nil)))) (pps_cons pe_str (pe_call GS (hr.mono (by decide)) (by rfl) DS.m DS.F.kp DS.b .nil pass0 (pa_cons (pv 0) (pa_cons (pv 2) pa_nil))) pps_nil))) (by rfl) (by rfl) (fun z => by cases z) (by decide)))))), ?_⟩
    refine ⟨_, rfl, c, 2, rfl, hc, by decide, small9000 (by decide) (by decide), fun r H1 r0 r5 hc1 b1 => ?_⟩
    refine ⟨rfl, _, rfl, ?_⟩
    by_cases h0 : r = 0
    · rw [decide_eq_true (congrArg V.int h0)]
      refine iteT ?_
      exact ⟨_, rfl, _, rfl, c, sg, rfl, hc1, hsg, fun p r H2 hp e n9 hc2 b2 => q p r H2 hp e n9 hc2 (b1.trans b2)⟩
    · rw [decide_eq_false (fun e => h0 (by injection e))]
      refine iteF ?_
      refine ⟨_, rfl, c, 6, rfl, hc1, by decide, small9000 (by decide) (by decide), fun k H2 k0 k4 hc2 b2 => ?_⟩
      obtain ⟨k, rfl⟩ : ∃ z : Nat, k = (z : Int) := ⟨k.toNat, by omega⟩
      refine ⟨_, _, rfl, rfl, fun p np => ?_⟩
      have npc : p ≠ c := hc2.ne np
      have s3 := same_upd (o := .dK []) np
      have hc3 := hc2.same s3
      have b3 : But c H2 _ := But.of s3
      have e3 : (upd H2 p (.dK [])) p = some (.dK []) := upd_same
      generalize upd H2 p (.dK []) = H3 at hc3 b3 e3 ⊢
      refine ⟨_, rfl, _, rfl, _, rfl, _, rfl, c, sg, 1 + k, rfl, hc3, hsg, by omega, by omega, fun d W H4 hM ok ord hc4 b4 => ?_⟩
      refine ⟨_, rfl, _, rfl, c, 1 + k, rfl, hc4, by omega, fun g G H5 hG okg lG hc5 b5 => ?_⟩
      have e5 := b5 _ _ npc (b4 _ _ npc e3)
      refine ⟨e5, kvP sg d g, rfl, (by show 3 ≤ 15; decide), ?_⟩
      have kp : KeepT H5 (upd H5 p (.dK (kvP sg d g))) := KeepT.upd (.dK e5)
      have hM5 := hM.but hc4 b5
      refine q p ⟨sg, W, G, 1 + k⟩ _ ⟨d, g, upd_same, ?_, kp _ _ hG, ⟨hsg, ord, ok, okg, Nat.le_trans lG ok.most⟩⟩ rfl (by show 1 + k ≤ 9; omega) (hc5.put npc) ((b1.trans b2).trans (((b3.trans b4).trans b5).putN np))
      obtain ⟨kvs5, e5', hw5⟩ := hM5
      have ndp : d ≠ p := fun e => by
        rw [e, e5] at e5'
        injection e5' with e5'
        injection e5' with e5'
        have l1 := ways_len hw5
        rw [← e5'] at l1
        have l2 := congrArg List.length ord
        rw [List.length_map, cds_len] at l2
        have := (sg_len hsg).1
        have l3 : 0 = W.length := l1
        omega
      exact ⟨kvs5, by rw [upd_ne ndp]; exact e5', hw5.keep kp⟩
end
end K24

set_option Elab.async false
set_option linter.all false
set_option maxRecDepth 100000
set_option maxHeartbeats 6400000
namespace K24
open PySem L2 Tx Tg Tm Da RZ
/-- the class, as the law sees it -/
structure MkR (P : Program) (w : World) (K : PySem.W.Frag) (mg : Str → Option Value) (base : Heap) (C fi : Addr) (di : FuncData) : Prop where
  W : WR K mg C
  M : Mk K C fi
  gi : FnOk P w K mg base CX0 5 fi di ["self", "letters", "moves", "yes"] (spInit C)
  bi : Binds K di ["self", "letters", "moves", "yes"] []
structure Cl (P : Program) (w : World) (K : PySem.W.Frag) (mg : Str → Option Value) (base : Heap) (C : Addr) where
  (fI fLe fMo fYe fLd fLn fIn fEq fSr pL pM pY : Addr)
  (dI dLe dMo dYe dLd dLn dIn dEq dSr : FuncData)
  MK : MkR P w K mg base C fI dI
  gLe : FnOk P w K mg base CX0 1 fLe dLe ["self"] (spLet C)
  gMo : FnOk P w K mg base CX0 1 fMo dMo ["self"] (spMov C)
  gYe : FnOk P w K mg base CX0 1 fYe dYe ["self"] (spYesP C)
  gLd : FnOk P w K mg base CX0 6 fLd dLd ["self", "state", "text"] (spLed C)
  gLn : FnOk P w K mg base CX0 1 fLn dLn ["self"] (spLen C)
  gIn : FnOk P w K mg base CX0 2 fIn dIn ["self", "value"] (spIn C)
  gEq : FnOk P w K mg base CX0 1 fEq dEq ["self", "other"] (spEq C)
  gEqX : FnOk P w K mg base CX0 1 fEq dEq ["self", "other"] (spEqX K C)
  gSr : FnOk P w K mg base CX0 3 fSr dSr ["self"] (spStr C)
  bLe : Binds K dLe ["self"] []
  bMo : Binds K dMo ["self"] []
  bYe : Binds K dYe ["self"] []
  bLd : Binds K dLd ["self", "state", "text"] []
  bLn : Binds K dLn ["self"] []
  bIn : Binds K dIn ["self", "value"] []
  bEq : Binds K dEq ["self", "other"] []
  bSr : Binds K dSr ["self"] []
  nf : PySem.W.notFirst K C (.ref C) = true
  ob : PySem.W.subIn K (.ref C) (.type "object") = some true
  sEq : PySem.W.findIn K (.ref C) "__eq__" = some (some (.ref fEq))
  sNe : PySem.W.findIn K (.ref C) "__ne__" = some (some (.builtin "object.__ne__"))
  sLn : PySem.W.findIn K (.ref C) "__len__" = some (some (.ref fLn))
  sIn : PySem.W.findIn K (.ref C) "__contains__" = some (some (.ref fIn))
  sSr : PySem.W.findIn K (.ref C) "__str__" = some (some (.ref fSr))
  fnEq : PySem.W.isFn K (.ref fEq) = true
  fnLn : PySem.W.isFn K (.ref fLn) = true
  fnIn : PySem.W.isFn K (.ref fIn) = true
  fnSr : PySem.W.isFn K (.ref fSr) = true
  mLd : Meth K C "led" fLd
  pLe : PropOf K C "letters" pL fLe
  pMo : PropOf K C "moves" pM fMo
  pYe : PropOf K C "yes" pY fYe
theorem ordW_self {sg : Str} {W : List Way} (hs : Signs sg) (e : W.map (·.1) = cds sg) : ordW sg W = W := by
  unfold ordW
  rw [← e, List.map_map]
  have nd : (W.map (·.1)).Nodup := by rw [e]; exact sg_nodup hs
  have : ∀ w ∈ W, ((fun c => (c, row W c)) ∘ fun w : Way => w.1) w = w := fun w hw => Prod.ext rfl (row_eq (l := w.2) nd hw)
  rw [List.map_congr_left this, List.map_id']
/-- what a dict of a reader holds -/
theorem PlainAt.get {H : Hp} {p : Addr} {r : Rdr} (h : PlainAt H p r) : ∃ d g, DGet H p (.str "signs") (some (.str r.sg)) ∧ DGet H p (.str "ways") (some (.ref d)) ∧ DGet H p (.str "good") (some (.ref g)) ∧ MovAt H d r.W ∧ RowAt H g r.G := by
  obtain ⟨d, g, e, m, y, ok⟩ := h
  refine ⟨d, g, ?_, ?_, ?_, m, y⟩
  · exact DGet.k (k := (Sum.inr "signs" : Key)) e
  · exact DGet.k (k := (Sum.inr "ways" : Key)) e
  · exact DGet.k (k := (Sum.inr "good" : Key)) e
section
variable {P : Program} {w : World} {K : PySem.W.Frag} {mg : Str → Option Value} {base : Heap} {CC : Addr}
abbrev nRead : List Str := ["_law_plain", "_law_at", "_law_line_here", "_law_sign"]
def spRead : Sp := fun vs H Q _ => ∃ (p : Addr) (r : Rdr) (q : Nat) (z : Str), vs = [.ref p, .int (q : Int), .str z] ∧ PlainAt H p r ∧ q < r.n ∧ Over r.sg z ∧ (run r.W q (cds z) < r.n → Q (.int (run r.W q (cds z) : Int)) H)
abbrev nSays : List Str := ["_law_plain", "_law_line_here"]
def spSays : Sp := fun vs H Q _ => ∃ (p : Addr) (r : Rdr) (z : Str), vs = [.ref p, .str z] ∧ PlainAt H p r ∧ Over r.sg z ∧ Q (.bl (decide (run r.W 0 (cds z) ∈ r.G))) H
abbrev nMade : List Str := ["_law_plain"]
def spMade (C : Addr) : Sp := fun vs H Q _ => ∃ (p : Addr) (r : Rdr), vs = [.ref p] ∧ PlainAt H p r ∧ ∀ x H', Same H H' → RdAt C H' x r → Q (.ref x) H'
theorem scMade : FnScope nMade ["_law_plain"] (defScope sMade) := ⟨rfl, rfl, rfl, by decide +kernel, rfl, by decide +kernel, by decide +kernel⟩
theorem made_tail {C : Addr} {H : Hp} {Q : VK} {E : XK} {sg : Str} {d g : Addr} {W : List Way} {G : List Nat} {n : Nat} (hsg : Signs sg) (hM : MovAt H d W) (ok : okW n sg W) (hG : RowAt H g G) (og : okG n G) (few : G.length ≤ 60) (q : ∀ x H', Same H H' → RdAt C H' x ⟨sg, ordW sg W, G, n⟩ → Q (.ref x) H') :
    ∀ x dx, H x = none → H dx = none → dx ≠ x → spInit C (.ref x :: ([V.str sg, V.ref d, V.ref g] ++ [])) (upd (upd H dx (.own x)) x (.ins C dx [])) (fun v H2 => v = .non ∧ Q (.ref x) H2) E := fun x dx nx ndx nex => by
  have sX : Same H (upd (upd H dx (.own x)) x (.ins C dx [])) := fun b o e => by
    rw [upd_ne (ne_of_none e nx), upd_ne (ne_of_none e ndx)]
    exact e
  refine ⟨x, dx, sg, d, g, W, G, n, rfl, upd_same, hsg, hM.same sX, ok, sX _ _ hG, og, few, fun H' b h => ⟨rfl, q x H' (fun c o e => b _ _ (ne_of_none e nx) (sX _ _ e)) h⟩⟩
theorem ok_made {f : Addr} {fd : FuncData} (F : Fun K "_law_made_reader" "_law_made_reader" sMade f fd) (C : Cl P w K mg base CC) : FnOk P w K mg base CX0 7 f fd ["_law_plain"] (spMade CC) := by
  refine F.ok scMade (fun vs H Q E h => ?_) (fun cdv A outer s H vs Q E hr h => ?_)
  · obtain ⟨p, r, rfl, _⟩ := h
    rfl
  · obtain ⟨p, r, rfl, hP, q⟩ := h
    have hu := hu_of hr
    have ok := hP.ok
    obtain ⟨d, g, g1, g2, g3, hM, hg⟩ := hP.get
    refine ⟨_, (pss_one (ps_ret (pe_make C.MK.M C.MK.gi (hr.mono (by decide)) (by rfl) C.MK.W.gR C.MK.bi .nil pass0 (pa_cons (pe_dget hu (pv 0) pe_str (fun _ _ => rfl)) (pa_cons (pe_dget hu (pv 0) pe_str (fun _ _ => rfl)) (pa_cons (pe_dget hu (pv 0) pe_str (fun _ _ => rfl)) pa_nil)))))), ?_⟩
    refine ⟨_, rfl, p, _, rfl, g1, _, rfl, p, _, rfl, g2, _, rfl, p, _, rfl, g3, ?_⟩
    refine made_tail ok.sg hM ok.W hg ok.G ok.few fun x H' s h => q x H' s ?_
    rw [ordW_self ok.sg ok.ord] at h
    exact h
abbrev nCount : List Str := ["_law_plain"]
def spCount : Sp := fun vs H Q _ => ∃ (p : Addr) (r : Rdr), vs = [.ref p] ∧ PlainAt H p r ∧ Q (.int (r.n : Int)) H
/-! ### shown -/
structure Sd (n w : Nat) (d : PyData) : Prop where
  sh : d.showable = true
  ls : d.leavesShort 20 = true
  dp : d.depth ≤ n
  wt : d.weight ≤ w
  nl : noL d = true
structure SdA (n w : Nat) (ds : List PyData) : Prop where
  sh : PyData.showableAll ds = true
  ls : PyData.leavesShortAll 20 ds = true
  dp : PyData.depthAll ds ≤ n
  wt : PyData.weightAll ds ≤ w
  nl : noLAll ds = true
structure SdK (n w : Nat) (ds : List (PyData × PyData)) : Prop where
  sh : PyData.showableKv ds = true
  ls : PyData.leavesShortKv 20 ds = true
  dp : PyData.depthKv ds ≤ n
  wt : PyData.weightKv ds ≤ w
  nl : noLKv ds = true
theorem SdA.cons {n m w v x : Nat} {d : PyData} {ds : List PyData} (h : Sd m v d) (k : SdA n w ds) (hm : m ≤ n) (hw : v + 1 + w ≤ x) : SdA n x (d :: ds) where
  sh := by show (d.showable && PyData.showableAll ds) = true; rw [h.sh, k.sh]; rfl
  ls := by show (d.leavesShort 20 && PyData.leavesShortAll 20 ds) = true; rw [h.ls, k.ls]; rfl
  dp := Nat.max_le.mpr ⟨Nat.le_trans h.dp hm, k.dp⟩
  wt := by show d.weight + 1 + PyData.weightAll ds ≤ x; have := h.wt; have := k.wt; omega
  nl := by show (noL d && noLAll ds) = true; rw [h.nl, k.nl]; rfl
theorem SdA.nil {n w : Nat} : SdA n w [] := ⟨rfl, rfl, Nat.zero_le _, Nat.zero_le _, rfl⟩
theorem SdA.tup {n w : Nat} {ds : List PyData} (h : SdA n w ds) : Sd (n + 1) w (.tuple ds) := ⟨h.sh, h.ls, Nat.succ_le_succ h.dp, h.wt, h.nl⟩
theorem SdK.cons {n a b v w x : Nat} {k d : PyData} {ds : List (PyData × PyData)} (hk : Sd a v k) (h : Sd n b d) (t : SdK n w ds) (ha : a ≤ n) (hw : v + b + 2 + w ≤ x) : SdK n x ((k, d) :: ds) where
  sh := by show (k.showable && d.showable && PyData.showableKv ds) = true; rw [hk.sh, h.sh, t.sh]; rfl
  ls := by show (k.leavesShort 20 && d.leavesShort 20 && PyData.leavesShortKv 20 ds) = true; rw [hk.ls, h.ls, t.ls]; rfl
  dp := Nat.max_le.mpr ⟨Nat.max_le.mpr ⟨Nat.le_trans hk.dp ha, h.dp⟩, t.dp⟩
  wt := by show k.weight + d.weight + 2 + PyData.weightKv ds ≤ x; have := hk.wt; have := h.wt; have := t.wt; omega
  nl := by show (noL d && noLKv ds) = true; rw [h.nl, t.nl]; rfl
theorem Sd.dict {n w : Nat} {ds : List (PyData × PyData)} (h : SdK n w ds) : Sd (n + 1) w (.dict ds) := ⟨h.sh, h.ls, Nat.succ_le_succ h.dp, h.wt, h.nl⟩
theorem Sd.of {n w : Nat} {d : PyData} (h : Sh n w d) (nl : noL d = true) : Sd n w d := ⟨h.sh, PyData.leavesShort_of_canLay0 20 d h.lay h.sht, h.dp, h.wt, nl⟩
theorem Sd.len {n w : Nat} {d : PyData} (h : Sd n w d) (hw : w ≤ 200000) : d.shown.length ≤ sizeLine := by
  have h2 := PyData.shown_le 20 (by decide) d h.ls
  have := h.wt
  exact Nat.le_trans h2 (Nat.le_trans (show _ ≤ 22 * 200000 + 20 by omega) (by decide))
theorem SdA.lenL {n w : Nat} {ds : List PyData} (h : SdA n w ds) (hw : w ≤ 200000) : (PyData.list ds).shown.length ≤ sizeLine := by
  have h2 := PyData.shown_le 20 (by decide) (.list ds) h.ls
  have h3 : (PyData.list ds).weight ≤ w := h.wt
  exact Nat.le_trans h2 (Nat.le_trans (show _ ≤ 22 * 200000 + 20 by omega) (by decide))
theorem sd_nats : ∀ {l : List Nat}, (∀ q ∈ l, q ≤ 1000) → SdA 0 (13 * l.length) (natsD l)
  | [], _ => .nil
  | a :: l, h => by
    refine .cons (.of (Sh.int (m := a) (w := 12) (h a List.mem_cons_self) (Nat.le_refl _)) rfl) (sd_nats fun q hq => h q (List.mem_cons_of_mem _ hq)) (Nat.le_refl _) ?_
    rw [List.length_cons]
    omega
theorem sd_one {c : Nat} (h : c < 128) : Sd 0 1 (.str (one c)) := .of (.str (fun x hx => by
  have : x ∈ [c] := hx
  rw [List.mem_singleton.mp this]
  exact h) (Nat.le_refl _)) rfl
theorem sd_ways : ∀ {W : List Way}, (∀ w ∈ W, w.1 < 128 ∧ w.2.length ≤ 60 ∧ ∀ q ∈ w.2, q ≤ 1000) → SdK 1 (800 * W.length) (waysD W)
  | [], _ => ⟨rfl, rfl, Nat.zero_le _, Nat.zero_le _, rfl⟩
  | w :: W, h => by
    obtain ⟨h1, h2, h3⟩ := h w List.mem_cons_self
    refine .cons (sd_one h1) (sd_nats h3).tup (sd_ways fun q hq => h q (List.mem_cons_of_mem _ hq)) (Nat.zero_le _) ?_
    rw [List.length_cons]
    omega
theorem sd_okW {n : Nat} {sg : Str} {W : List Way} (h : okW n sg W) (hs : Signs sg) : Sd 2 2400 (.dict (waysD W)) := by
  have l := h.len
  have := (sg_len hs).2
  have k := sd_ways (W := W) fun w hw => by
    obtain ⟨h1, h2⟩ := h.rows w hw
    have hm := h.most
    refine ⟨?_, by omega, fun q hq => by have := h2 q hq; omega⟩
    have := (sg_range hs w.1 (h.keys.mem_iff.mp (List.mem_map.mpr ⟨w, hw, rfl⟩))).2
    omega
  exact .dict ⟨k.sh, k.ls, k.dp, Nat.le_trans k.wt (by omega), k.nl⟩
theorem sd_okG {n : Nat} {G : List Nat} (h : okG n G) (hn : n ≤ 60) (few : G.length ≤ 60) : Sd 1 780 (.tuple (natsD G)) := by
  have k := sd_nats (l := G) fun q hq => by have := h.lt q hq; omega
  exact SdA.tup ⟨k.sh, k.ls, k.dp, Nat.le_trans k.wt (by omega), k.nl⟩
theorem sd_sg {sg : Str} (h : Signs sg) : Sd 0 3 (.str sg) := .of (.str (sg_plain h) (sg_len h).2) rfl
/-- the three parts of a reader -/
theorem sd_parts {r : Rdr} (ok : okR r) : SdA 2 3200 [.str r.sg, .dict (waysD r.W), .tuple (natsD r.G)] :=
  .cons (sd_sg ok.sg) (.cons (sd_okW ok.W ok.sg) (.cons (sd_okG ok.G ok.W.most ok.few) .nil (n := 2) (w := 0) (by decide) (Nat.le_refl _)) (Nat.le_refl _) (Nat.le_refl _)) (by decide) (by decide)
abbrev nIsR : List Str := ["_law_made", "_law_plain"]
def spIsR (C : Addr) : Sp := fun vs H Q _ => ∃ (x p : Addr) (r : Rdr), vs = [.ref x, .ref p] ∧ RdAt C H x r ∧ PlainAt H p r ∧ ∀ H', Same H H' → Q (.bl true) H'
theorem strs_of {P : Str → Prop} : ∀ {zs : List V}, (∀ (i : Nat) (y : V), zs[i]? = some y → ∃ z : Str, y = .str z ∧ P z) → ∃ ss : List Str, zs = ss.map V.str ∧ ∀ z ∈ ss, P z
  | [], _ => ⟨[], rfl, nofun⟩
  | z :: zs, h => by
    obtain ⟨s, e, hs⟩ := h 0 z rfl
    obtain ⟨ss, e2, h2⟩ := strs_of (P := P) (zs := zs) fun i y hy => h (i + 1) y hy
    exact ⟨s :: ss, by rw [e, e2]; rfl, fun x hx => by
      rcases List.mem_cons.mp hx with rfl | hx
      · exact hs
      · exact h2 x hx⟩
abbrev nLines : List Str := ["_law_cup_here", "_law_signs_here", "_law_most", "_law_many", "_law_turn"]
def spLines : Sp := fun vs H Q _ => ∃ (c : Addr) (sg : Str) (m n : Nat), vs = [.ref c, .str sg, .int (m : Int), .int (n : Int)] ∧ Cup H c ∧ Signs sg ∧ m ≤ 20 ∧ n ≤ 20 ∧ ∀ (p : Addr) (zs : List Str) (H' : Hp), H' p = some (.lst (zs.map V.str)) → (∀ z ∈ zs, Over sg z ∧ z.length ≤ 20) → zs.length = n + 1 → p ≠ c → Cup H' c → But c H H' → Q (.ref p) H'
end
end K24

set_option Elab.async false
set_option linter.all false
set_option maxRecDepth 100000
set_option maxHeartbeats 6400000
namespace K24
open PySem L2 Tx Tg Tm Da RZ
theorem ite_of {c : Prop} [Decidable c] {A B : Prop} (h1 : c → A) (h2 : ¬ c → B) : if c then A else B := by
  by_cases h : c
  · rw [if_pos h]
    exact h1 h
  · rw [if_neg h]
    exact h2 h
theorem cut_till (xs : List V) (r : Nat) : cutV xs none (some (r : Int)) = xs.take r := by
  unfold cutV
  rw [HT.sIx_none, HT.sIx_nat, List.drop_zero, Nat.sub_zero]
  by_cases h : r ≤ xs.length
  · rw [Nat.min_eq_left h]
  · rw [Nat.min_eq_right (by omega), List.take_of_length_le (Nat.le_refl _), List.take_of_length_le (by omega)]
section
variable {K : PySem.W.Frag}
/-- t[:r] -/
theorem sl_take {Q : VK} {H : Hp} {pt : Addr} {l : List Nat} {r : Nat} (h : RowAt H pt l) (q : ∀ p H', Same H H' → RowAt H' p (l.take r) → Q (.ref p) H') : rSlA K (.ref pt) none (some (r : Int)) H Q := by
  refine ⟨pt, natsV l, rfl, SqT.of h, fun hw => ?_, fun _ p np => ?_⟩
  · have h1 := hw.2
    rw [HT.sIx_nat, List.length_map] at h1
    refine q pt H (Same.refl H) ?_
    rw [List.take_of_length_le (by omega)]
    exact h
  · rw [cut_till, ← List.map_take]
    exact q p _ (same_upd np) upd_same
theorem cat_rows {Q : VK} {H : Hp} {a b : Addr} {l m : List Nat} (ha : RowAt H a l) (hb : RowAt H b m) (hl : l.length + m.length ≤ sizeLine) (q : ∀ p H', Same H H' → RowAt H' p (l ++ m) → Q (.ref p) H') : rCatA K (.ref a) (.ref b) H Q := by
  refine ⟨a, b, natsV l, natsV m, rfl, rfl, SqT.of ha, SqT.of hb, by rw [List.length_map, List.length_map]; exact hl, fun e => ?_, fun _ e => ?_, fun _ _ p np => ?_⟩
  · have e := List.map_eq_nil_iff.mp e
    refine q b H (Same.refl H) ?_
    rw [e]
    exact hb
  · have e := List.map_eq_nil_iff.mp e
    refine q a H (Same.refl H) ?_
    rw [e, List.append_nil]
    exact ha
  · rw [← List.map_append]
    exact q p _ (same_upd np) upd_same
end
/-- a letter's row set anew -/
def setW (W : List Way) (c : Nat) (l : List Nat) : List Way := W.map fun w => if w.1 = c then (c, l) else w
theorem setW_keys {W : List Way} {c : Nat} {l : List Nat} : (setW W c l).map (·.1) = W.map (·.1) := by
  unfold setW
  rw [List.map_map]
  refine List.map_congr_left fun w _ => ?_
  show (if w.1 = c then (c, l) else w).1 = w.1
  split
  · exact (by assumption : w.1 = c).symm
  · rfl
theorem WsAt.set {H : Hp} {c p : Nat} {l : List Nat} (hr : RowAt H p l) : ∀ {kvs : List (Key × V)} {W : List Way}, WsAt H kvs W → WsAt H (kvs.map fun kv => if kv.1 = (Sum.inr (one c) : Key) then (kv.1, V.ref p) else kv) (setW W c l)
  | _, _, .nil => .nil
  | _, _, .cons (b := w) ⟨a, e, h⟩ t => by
    subst e
    refine .cons ?_ (WsAt.set hr t)
    by_cases hc : w.1 = c
    · subst hc
      simp only [if_true]
      exact ⟨p, rfl, hr⟩
    · have : ¬ ((Sum.inr (one w.1) : Key) = Sum.inr (one c)) := fun e => hc (key_one.mp e)
      simp only [if_neg this, if_neg hc]
      exact ⟨a, rfl, h⟩
theorem keys_of {H : Hp} : ∀ {kvs : List (Key × V)} {W : List Way}, WsAt H kvs W → kvs.map (·.1) = W.map fun w => (Sum.inr (one w.1) : Key)
  | _, _, .nil => rfl
  | _, _, .cons ⟨_, e, _⟩ t => by
    subst e
    rw [List.map_cons, List.map_cons, keys_of t]
theorem natsV_inj : ∀ {l m : List Nat}, natsV l = natsV m → l = m
  | [], [], _ => rfl
  | [], _ :: _, h => nomatch h
  | _ :: _, [], h => nomatch h
  | a :: l, b :: m, h => by
    have h : V.int (a : Int) :: natsV l = V.int (b : Int) :: natsV m := h
    injection h with h1 h2
    injection h1 with h1
    rw [natsV_inj h2, show a = b by omega]
theorem putK_set {kvs : List (Key × V)} {k : Key} {v : V} (h : (valV kvs k).isSome = true) : putK kvs k v = kvs.map fun kv => if kv.1 = k then (kv.1, v) else kv := by
  unfold putK
  have : (kvs.any fun kv => decide (kv.1 = k)) = true := by
    rw [valV_any]
    exact h
  rw [this]
  rfl
section
variable {P : Program} {w : World} {K : PySem.W.Frag} {mg : Str → Option Value} {base : Heap} {CC : Addr}
abbrev nNear : List Str := ["_law_cup_here", "_law_plain", "_law_lot", "_law_many", "_law_at", "_law_ways", "_law_good", "_law_sign", "_law_state"]
def spNear : Sp := fun vs H Q _ => ∃ (c p : Addr) (r : Rdr), vs = [.ref c, .ref p] ∧ Cup H c ∧ PlainAt H p r ∧ ∀ p' r' H', PlainAt H' p' r' → r'.sg = r.sg → Cup H' c → But c H H' → Q (.ref p') H'
end
end K24

set_option Elab.async false
set_option linter.all false
set_option maxRecDepth 100000
set_option maxHeartbeats 6400000
namespace K24
open PySem L2 Tx Tg Tm Da RZ
theorem no_over {r : Rdr} {z : Str} (h : only z r.sg = false) : (has r.sg 4000 (.str z) && yesOf r (.str z)) = false := by
  show (decide (z.length ≤ 4000) && only z r.sg && _) = false
  rw [h, Bool.and_false, Bool.false_and]
theorem odd_texts {sg : Str} (h : Signs sg) {x0 : Nat} (hx : (cds sg)[0]? = some x0) : (Fine (Txt.upper sg) ∧ only (Txt.upper sg) sg = false) ∧ (Fine (Str.ofString "a b") ∧ only (Str.ofString "a b") sg = false) ∧ (Fine (one x0 ++ Str.ofString "z") ∧ only (one x0 ++ Str.ofString "z") sg = false) := by
  have mk : ∀ {z : Str}, (decide (z.length ≤ 4001) && decide ((met [] (cds z)).length < 64) && (cds z).all fun c => decide (c < 128)) = true → Fine z := fun h => by
    rw [Bool.and_eq_true, Bool.and_eq_true, decide_eq_true_iff, decide_eq_true_iff, List.all_eq_true] at h
    exact ⟨h.1.1, h.1.2, fun c hc => of_decide_eq_true (h.2 c hc)⟩
  rcases h with rfl | rfl | rfl | rfl | rfl
  · have e : (cds ("ab" : Str))[0]? = some 97 := by decide +kernel
    rw [e] at hx
    cases hx
    exact ⟨⟨mk (by decide +kernel), by decide +kernel⟩, ⟨mk (by decide +kernel), by decide +kernel⟩, ⟨mk (by decide +kernel), by decide +kernel⟩⟩
  · have e : (cds ("xy" : Str))[0]? = some 120 := by decide +kernel
    rw [e] at hx
    cases hx
    exact ⟨⟨mk (by decide +kernel), by decide +kernel⟩, ⟨mk (by decide +kernel), by decide +kernel⟩, ⟨mk (by decide +kernel), by decide +kernel⟩⟩
  · have e : (cds ("a" : Str))[0]? = some 97 := by decide +kernel
    rw [e] at hx
    cases hx
    exact ⟨⟨mk (by decide +kernel), by decide +kernel⟩, ⟨mk (by decide +kernel), by decide +kernel⟩, ⟨mk (by decide +kernel), by decide +kernel⟩⟩
  · have e : (cds ("abc" : Str))[0]? = some 97 := by decide +kernel
    rw [e] at hx
    cases hx
    exact ⟨⟨mk (by decide +kernel), by decide +kernel⟩, ⟨mk (by decide +kernel), by decide +kernel⟩, ⟨mk (by decide +kernel), by decide +kernel⟩⟩
  · have e : (cds ("b" : Str))[0]? = some 98 := by decide +kernel
    rw [e] at hx
    cases hx
    exact ⟨⟨mk (by decide +kernel), by decide +kernel⟩, ⟨mk (by decide +kernel), by decide +kernel⟩, ⟨mk (by decide +kernel), by decide +kernel⟩⟩
theorem odd_signs {r : Rdr} (h : Signs r.sg) {x0 : Nat} (hx : (cds r.sg)[0]? = some x0) : Ok (.str (Txt.upper r.sg)) ∧ (has r.sg 4000 (.str (Txt.upper r.sg)) && yesOf r (.str (Txt.upper r.sg))) = false ∧ Ok (.str (Str.ofString "a b")) ∧ (has r.sg 4000 (.str (Str.ofString "a b")) && yesOf r (.str (Str.ofString "a b"))) = false ∧
    Ok (.str (one x0 ++ Str.ofString "z")) ∧ (has r.sg 4000 (.str (one x0 ++ Str.ofString "z")) && yesOf r (.str (one x0 ++ Str.ofString "z"))) = false := by
  obtain ⟨⟨f1, o1⟩, ⟨f2, o2⟩, f3, o3⟩ := odd_texts h hx
  exact ⟨f1, no_over o1, f2, no_over o2, f3, no_over o3⟩
theorem ne_if {v : V} {A B : Prop} (h : B) : if (!decide (v = v)) = true then A else B := by
  rw [decide_eq_true rfl]
  exact h
section
variable {P : Program} {w : World} {K : PySem.W.Frag} {mg : Str → Option Value} {base : Heap} {CC : Addr}
abbrev nAll : List Str := ["_law_made", "_law_plain", "_law_lines_here", "_law_many", "_law_line_here", "_law_state", "_law_odd", "_law_value"]
def spAll (C : Addr) : Sp := fun vs H Q _ => ∃ (x p a : Addr) (r : Rdr) (zs : List Str), vs = [.ref x, .ref p, .ref a] ∧ RdAt C H x r ∧ PlainAt H p r ∧ H a = some (.lst (zs.map V.str)) ∧ (∀ z ∈ zs, Over r.sg z ∧ z.length ≤ 20) ∧ zs.length ≤ 30 ∧ ∀ H', Same H H' → Q (.bl true) H'
end
end K24

set_option Elab.async false
set_option linter.all false
set_option maxRecDepth 100000
set_option maxHeartbeats 6400000
namespace K24
open PySem L2 Tx Tg Tm Da RZ
structure Off (K : PySem.W.Frag) (C : Addr) (T : String) : Prop where
  n : PySem.W.notFirst K C (.type T) = true
  k : PySem.W.kitOne K (.type T) (.ref C) = some false
def ttV (K : PySem.W.Frag) (C : Addr) : TT := tOr (tTest (tOp (fun x y H Q => Ow.rOwn C (spEq C) E0 x y H Q ∨ Ow.rOwnX K C (spEqX K C) E0 x y H Q) (tVar 6) (tVar 12))) (tNot (tTest (tOp (fun x y H Q => Ow.rOwnNe C (spEq C) E0 x y H Q ∨ Ow.rOwnNeX K C (spEqX K C) E0 x y H Q) (tVar 6) (tVar 12))))
theorem odd_off {K : PySem.W.Frag} {C : Addr} {H : Hp} {p : Addr} {r : Rdr} {x : V} {t : Value} {σ : L2.St} {D : Bool → Hp → Prop} (h : RdAt C H p r) (ty : TyX K H x t) (n : PySem.W.notFirst K C t = true) (k : PySem.W.kitOne K t (.ref C) = some false)
    (h5 : σ[6]? = some (some (.ref p))) (h16 : σ[12]? = some (some x)) (q : D false H) : ttV K C σ H D := by
  obtain ⟨dx, a, b, hins, _⟩ := id h
  exact ⟨_, h5, _, h16, .inr ⟨p, dx, _, t, rfl, hins, ty, n, p, x, t, rfl, ty, k, _, rfl, iteF ⟨_, h5, _, h16, .inr ⟨p, dx, _, t, rfl, hins, ty, n, p, x, t, rfl, ty, k, false, rfl, _, rfl, q⟩⟩⟩⟩
/-- a reader as a dict of data -/
abbrev plainD (r : Rdr) : List (PyData × PyData) := [(.str "signs", .str r.sg), (.str "ways", .dict (waysD r.W)), (.str "good", .tuple (natsD r.G))]
theorem plain_dr {K : PySem.W.Frag} {H : Hp} {p : Addr} {r : Rdr} (h : PlainAt H p r) : Dr K H (.ref p) (.dict (plainD r)) := by
  obtain ⟨d, g, e, m, y, ok⟩ := h
  exact .dct e (.cons (.str _) (.cons (mov_dr m) (.cons (row_dr y) .nil)))
theorem plain_alike {r r' : Rdr} (ok : okR r) (ok' : okR r') (e : r'.sg = r.sg) : AlikeKv (plainD r) (plainD r') :=
  .cons (.str _ _) (.cons (.dct (ways_alike (by rw [ok.ord, ok'.ord, e]))) (.cons (.tup (nats_alike _ _)) .nil))
theorem plain_dq {r r' : Rdr} (ok : okR r) (ok' : okR r') (e : r'.sg = r.sg) : dqKv (plainD r) (plainD r') = reqB r r' := by
  show ((r.sg == r'.sg) && (dqKv (waysD r.W) (waysD r'.W) && (dqAll (natsD r.G) (natsD r'.G) && true))) = _
  rw [ways_dq (by rw [ok.ord, ok'.ord, e]), nats_dq, e, beq_self_eq_true, Bool.true_and, Bool.and_true, ← Bool.decide_and]
  exact decide_eq_decide.mpr ⟨fun ⟨a, b⟩ => ⟨e.symm, a, b⟩, fun h => h.2⟩
theorem plain_depth (r : Rdr) : PyData.depthKv (plainD r) ≤ 60 := by
  have h1 := ways_deep r.W
  have h2 := nats_deep r.G
  show max (max 0 0) (max (max 0 (PyData.depthKv (waysD r.W) + 1)) (max (max 0 (PyData.depthAll (natsD r.G) + 1)) 0)) ≤ 60
  rw [h2]
  omega
theorem reqB_symm (r r' : Rdr) : reqB r' r = reqB r r' := decide_eq_decide.mpr ⟨fun h => ⟨h.1.symm, h.2.1.symm, h.2.2.symm⟩, fun h => ⟨h.1.symm, h.2.1.symm, h.2.2.symm⟩⟩
theorem reqB_self (r : Rdr) : reqB r r = true := decide_eq_true ⟨rfl, rfl, rfl⟩
theorem bools4 (b : Bool) : (PyData.list [.bool b, .bool b, .bool b, .bool b]).showable = true ∧ (PyData.list [.bool b, .bool b, .bool b, .bool b]).depth < 60 ∧ (PyData.list [.bool b, .bool b, .bool b, .bool b]).shown.length ≤ sizeLine := by
  cases b
  · exact ⟨rfl, by decide, Nat.le_trans (show _ ≤ 50 by decide +kernel) (by decide)⟩
  · exact ⟨rfl, by decide, Nat.le_trans (show _ ≤ 50 by decide +kernel) (by decide)⟩
/-- the rows in another order -/
def ordL (l : List Nat) (W : List Way) : List Way := l.map fun c => (c, row W c)
theorem ordL_keys {l : List Nat} {W : List Way} : (ordL l W).map (·.1) = l := by
  unfold ordL
  rw [List.map_map]
  exact List.map_id' _
theorem ordL_ok {n : Nat} {sg : Str} {W : List Way} {l : List Nat} (h : okW n sg W) (hs : Signs sg) (hp : l.Perm (cds sg)) : okW n sg (ordL l W) := by
  refine ⟨by rw [ordL_keys]; exact hp, fun w hw => ?_, h.one, h.most⟩
  obtain ⟨c, hc, rfl⟩ := List.mem_map.mp hw
  obtain ⟨x, hx, h1, h2⟩ := h.has (hp.mem_iff.mp hc)
  rw [show row W c = x from row_eq (h.nodup hs) hx]
  exact ⟨h1, h2⟩
theorem ordL_row {sg : Str} {W : List Way} {l : List Nat} (hs : Signs sg) (hp : l.Perm (cds sg)) : ordW sg (ordL l W) = ordW sg W := by
  unfold ordW
  refine List.map_congr_left fun c hc => ?_
  have nd : ((ordL l W).map (·.1)).Nodup := by rw [ordL_keys]; exact hp.nodup_iff.mpr (sg_nodup hs)
  rw [row_eq nd (List.mem_map.mpr ⟨c, hp.mem_iff.mpr hc, rfl⟩)]
theorem keys_nodupN {W : List Way} (nd : (W.map (·.1)).Nodup) : (W.map (fun w => (Sum.inr (one w.1) : Key))).Nodup := by
  have : W.map (fun w => (Sum.inr (one w.1) : Key)) = (W.map (·.1)).map fun c => (Sum.inr (one c) : Key) := by rw [List.map_map]; rfl
  rw [this]
  exact List.Pairwise.map _ (fun a b (h : a ≠ b) e => h (key_one.mp e)) nd
theorem dict_pairsN {K : PySem.W.Frag} {H : Hp} {ps : List Addr} {W : List Way} (h : PairsW H ps W) (nd : (W.map (·.1)).Nodup) :
    ∃ kvs : List (Key × V), Paired (fun p kv => SqT K H p [kV kv.1, kv.2]) ps kvs ∧ ∀ p, H p = none → Same H (upd H p (.dK (mergeK [] kvs))) ∧ MovAt (upd H p (.dK (mergeK [] kvs))) p W := by
  obtain ⟨kvs, p1, p2, p3⟩ := pairs_dict (K := K) h
  refine ⟨kvs, p1, fun p np => ?_⟩
  have s1 := same_upd (o := .dK (mergeK [] kvs)) np
  refine ⟨s1, kvs, ?_, p2.keep (.same s1)⟩
  rw [upd_same, merge_new (by rw [List.nil_append, p3]; exact keys_nodupN nd), List.nil_append]
section
variable {P : Program} {w : World} {K : PySem.W.Frag} {mg : Str → Option Value} {base : Heap} {CC : Addr}
abbrev nCell : List Str := ["_law_cup_here", "_law_plain", "_law_other", "_law_lines_here", "_law_ways", "_law_before", "_law_one", "_law_two", "_law_twin", "_law_turn", "_law_odd", "_law_sign", "_law_value"]
def spCell : Sp := fun vs H Q _ => ∃ (c : Addr), vs = [.ref c] ∧ Cup H c ∧ ∀ H', But c H H' → Cup H' c → Q (.bl true) H'
theorem scCell : FnScope nCell ["_law_cup_here"] (defScope sCell) := ⟨rfl, rfl, rfl, by decide +kernel, rfl, by decide +kernel, by decide +kernel⟩
variable {fPl fSi fNe fLi fDe fMa fAl : Addr} {dPl dSi dNe dLi dDe dMa dAl : FuncData}
end
end K24

set_option linter.all false
/-! a walk through nodes, first found first walked; what a map of nodes makes of it; marks of states that tell their answers (core Lean alone) -/
namespace Au
variable {α β γ : Type}
section
variable [DecidableEq α]
/-- the node behind a letter is found, if it was not -/
def visit (nx : Nat → α → α) (x : α × List Nat) (f : List (α × List Nat)) (c : Nat) : List (α × List Nat) := if nx c x.1 ∈ f.map (·.1) then f else f ++ [(nx c x.1, x.2 ++ [c])]
def turn (L : List Nat) (nx : Nat → α → α) (x : α × List Nat) (f : List (α × List Nat)) : List (α × List Nat) := L.foldl (visit nx x) f
/-- what is found when k nodes have been walked -/
def upTo (L : List Nat) (nx : Nat → α → α) (s : α) : Nat → List (α × List Nat)
  | 0 => [(s, [])]
  | k + 1 => match (upTo L nx s k)[k]? with
    | none => upTo L nx s k
    | some x => turn L nx x (upTo L nx s k)
def runs (nx : Nat → α → α) (s : α) (w : List Nat) : α := w.foldl (fun s c => nx c s) s
def Full (L : List Nat) (nx : Nat → α → α) (s : α) (l : List (α × List Nat)) : Prop := ∃ k, l = upTo L nx s k ∧ l.length ≤ k
variable {L : List Nat} {nx : Nat → α → α} {s : α} {x : α × List Nat} {f l : List (α × List Nat)} {k j c : Nat}
omit [DecidableEq α] in
theorem runs_nil : runs nx s [] = s := rfl
omit [DecidableEq α] in
theorem runs_cons {w : List Nat} : runs nx s (c :: w) = runs nx (nx c s) w := rfl
omit [DecidableEq α] in
theorem runs_app {w v : List Nat} : runs nx s (w ++ v) = runs nx (runs nx s w) v := List.foldl_append
theorem visit_pre : f <+: visit nx x f c := by
  unfold visit
  split
  · exact List.prefix_refl f
  · exact List.prefix_append f _
theorem turn_pre : ∀ {L : List Nat} {f : List (α × List Nat)}, f <+: turn L nx x f
  | [], f => List.prefix_refl f
  | c :: L, f => (visit_pre (c := c)).trans (turn_pre (L := L) (f := visit nx x f c))
theorem upTo_pre : upTo L nx s k <+: upTo L nx s (k + 1) := by
  show _ <+: match (upTo L nx s k)[k]? with | none => upTo L nx s k | some x => turn L nx x (upTo L nx s k)
  split
  · exact List.prefix_refl _
  · exact turn_pre
theorem upTo_le (h : k ≤ j) : upTo L nx s k <+: upTo L nx s j := by
  induction h with
  | refl => exact List.prefix_refl _
  | step _ ih => exact ih.trans upTo_pre
theorem upTo_done (h : (upTo L nx s k).length ≤ k) (hj : k ≤ j) : upTo L nx s j = upTo L nx s k := by
  induction hj with
  | refl => rfl
  | @step j hj ih =>
    show (match (upTo L nx s j)[j]? with | none => upTo L nx s j | some x => turn L nx x (upTo L nx s j)) = _
    rw [ih, List.getElem?_eq_none (Nat.le_trans h hj)]
theorem upTo_some (h : (upTo L nx s k)[k]? = some x) : upTo L nx s (k + 1) = turn L nx x (upTo L nx s k) := by
  show (match (upTo L nx s k)[k]? with | none => upTo L nx s k | some x => turn L nx x (upTo L nx s k)) = _
  rw [h]
theorem upTo_none (h : (upTo L nx s k)[k]? = none) : upTo L nx s (k + 1) = upTo L nx s k := by
  show (match (upTo L nx s k)[k]? with | none => upTo L nx s k | some x => turn L nx x (upTo L nx s k)) = _
  rw [h]
theorem Full.uniq {l' : List (α × List Nat)} (h : Full L nx s l) (h' : Full L nx s l') : l = l' := by
  obtain ⟨k, rfl, e⟩ := h
  obtain ⟨j, rfl, e'⟩ := h'
  rcases Nat.le_total k j with q | q
  · exact (upTo_done e q).symm
  · exact upTo_done e' q
/-! ### what is found -/
theorem visit_nd (h : (f.map (·.1)).Nodup) : ((visit nx x f c).map (·.1)).Nodup := by
  unfold visit
  split
  · exact h
  · rename_i n
    rw [List.map_append, List.nodup_append]
    refine ⟨h, by simp, fun a ha b hb e => ?_⟩
    simp only [List.map_cons, List.map_nil, List.mem_singleton] at hb
    subst e
    exact n (hb ▸ ha)
theorem turn_nd : ∀ {L : List Nat} {f : List (α × List Nat)}, (f.map (·.1)).Nodup → ((turn L nx x f).map (·.1)).Nodup
  | [], _, h => h
  | _ :: L, _, h => turn_nd (L := L) (visit_nd h)
theorem upTo_nd : ((upTo L nx s k).map (·.1)).Nodup := by
  induction k with
  | zero => simp [upTo]
  | succ k ih =>
    cases q : (upTo L nx s k)[k]? with
    | none => rwa [upTo_none q]
    | some x =>
      rw [upTo_some q]
      exact turn_nd ih
/-- each node is where its text leads -/
def Led (L : List Nat) (nx : Nat → α → α) (s : α) (f : List (α × List Nat)) : Prop := ∀ y ∈ f, y.1 = runs nx s y.2 ∧ ∀ c ∈ y.2, c ∈ L
theorem visit_led (h : Led L nx s f) (hx : x.1 = runs nx s x.2 ∧ ∀ c ∈ x.2, c ∈ L) (hc : c ∈ L) : Led L nx s (visit nx x f c) := by
  unfold visit
  split
  · exact h
  · intro y hy
    rcases List.mem_append.mp hy with hy | hy
    · exact h y hy
    · rw [List.mem_singleton.mp hy]
      refine ⟨?_, fun d hd => ?_⟩
      · show nx c x.1 = runs nx s (x.2 ++ [c])
        rw [runs_app, ← hx.1]
        rfl
      · rcases List.mem_append.mp hd with hd | hd
        · exact hx.2 d hd
        · rw [List.mem_singleton.mp hd]
          exact hc
theorem turn_led (hx : x.1 = runs nx s x.2 ∧ ∀ c ∈ x.2, c ∈ L) : ∀ {M : List Nat} {f : List (α × List Nat)}, Led L nx s f → (∀ c ∈ M, c ∈ L) → Led L nx s (turn M nx x f)
  | [], _, h, _ => h
  | c :: M, _, h, hM => turn_led hx (M := M) (visit_led h hx (hM c List.mem_cons_self)) fun d hd => hM d (List.mem_cons_of_mem _ hd)
theorem upTo_led : Led L nx s (upTo L nx s k) := by
  induction k with
  | zero =>
    intro y hy
    rw [List.mem_singleton.mp hy]
    exact ⟨rfl, fun c hc => nomatch hc⟩
  | succ k ih =>
    show Led L nx s (match (upTo L nx s k)[k]? with | none => upTo L nx s k | some x => turn L nx x (upTo L nx s k))
    split
    · exact ih
    · rename_i x h
      exact turn_led (ih x (List.mem_of_getElem? h)) ih fun _ h => h
theorem visit_has : nx c x.1 ∈ (visit nx x f c).map (·.1) := by
  unfold visit
  split
  · rename_i h
    exact h
  · simp
theorem pre_mem {a : α} {l m : List (α × List Nat)} (h : l <+: m) (ha : a ∈ l.map (·.1)) : a ∈ m.map (·.1) := by
  obtain ⟨t, rfl⟩ := h
  rw [List.map_append]
  exact List.mem_append_left _ ha
theorem turn_has : ∀ {L : List Nat} {f : List (α × List Nat)}, c ∈ L → nx c x.1 ∈ (turn L nx x f).map (·.1)
  | d :: L, f, h => by
    rcases List.mem_cons.mp h with rfl | h
    · exact pre_mem (turn_pre (L := L) (f := visit nx x f c)) visit_has
    · exact turn_has (L := L) h
/-- the nodes behind those that were walked are found -/
theorem upTo_closed : ∀ {k : Nat} {i : Nat} {x : α × List Nat}, i < k → (upTo L nx s k)[i]? = some x → ∀ c ∈ L, nx c x.1 ∈ (upTo L nx s k).map (·.1)
  | k + 1, i, x, hi, hx, c, hc => by
    cases hk : (upTo L nx s k)[k]? with
    | none =>
      have e : upTo L nx s (k + 1) = upTo L nx s k := by
        show (match (upTo L nx s k)[k]? with | none => upTo L nx s k | some x => turn L nx x (upTo L nx s k)) = _
        rw [hk]
      rw [e] at hx ⊢
      have hl := List.getElem?_eq_none_iff.mp hk
      have hi2 : i < (upTo L nx s k).length := (List.getElem?_eq_some_iff.mp hx).1
      exact upTo_closed (by omega) hx c hc
    | some y =>
      have e := upTo_some hk
      have hlt : k < (upTo L nx s k).length := (List.getElem?_eq_some_iff.mp hk).1
      have pre := upTo_pre (L := L) (nx := nx) (s := s) (k := k)
      have hx' : (upTo L nx s k)[i]? = some x := by
        obtain ⟨t, ht⟩ := pre
        rw [← ht, List.getElem?_append_left (by omega)] at hx
        exact hx
      by_cases hik : i < k
      · exact pre_mem pre (upTo_closed hik hx' c hc)
      · have : i = k := by omega
        subst this
        rw [hk] at hx'
        cases hx'
        rw [e]
        exact turn_has hc
theorem Full.nd (h : Full L nx s l) : (l.map (·.1)).Nodup := by
  obtain ⟨k, rfl, _⟩ := h
  exact upTo_nd
theorem Full.led (h : Full L nx s l) : Led L nx s l := by
  obtain ⟨k, rfl, _⟩ := h
  exact upTo_led
theorem Full.closed (h : Full L nx s l) (hx : x ∈ l) (hc : c ∈ L) : nx c x.1 ∈ l.map (·.1) := by
  obtain ⟨k, rfl, e⟩ := h
  obtain ⟨i, hi, rfl⟩ := List.mem_iff_getElem.mp hx
  exact upTo_closed (Nat.lt_of_lt_of_le hi e) (List.getElem?_eq_getElem hi) c hc
theorem upTo_head : (upTo L nx s k)[0]? = some (s, []) := by
  obtain ⟨t, ht⟩ := upTo_le (L := L) (nx := nx) (s := s) (Nat.zero_le k)
  rw [← ht]
  rfl
theorem Full.head (h : Full L nx s l) : l[0]? = some (s, []) := by
  obtain ⟨k, rfl, _⟩ := h
  exact upTo_head
theorem Full.start (h : Full L nx s l) : s ∈ l.map (·.1) := List.mem_map.mpr ⟨_, List.mem_of_getElem? h.head, rfl⟩
theorem Full.reach (h : Full L nx s l) {t : α} (ht : t ∈ l.map (·.1)) : ∀ {w : List Nat}, (∀ c ∈ w, c ∈ L) → runs nx t w ∈ l.map (·.1) := by
  intro w
  induction w generalizing t with
  | nil => exact fun _ => ht
  | cons c w ih =>
    intro hw
    obtain ⟨x, hx, rfl⟩ := List.mem_map.mp ht
    exact ih (h.closed hx (hw c List.mem_cons_self)) fun d hd => hw d (List.mem_cons_of_mem _ hd)
/-- where all nodes lie in a short list, all are found -/
theorem full_of {U : List α} (hs : s ∈ U) (hU : ∀ a ∈ U, ∀ c ∈ L, nx c a ∈ U) (hk : U.length ≤ k) : Full L nx s (upTo L nx s k) := by
  refine ⟨k, rfl, Nat.le_trans ?_ hk⟩
  have : ∀ y ∈ upTo L nx s k, y.1 ∈ U := fun y hy => by
    obtain ⟨e, hw⟩ := upTo_led (L := L) (nx := nx) (s := s) (k := k) y hy
    rw [e]
    generalize y.2 = w at hw
    clear e hy
    induction w generalizing s with
    | nil => exact hs
    | cons c w ih => exact ih (hU s hs c (hw c List.mem_cons_self)) fun d hd => hw d (List.mem_cons_of_mem _ hd)
  have nd := upTo_nd (L := L) (nx := nx) (s := s) (k := k)
  have : ((upTo L nx s k).map (·.1)).length ≤ U.length := by
    have sub : ∀ a ∈ (upTo L nx s k).map (·.1), a ∈ U := fun a ha => by
      obtain ⟨y, hy, rfl⟩ := List.mem_map.mp ha
      exact this y hy
    generalize (upTo L nx s k).map (·.1) = l at nd sub
    clear this hs hU hk
    induction l generalizing U with
    | nil => exact Nat.zero_le _
    | cons a l ih =>
      have h1 := List.nodup_cons.mp nd
      have ha := sub a List.mem_cons_self
      have := ih (U := U.erase a) h1.2 fun b hb => (List.mem_erase_of_ne (show b ≠ a from fun e => h1.1 (e ▸ hb))).mpr (sub b (List.mem_cons_of_mem _ hb))
      rw [List.length_erase_of_mem ha] at this
      have := List.length_pos_of_mem ha
      simp only [List.length_cons]
      omega
  rwa [List.length_map] at this
end
/-! ### the first of each kind -/
theorem snoc_ind {τ : Type} {P : List τ → Prop} (h0 : P []) (h1 : ∀ l x, P l → P (l ++ [x])) (l : List τ) : P l := by
  have : ∀ r : List τ, P r.reverse := fun r => by
    induction r with
    | nil => exact h0
    | cons a r ih =>
      rw [List.reverse_cons]
      exact h1 _ _ ih
  rw [← List.reverse_reverse l]
  exact this _
section
variable [DecidableEq β] [DecidableEq γ]
def putK (h : α → β) (acc : List (α × List Nat)) (x : α × List Nat) : List (α × List Nat) := if h x.1 ∈ acc.map (fun y => h y.1) then acc else acc ++ [x]
def dd (h : α → β) (l : List (α × List Nat)) : List (α × List Nat) := l.foldl (putK h) []
variable {h : α → β} {l m : List (α × List Nat)} {x y : α × List Nat}
omit [DecidableEq γ] in
theorem dd_snoc : dd h (l ++ [x]) = putK h (dd h l) x := by
  unfold dd
  rw [List.foldl_append]
  rfl
omit [DecidableEq γ] in
theorem dd_sub : ∀ y ∈ dd h l, y ∈ l := by
  induction l using snoc_ind with
  | h0 => exact fun y hy => nomatch hy
  | h1 l x ih =>
    intro y hy
    rw [dd_snoc] at hy
    unfold putK at hy
    split at hy
    · exact List.mem_append_left _ (ih y hy)
    · rcases List.mem_append.mp hy with hy | hy
      · exact List.mem_append_left _ (ih y hy)
      · exact List.mem_append_right _ hy
omit [DecidableEq γ] in
theorem dd_mem {b : β} (q : b ∈ (dd h l).map (fun y => h y.1)) : b ∈ l.map (fun y => h y.1) := by
  obtain ⟨y, hy, e⟩ := List.mem_map.mp q
  exact List.mem_map.mpr ⟨y, dd_sub y hy, e⟩
omit [DecidableEq γ] in
theorem dd_kinds {b : β} : b ∈ (dd h l).map (fun y => h y.1) ↔ b ∈ l.map (fun y => h y.1) := by
  induction l using snoc_ind with
  | h0 => exact Iff.rfl
  | h1 l x ih =>
    rw [dd_snoc]
    unfold putK
    split
    · rename_i q
      rw [ih, List.map_append, List.mem_append]
      refine ⟨.inl, fun z => z.elim id fun z => ?_⟩
      simp only [List.map_cons, List.map_nil, List.mem_singleton] at z
      rw [z]
      exact dd_mem q
    · rw [List.map_append, List.map_append, List.mem_append, List.mem_append, ih]
omit [DecidableEq γ] in
theorem dd_pre : dd h l <+: dd h (l ++ m) := by
  induction m using snoc_ind with
  | h0 => rw [List.append_nil]; exact List.prefix_refl _
  | h1 m x ih =>
    rw [← List.append_assoc, dd_snoc]
    unfold putK
    split
    · exact ih
    · exact ih.trans (List.prefix_append _ _)
omit [DecidableEq γ] in
theorem dd_nd : ((dd h l).map fun y => h y.1).Nodup := by
  induction l using snoc_ind with
  | h0 => exact List.nodup_nil
  | h1 l x ih =>
    rw [dd_snoc]
    unfold putK
    split
    · exact ih
    · rename_i n
      rw [List.map_append, List.nodup_append]
      refine ⟨ih, by simp, fun a ha b hb e => ?_⟩
      simp only [List.map_cons, List.map_nil, List.mem_singleton] at hb
      subst e
      exact n (hb ▸ ha)
/-- two ways to tell kinds that part alike find the same first ones -/
theorem dd_congr {g : α → γ} (e : ∀ a ∈ l.map (·.1), ∀ b ∈ l.map (·.1), (h a = h b ↔ g a = g b)) : dd h l = dd g l := by
  induction l using snoc_ind with
  | h0 => rfl
  | h1 l x ih =>
    have e1 := ih fun a ha b hb => e a (by rw [List.map_append]; exact List.mem_append_left _ ha) b (by rw [List.map_append]; exact List.mem_append_left _ hb)
    rw [dd_snoc, dd_snoc, e1]
    unfold putK
    have hx : x.1 ∈ (l ++ [x]).map (·.1) := by simp
    have q : h x.1 ∈ (dd g l).map (fun y => h y.1) ↔ g x.1 ∈ (dd g l).map (fun y => g y.1) := by
      rw [List.mem_map, List.mem_map]
      refine exists_congr fun y => and_congr_right fun hy => ?_
      refine e y.1 ?_ x.1 hx
      rw [List.map_append]
      exact List.mem_append_left _ (List.mem_map_of_mem (dd_sub y hy))
    by_cases z : g x.1 ∈ (dd g l).map (fun y => g y.1)
    · rw [if_pos z, if_pos (q.mpr z)]
    · rw [if_neg z, if_neg (fun t => z (q.mp t))]
end
/-! ### a map of nodes that goes with the letters -/
section
variable [DecidableEq α] [DecidableEq β] {L : List Nat} {nx : Nat → α → α} {nx' : Nat → β → β} {s : α} {h : α → β} {f : List (α × List Nat)} {x : α × List Nat}
/-- the list of kinds, each with the text of its first one -/
def img (h : α → β) (f : List (α × List Nat)) : List (β × List Nat) := (dd h f).map fun y => (h y.1, y.2)
theorem img_fst : (img h f).map (·.1) = (dd h f).map fun y => h y.1 := by
  unfold img
  rw [List.map_map]
  rfl
theorem img_kinds {b : β} : b ∈ (img h f).map (·.1) ↔ b ∈ f.map (fun y => h y.1) := by
  rw [img_fst]
  exact dd_kinds
theorem img_pre {m : List (α × List Nat)} : img h f <+: img h (f ++ m) := by
  obtain ⟨t, ht⟩ := dd_pre (h := h) (l := f) (m := m)
  exact ⟨t.map fun y => (h y.1, y.2), by unfold img; rw [← ht, List.map_append]⟩
theorem img_pre2 {g : List (α × List Nat)} (q : f <+: g) : img h f <+: img h g := by
  obtain ⟨t, rfl⟩ := q
  exact img_pre
theorem img_snoc {y : α × List Nat} : img h (f ++ [y]) = if h y.1 ∈ (img h f).map (·.1) then img h f else img h f ++ [(h y.1, y.2)] := by
  rw [img_fst]
  unfold img
  rw [dd_snoc]
  unfold putK
  split
  · rfl
  · rw [List.map_append]
    rfl
/-- a node whose kind was walked before finds no new kind -/
theorem turn_old : ∀ {M : List Nat} {f : List (α × List Nat)}, (∀ c ∈ M, h (nx c x.1) ∈ f.map fun y => h y.1) → img h (turn M nx x f) = img h f
  | [], _, _ => rfl
  | c :: M, f, hM => by
    have e : img h (visit nx x f c) = img h f := by
      unfold visit
      split
      · rfl
      · rw [img_snoc, if_pos (img_kinds.mpr (hM c List.mem_cons_self))]
    have := turn_old (M := M) (f := visit nx x f c) fun d hd => by
      obtain ⟨t, ht⟩ := visit_pre (nx := nx) (x := x) (f := f) (c := c)
      rw [← ht, List.map_append]
      exact List.mem_append_left _ (hM d (List.mem_cons_of_mem _ hd))
    exact this.trans e
/-- a node of a new kind is walked on both sides -/
theorem turn_new : ∀ {M : List Nat} {f : List (α × List Nat)}, (∀ c ∈ M, h (nx c x.1) = nx' c (h x.1)) → img h (turn M nx x f) = turn M nx' (h x.1, x.2) (img h f)
  | [], _, _ => rfl
  | c :: M, f, hM => by
    have hc := hM c List.mem_cons_self
    have e : img h (visit nx x f c) = visit nx' (h x.1, x.2) (img h f) c := by
      unfold visit
      split
      · rename_i q
        rw [if_pos]
        rw [← hc, img_kinds]
        obtain ⟨y, hy, e⟩ := List.mem_map.mp q
        exact List.mem_map.mpr ⟨y, hy, by rw [e]⟩
      · rw [img_snoc, ← hc]
    have := turn_new (M := M) (f := visit nx x f c) fun d hd => hM d (List.mem_cons_of_mem _ hd)
    rw [e] at this
    exact this
/-- the walk through the kinds -/
theorem img_upTo (hom : ∀ w : List Nat, (∀ c ∈ w, c ∈ L) → ∀ c ∈ L, h (nx c (runs nx s w)) = nx' c (h (runs nx s w))) : ∀ k, img h (upTo L nx s k) = upTo L nx' (h s) (img h ((upTo L nx s k).take k)).length
  | 0 => by
    show img h ([] ++ [(s, [])]) = _
    rw [img_snoc]
    rfl
  | k + 1 => by
    have ih := img_upTo hom k
    cases hk : (upTo L nx s k)[k]? with
    | none =>
      have e : upTo L nx s (k + 1) = upTo L nx s k := by
        show (match (upTo L nx s k)[k]? with | none => upTo L nx s k | some x => turn L nx x (upTo L nx s k)) = _
        rw [hk]
      have hl := List.getElem?_eq_none_iff.mp hk
      rw [e, ih, List.take_of_length_le hl, List.take_of_length_le (by omega)]
    | some x =>
      have e := upTo_some hk
      obtain ⟨hlt, hx⟩ := List.getElem?_eq_some_iff.mp hk
      obtain ⟨t, ht⟩ := upTo_pre (L := L) (nx := nx) (s := s) (k := k)
      have e2 : (upTo L nx s (k + 1)).take (k + 1) = (upTo L nx s k).take k ++ [x] := by
        rw [← ht, List.take_append_of_le_length (by omega), List.take_succ, hk]
        rfl
      have hxm : x ∈ upTo L nx s k := List.mem_of_getElem? hk
      obtain ⟨x1, x2⟩ := upTo_led (L := L) (nx := nx) (s := s) (k := k) x hxm
      have hc : ∀ c ∈ L, h (nx c x.1) = nx' c (h x.1) := by
        rw [x1]
        exact hom x.2 x2
      rw [e2, img_snoc]
      by_cases q : h x.1 ∈ (img h ((upTo L nx s k).take k)).map (·.1)
      · rw [if_pos q, e, ← ih]
        refine turn_old fun c hcL => ?_
        obtain ⟨y, hy, ey⟩ := List.mem_map.mp (img_kinds.mp q)
        obtain ⟨i, hi, e3⟩ := List.mem_iff_getElem.mp hy
        rw [List.length_take] at hi
        have e4 : (upTo L nx s k)[i]? = some y := by
          rw [List.getElem_take] at e3
          rw [List.getElem?_eq_getElem (by omega), e3]
        have hm := upTo_closed (by omega) e4 c hcL
        obtain ⟨y1, y2⟩ := upTo_led (L := L) (nx := nx) (s := s) (k := k) y (List.mem_of_getElem? e4)
        obtain ⟨z, hz, ez⟩ := List.mem_map.mp hm
        refine List.mem_map.mpr ⟨z, hz, ?_⟩
        have hy2 := hom y.2 y2 c hcL
        rw [← y1, ey] at hy2
        rw [ez, hy2, hc c hcL]
      · rw [if_neg q, e, turn_new hc, ih, List.length_append]
        have kk : (upTo L nx' (h s) (img h ((upTo L nx s k).take k)).length)[(img h ((upTo L nx s k).take k)).length]? = some (h x.1, x.2) := by
          rw [← ih]
          obtain ⟨u, hu⟩ : img h ((upTo L nx s k).take k ++ [x]) <+: img h (upTo L nx s k) := by
            have e5 : upTo L nx s k = ((upTo L nx s k).take k ++ [x]) ++ (upTo L nx s k).drop (k + 1) := by
              have : (upTo L nx s k).take (k + 1) = (upTo L nx s k).take k ++ [x] := by rw [List.take_succ, hk]; rfl
              rw [← this, List.take_append_drop]
            exact img_pre2 ⟨_, e5.symm⟩
          rw [← hu, img_snoc, if_neg q, List.append_assoc, List.getElem?_append_right (Nat.le_refl _), Nat.sub_self]
          rfl
        exact (upTo_some kk).symm
end
end Au

set_option linter.all false
/-! automata: what they answer, the least one with the same answers, marks that part its states (core Lean alone) -/
namespace Au
/-- states below n, where letters lead, which states say yes -/
structure Aut where
  n : Nat
  to : Nat → Nat → Nat
  yes : Nat → Bool
structure Fit (L : List Nat) (R : Aut) : Prop where
  pos : 0 < R.n
  cl : ∀ c ∈ L, ∀ s, s < R.n → R.to c s < R.n
def says (R : Aut) (s : Nat) (w : List Nat) : Bool := R.yes (runs R.to s w)
def Like (L : List Nat) (R : Aut) (s : Nat) (S : Aut) (t : Nat) : Prop := ∀ w : List Nat, (∀ c ∈ w, c ∈ L) → says R s w = says S t w
/-- the answers as a function -/
def lang (L : List Nat) (R : Aut) (s : Nat) : List Nat → Bool := fun w => decide (∀ c ∈ w, c ∈ L) && says R s w
def nxL (L : List Nat) (c : Nat) (l : List Nat → Bool) : List Nat → Bool := fun w => decide (∀ d ∈ w, d ∈ L) && l (c :: w)
noncomputable instance decL : DecidableEq (List Nat → Bool) := fun _ _ => Classical.propDecidable _
variable {L : List Nat} {R S : Aut} {s t c : Nat}
theorem lang_eq : lang L R s = lang L S t ↔ Like L R s S t := by
  constructor
  · intro e w hw
    have := congrFun e w
    unfold lang at this
    rw [decide_eq_true hw, Bool.true_and, Bool.true_and] at this
    exact this
  · intro h
    funext w
    unfold lang
    by_cases hw : ∀ c ∈ w, c ∈ L
    · rw [h w hw]
    · rw [decide_eq_false hw, Bool.false_and, Bool.false_and]
theorem lang_hom (hc : c ∈ L) : lang L R (R.to c s) = nxL L c (lang L R s) := by
  funext w
  unfold lang nxL
  by_cases hw : ∀ c ∈ w, c ∈ L
  · have h2 : ∀ d ∈ c :: w, d ∈ L := fun d hd => (List.mem_cons.mp hd).elim (fun e => e ▸ hc) (hw d)
    rw [decide_eq_true hw, Bool.true_and, Bool.true_and]
    show _ = (decide (∀ d ∈ c :: w, d ∈ L) && says R s (c :: w))
    rw [decide_eq_true h2, Bool.true_and]
    rfl
  · rw [decide_eq_false hw, Bool.false_and, Bool.false_and]
theorem Like.refl : Like L R s R s := fun _ _ => rfl
theorem Like.symm (h : Like L R s S t) : Like L S t R s := fun w hw => (h w hw).symm
theorem Like.trans {Q : Aut} {u : Nat} (h : Like L R s S t) (g : Like L S t Q u) : Like L R s Q u := fun w hw => (h w hw).trans (g w hw)
theorem like_step (h : Like L R s S t) (hc : c ∈ L) : Like L R (R.to c s) S (S.to c t) := fun w hw => h (c :: w) fun d hd => (List.mem_cons.mp hd).elim (fun e => e ▸ hc) (hw d)
theorem runs_lt (F : Fit L R) : ∀ {w : List Nat} {s : Nat}, s < R.n → (∀ c ∈ w, c ∈ L) → runs R.to s w < R.n
  | [], _, h, _ => h
  | c :: w, s, h, hw => runs_lt F (w := w) (F.cl c (hw c List.mem_cons_self) s h) fun d hd => hw d (List.mem_cons_of_mem _ hd)
theorem full_lt {l : List (Nat × List Nat)} (F : Fit L R) (h : Full L R.to 0 l) : ∀ x ∈ l, x.1 < R.n := fun x hx => by
  obtain ⟨e, hw⟩ := h.led x hx
  rw [e]
  exact runs_lt F F.pos hw
/-- what the walk comes to, whatever the states are -/
theorem canon_full {l : List (Nat × List Nat)} (h : Full L R.to 0 l) : Full L (nxL L) (lang L R 0) (img (lang L R) l) := by
  obtain ⟨k, rfl, hk⟩ := h
  refine ⟨(img (lang L R) (upTo L R.to 0 k)).length, ?_, Nat.le_refl _⟩
  have := img_upTo (L := L) (nx := R.to) (nx' := nxL L) (s := 0) (h := lang L R) (fun w _ c hc => lang_hom hc) k
  rwa [List.take_of_length_le hk] at this
/-! ### the least automaton -/
/-- marks that part the states just as their answers do -/
def Ner (L : List Nat) (R : Aut) (m : Nat → Nat) : Prop := ∀ s t, s < R.n → t < R.n → (m s = m t ↔ Like L R s R t)
def wayOf (m : Nat → Nat) (R : Aut) (O : List (Nat × List Nat)) (c : Nat) : List Nat := O.map fun x => (O.map fun y => m y.1).idxOf (m (R.to c x.1))
def goodOf (R : Aut) (O : List (Nat × List Nat)) : List Nat := (List.range O.length).filter fun i => ((O[i]?).map fun x => R.yes x.1).getD false
def leanA (m : Nat → Nat) (R : Aut) (O : List (Nat × List Nat)) : Aut := ⟨O.length, fun c i => ((wayOf m R O c)[i]?).getD 0, fun i => decide (i ∈ goodOf R O)⟩
theorem idx_congr {α β γ : Type} [DecidableEq β] [DecidableEq γ] {f : α → β} {g : α → γ} {b : β} {d : γ} : ∀ {O : List α}, (∀ y ∈ O, (f y = b ↔ g y = d)) → (O.map f).idxOf b = (O.map g).idxOf d
  | [], _ => rfl
  | y :: O, h => by
    have h1 := h y List.mem_cons_self
    have ih := idx_congr (O := O) fun z hz => h z (List.mem_cons_of_mem _ hz)
    rw [List.map_cons, List.map_cons, List.idxOf_cons, List.idxOf_cons, ih]
    by_cases q : f y = b
    · rw [q, h1.mp q, beq_self_eq_true, beq_self_eq_true]
    · have q2 : ¬ g y = d := fun z => q (h1.mpr z)
      rw [beq_false_of_ne q, beq_false_of_ne q2]
section
variable {m : Nat → Nat} {l : List (Nat × List Nat)}
theorem dd_lang (F : Fit L R) (N : Ner L R m) (h : Full L R.to 0 l) : dd m l = dd (lang L R) l := dd_congr fun a ha b hb => by
  obtain ⟨x, hx, rfl⟩ := List.mem_map.mp ha
  obtain ⟨y, hy, rfl⟩ := List.mem_map.mp hb
  rw [lang_eq]
  exact N _ _ (full_lt F h x hx) (full_lt F h y hy)
theorem dd_texts (F : Fit L R) (N : Ner L R m) (h : Full L R.to 0 l) : (dd m l).map (·.2) = (img (lang L R) l).map (·.2) := by
  rw [dd_lang F N h]
  unfold img
  rw [List.map_map]
  rfl
theorem way_lang (F : Fit L R) (N : Ner L R m) (h : Full L R.to 0 l) (hc : c ∈ L) : wayOf m R (dd m l) c = (img (lang L R) l).map fun y => ((img (lang L R) l).map (·.1)).idxOf (nxL L c y.1) := by
  have e := dd_lang F N h
  rw [img_fst]
  unfold img wayOf
  rw [← e, List.map_map]
  refine List.map_congr_left fun x hx => ?_
  show _ = ((dd m l).map fun y => lang L R y.1).idxOf (nxL L c (lang L R x.1))
  rw [← lang_hom hc]
  refine idx_congr fun y hy => ?_
  rw [lang_eq]
  exact N _ _ (full_lt F h y (dd_sub y hy)) (F.cl c hc _ (full_lt F h x (dd_sub x hx)))
theorem good_lang (F : Fit L R) (N : Ner L R m) (h : Full L R.to 0 l) : goodOf R (dd m l) = (List.range (img (lang L R) l).length).filter fun i => (((img (lang L R) l)[i]?).map fun y => y.1 []).getD false := by
  have e := dd_lang F N h
  unfold goodOf img
  rw [← e, List.length_map]
  refine List.filter_congr fun i _ => ?_
  rw [List.getElem?_map]
  cases (dd m l)[i]? with
  | none => rfl
  | some x =>
    show R.yes x.1 = (lang L R x.1 [])
    unfold lang
    rw [decide_eq_true fun c hc => nomatch hc]
    rfl
/-- automata with the same answers have the same least one -/
theorem lean_same {m' : Nat → Nat} {l' : List (Nat × List Nat)} (F : Fit L R) (N : Ner L R m) (h : Full L R.to 0 l) (F' : Fit L S) (N' : Ner L S m') (h' : Full L S.to 0 l') (e : Like L R 0 S 0) :
    (dd m l).map (·.2) = (dd m' l').map (·.2) ∧ (∀ c ∈ L, wayOf m R (dd m l) c = wayOf m' S (dd m' l') c) ∧ goodOf R (dd m l) = goodOf S (dd m' l') := by
  have q : img (lang L R) l = img (lang L S) l' := (canon_full h).uniq (by rw [lang_eq.mpr e]; exact canon_full h')
  refine ⟨by rw [dd_texts F N h, dd_texts F' N' h', q], fun c hc => by rw [way_lang F N h hc, way_lang F' N' h' hc, q], by rw [good_lang F N h, good_lang F' N' h', q]⟩
theorem dd_head (h : Full L R.to 0 l) : (dd m l)[0]? = some (0, []) := by
  have := h.head
  cases l with
  | nil => cases this
  | cons x l =>
    cases this
    obtain ⟨t, ht⟩ := dd_pre (h := m) (l := [((0 : Nat), ([] : List Nat))]) (m := l)
    show (dd m ([(0, [])] ++ l))[0]? = _
    rw [← ht]
    rfl
theorem way_get {O : List (Nat × List Nat)} {i : Nat} {x : Nat × List Nat} (hx : O[i]? = some x) : (leanA m R O).to c i = (O.map fun y => m y.1).idxOf (m (R.to c x.1)) := by
  show ((wayOf m R O c)[i]?).getD 0 = _
  unfold wayOf
  rw [List.getElem?_map, hx]
  rfl
theorem good_get {O : List (Nat × List Nat)} {i : Nat} {x : Nat × List Nat} (hx : O[i]? = some x) : (leanA m R O).yes i = R.yes x.1 := by
  show decide (i ∈ goodOf R O) = _
  unfold goodOf
  have hi := (List.getElem?_eq_some_iff.mp hx).1
  cases q : R.yes x.1 with
  | true => exact decide_eq_true (List.mem_filter.mpr ⟨List.mem_range.mpr hi, by rw [hx]; exact q⟩)
  | false =>
    refine decide_eq_false fun z => ?_
    have y := (List.mem_filter.mp z).2
    rw [hx] at y
    have y2 : R.yes x.1 = true := y
    rw [q] at y2
    cases y2
/-- where a letter leads in the least automaton -/
theorem lean_to (h : Full L R.to 0 l) (hc : c ∈ L) {i : Nat} {x : Nat × List Nat} (hx : (dd m l)[i]? = some x) : ∃ j y, (leanA m R (dd m l)).to c i = j ∧ (dd m l)[j]? = some y ∧ m y.1 = m (R.to c x.1) := by
  rw [way_get hx]
  have hk : m (R.to c x.1) ∈ (dd m l).map fun y => m y.1 := by
    rw [dd_kinds]
    obtain ⟨z, hz, e⟩ := List.mem_map.mp (h.closed (dd_sub x (List.mem_of_getElem? hx)) hc)
    exact List.mem_map.mpr ⟨z, hz, by rw [e]⟩
  have hj := List.idxOf_lt_length_of_mem hk
  rw [List.length_map] at hj
  refine ⟨_, _, rfl, List.getElem?_eq_getElem hj, ?_⟩
  have e := List.getElem_idxOf (xs := (dd m l).map fun y => m y.1) (x := m (R.to c x.1)) (by rw [List.length_map]; exact hj)
  rw [List.getElem_map] at e
  exact e
theorem lean_fit (h : Full L R.to 0 l) : Fit L (leanA m R (dd m l)) where
  pos := by
    have := dd_head (m := m) h
    exact (List.getElem?_eq_some_iff.mp this).1
  cl := fun c hc s hs => by
    obtain ⟨j, y, e, hy, _⟩ := lean_to (m := m) h hc (List.getElem?_eq_getElem (show s < (dd m l).length from hs))
    rw [e]
    exact (List.getElem?_eq_some_iff.mp hy).1
theorem lean_says (F : Fit L R) (N : Ner L R m) (h : Full L R.to 0 l) : ∀ (w : List Nat), (∀ c ∈ w, c ∈ L) → ∀ (i : Nat) (x : Nat × List Nat), (dd m l)[i]? = some x → says (leanA m R (dd m l)) i w = says R x.1 w
  | [], _, i, x, hx => good_get hx
  | c :: w, hw, i, x, hx => by
    have hc := hw c List.mem_cons_self
    obtain ⟨j, y, e, hy, em⟩ := lean_to (m := m) h hc hx
    have ih := lean_says F N h w (fun d hd => hw d (List.mem_cons_of_mem _ hd)) j y hy
    show says _ ((leanA m R (dd m l)).to c i) w = says R (R.to c x.1) w
    rw [e, ih]
    refine (N _ _ (full_lt F h y (dd_sub y (List.mem_of_getElem? hy))) (F.cl c hc _ (full_lt F h x (dd_sub x (List.mem_of_getElem? hx))))).mp em w fun d hd => hw d (List.mem_cons_of_mem _ hd)
/-- the least automaton has the same answers -/
theorem lean_like (F : Fit L R) (N : Ner L R m) (h : Full L R.to 0 l) : Like L (leanA m R (dd m l)) 0 R 0 := fun w hw => lean_says F N h w hw 0 _ (dd_head h)
end
/-! ### marks -/
/-- the next marks: the old one with those that the letters lead to -/
def Next (L : List Nat) (R : Aut) (m m' : Nat → Nat) : Prop := ∀ s t, s < R.n → t < R.n → (m' s = m' t ↔ m s = m t ∧ ∀ c ∈ L, m (R.to c s) = m (R.to c t))
inductive Mo (L : List Nat) (R : Aut) : (Nat → Nat) → Prop
  | zero {m : Nat → Nat} : (∀ s t, s < R.n → t < R.n → (m s = m t ↔ R.yes s = R.yes t)) → Mo L R m
  | succ {m m' : Nat → Nat} : Mo L R m → Next L R m m' → Mo L R m'
section
variable {m m' : Nat → Nat}
theorem Mo.yes (h : Mo L R m) {s t : Nat} (hs : s < R.n) (ht : t < R.n) (e : m s = m t) : R.yes s = R.yes t := by
  induction h with
  | zero h => exact (h s t hs ht).mp e
  | succ _ n ih => exact ih ((n s t hs ht).mp e).1
theorem Mo.apart (F : Fit L R) (h : Mo L R m) : ∀ {s t : Nat}, s < R.n → t < R.n → Like L R s R t → m s = m t := by
  induction h with
  | zero h => exact fun hs ht e => (h _ _ hs ht).mpr (e [] fun c hc => nomatch hc)
  | succ _ n ih => exact fun hs ht e => (n _ _ hs ht).mpr ⟨ih hs ht e, fun c hc => ih (F.cl c hc _ hs) (F.cl c hc _ ht) (like_step e hc)⟩
/-- marks that part no more than the ones before tell the answers -/
theorem ner_of (F : Fit L R) (h : Mo L R m) (n : Next L R m m') (same : ∀ s t, s < R.n → t < R.n → m s = m t → m' s = m' t) : Ner L R m' := by
  have h' := Mo.succ h n
  refine fun s t hs ht => ⟨fun e w => ?_, fun e => h'.apart F hs ht e⟩
  induction w generalizing s t with
  | nil => exact fun _ => h'.yes hs ht e
  | cons c w ih =>
    intro hw
    have hc := hw c List.mem_cons_self
    exact ih _ _ (F.cl c hc s hs) (F.cl c hc t ht) (same _ _ (F.cl c hc s hs) (F.cl c hc t ht) (((n s t hs ht).mp e).2 c hc)) fun d hd => hw d (List.mem_cons_of_mem _ hd)
/-- so many different things in a list -/
def Cnt (l : List Nat) (k : Nat) : Prop := ∃ u : List Nat, u.Nodup ∧ (∀ x, x ∈ u ↔ x ∈ l) ∧ u.length = k
theorem Cnt.uniq {l : List Nat} {k j : Nat} (h : Cnt l k) (g : Cnt l j) : k = j := by
  obtain ⟨u, nu, eu, rfl⟩ := h
  obtain ⟨v, nv, ev, rfl⟩ := g
  exact Nat.le_antisymm (Pm.len_le nu fun x hx => (ev x).mpr ((eu x).mp hx)) (Pm.len_le nv fun x hx => (eu x).mpr ((ev x).mp hx))
theorem Cnt.le {l : List Nat} {k : Nat} (h : Cnt l k) : k ≤ l.length := by
  obtain ⟨u, nu, eu, rfl⟩ := h
  exact Pm.len_le nu fun x hx => (eu x).mp hx
theorem Cnt.pos {l : List Nat} {k : Nat} (h : Cnt l k) (hl : l ≠ []) : 0 < k := by
  obtain ⟨u, nu, eu, rfl⟩ := h
  cases l with
  | nil => exact absurd rfl hl
  | cons a l => exact List.length_pos_of_mem ((eu a).mpr List.mem_cons_self)
theorem nodup_on {f : Nat → Nat} : ∀ {l : List Nat}, l.Nodup → (∀ x ∈ l, ∀ y ∈ l, f x = f y → x = y) → (l.map f).Nodup
  | [], _, _ => List.nodup_nil
  | a :: l, h, inj => by
    have h1 := List.nodup_cons.mp h
    refine List.nodup_cons.mpr ⟨fun z => ?_, nodup_on h1.2 fun x hx y hy => inj x (List.mem_cons_of_mem _ hx) y (List.mem_cons_of_mem _ hy)⟩
    obtain ⟨y, hy, e⟩ := List.mem_map.mp z
    exact h1.1 (inj y (List.mem_cons_of_mem _ hy) a List.mem_cons_self e ▸ hy)
/-- finer marks are more, or part alike -/
theorem cnt_fine {n k j : Nat} (h : Cnt ((List.range n).map m) k) (g : Cnt ((List.range n).map m') j) (fine : ∀ s t, s < n → t < n → m' s = m' t → m s = m t) : k < j ∨ k = j ∧ ∀ s t, s < n → t < n → m s = m t → m' s = m' t := by
  obtain ⟨u, nu, eu, rfl⟩ := h
  obtain ⟨v, nv, ev, rfl⟩ := g
  -- one state for each mark of m, and what m' tells of it
  let r : Nat → Nat := fun x => ((List.range n).find? fun s => m s == x).getD 0
  have pick : ∀ x ∈ u, r x < n ∧ m (r x) = x := fun x hx => by
    obtain ⟨s, hs, e⟩ := List.mem_map.mp ((eu x).mp hx)
    show ((List.range n).find? fun s => m s == x).getD 0 < n ∧ m (((List.range n).find? fun s => m s == x).getD 0) = x
    cases q : (List.range n).find? fun s => m s == x with
    | none => exact absurd (beq_iff_eq.mpr e) (List.find?_eq_none.mp q s hs)
    | some t =>
      have e2 := List.find?_some q
      exact ⟨List.mem_range.mp (List.mem_of_find?_eq_some q), beq_iff_eq.mp e2⟩
  have fin : ∀ y ∈ u.map fun x => m' (r x), y ∈ v := fun y hy => by
    obtain ⟨x, hx, rfl⟩ := List.mem_map.mp hy
    rw [ev]
    exact List.mem_map.mpr ⟨_, List.mem_range.mpr (pick x hx).1, rfl⟩
  have nf : (u.map fun x => m' (r x)).Nodup := nodup_on nu fun x hx y hy e => by
    have p := pick x hx
    have q := pick y hy
    have := fine _ _ p.1 q.1 e
    rw [p.2, q.2] at this
    exact this
  have le := Pm.len_le nf fin
  rw [List.length_map] at le
  rcases Nat.lt_or_eq_of_le le with lt | eq
  · exact .inl lt
  · refine .inr ⟨eq, fun s t hs ht e => ?_⟩
    have all : ∀ z ∈ v, z ∈ u.map fun x => m' (r x) := fun z hz => by
      by_cases q : z ∈ u.map fun x => m' (r x)
      · exact q
      · have := Pm.len_le (l := z :: u.map fun x => m' (r x)) (r := v) (List.nodup_cons.mpr ⟨q, nf⟩) fun y hy => (List.mem_cons.mp hy).elim (fun e => e ▸ hz) (fin y)
        rw [List.length_cons, List.length_map] at this
        omega
    have rep : ∀ s, s < n → m' s = m' (r (m s)) := fun s hs => by
      obtain ⟨x, hx, ex⟩ := List.mem_map.mp (all (m' s) ((ev _).mpr (List.mem_map.mpr ⟨s, List.mem_range.mpr hs, rfl⟩)))
      have p := pick x hx
      have := fine _ _ p.1 hs ex
      rw [p.2] at this
      rw [← this]
      exact ex.symm
    rw [rep s hs, rep t ht, e]
end
end Au

set_option Elab.async false
set_option linter.all false
set_option maxRecDepth 100000
set_option maxHeartbeats 4000000
/-! rules for tuples of numbers: enumerate(t), sorted(t), t.index(n) -/
namespace Ur
open PySem PySem.Spec PyProof.Rows L2
open Sem (wp)
open AutoSeq1 (wpAny_loadPart')
theorem meets_enumerate_newT (l : Addr) (items : Array Value) (n : Nat) (dct : Option Addr) (sl : Array (Option Value)) :
    Meets (Builtin.«enumerate.__new__» ⟨[.type "enumerate", .ref l], []⟩) (fun _ R s => s.heap.get? l = some { cls := .type "tuple", dict := dct, data := .seq items n, slots := sl } ∧
      R (.ok (.ret (.ref (s.heap.push { cls := .type "tuple_iterator", data := .fields #[.ref l, .int 0 0] }).objs.size)))
        { s with heap := (s.heap.push { cls := .type "tuple_iterator", data := .fields #[.ref l, .int 0 0] }).push { cls := .type "enumerate", data := .fields #[.none, .bool false, .ref s.heap.objs.size, rawInt 0, .none, .none] } }) :=
  .of_wp fun prog w A R s h => by
    obtain ⟨hp, g, d, tk, os⟩ := s; obtain ⟨hl, h⟩ := h
    have hsub := sub_enumerate
    have hL : Heap.IsTuple (Shared.heap ⟨hp, g, d, tk, os⟩) l items := ⟨_, hl, rfl, n, rfl⟩
    wp_walk using wpAny_loadPart' hl
    refine wpAny_stack_any fun st => wpAny_pure ?_
    split
    · rename_i c _ _ _ _ _
      cases (c == Value.type "enumerate")
      · wp_walk using wpAny_loadPart' hl, wpAny_pyIter_tuple hL
        exact ⟨_, rfl, h⟩
      · wp_walk using wpAny_loadPart' hl, wpAny_pyIter_tuple hL
        exact ⟨_, rfl, h⟩
    · wp_walk using wpAny_loadPart' hl, wpAny_pyIter_tuple hL
      exact ⟨_, rfl, h⟩
section
variable {prog : Program} {w : World} {A : Around} {E : Value → Shared → Prop} {s : Shared}
theorem call_enumerate_tuple {l : Addr} {items : Array Value} {Q : Value → Shared → Prop} (hL : s.heap.IsTuple l items)
    (h : ∀ h', IsEnum h' (s.heap.objs.size + 1) s.heap.objs.size 0 .none → h'.IsTupleIter s.heap.objs.size l 0 → h'.objs.size = s.heap.objs.size + 2 →
      (∀ b o, s.heap.get? b = some o → h'.get? b = some o) → Q (.ref (s.heap.objs.size + 1)) { s with heap := h' }) :
    wpAny (model prog w) A (call (.type "enumerate") [.ref l]) Q E s := by
  obtain ⟨⟨c, dct, dt, sl⟩, hl, hc, n, hd⟩ := hL
  replace hc : c = .type "tuple" := hc
  replace hd : dt = .seq items n := hd
  subst hc hd
  refine callType_new F.called_enumerate (by decide) (F.typeCall_enumerate_1 _) (F.newCall_enumerate_1 _) (fun obj => F.args_object_init_2 obj _) F.entry_enumerate_new
    (meets_enumerate_newT l items n dct sl) ⟨hl, ?_⟩
  have hz : (s.heap.push { cls := .type "tuple_iterator", data := .fields #[.ref l, .int 0 0] }).objs.size = s.heap.objs.size + 1 := Heap.size_push ..
  show _ ∧ _
  rw [hz]
  have he : IsEnum ((s.heap.push { cls := .type "tuple_iterator", data := .fields #[.ref l, .int 0 0] }).push
      { cls := .type "enumerate", data := .fields #[.none, .bool false, .ref s.heap.objs.size, rawInt 0, .none, .none] }) (s.heap.objs.size + 1) s.heap.objs.size 0 .none := by
    have := Heap.get?_push_size (s.heap.push { cls := .type "tuple_iterator", data := .fields #[.ref l, .int 0 0] })
      (o := { cls := .type "enumerate", data := .fields #[.none, .bool false, .ref s.heap.objs.size, rawInt 0, .none, .none] }) rfl
    rw [hz] at this; exact this
  refine ⟨⟨_, he, rfl⟩, h _ he ⟨_, Heap.get?_push_of_some _ (Heap.get?_push_size _ rfl), rfl, rfl⟩ (by rw [Heap.size_push, hz]) fun b o x => Heap.get?_push_of_some _ (Heap.get?_push_of_some _ x)⟩
end
/-- the tuple at a, each item in a new pair with its place -/
def IteT (K : PySem.W.Frag) (a : Addr) : It :=
  ⟨fun i H => ∃ (xs : List V) (x : V), SqT K H a xs ∧ xs[i]? = some x, fun i H v H' => ∃ T x, v = .ref T ∧ H T = none ∧ H' = upd H T (.tup [.int (i : Nat), x]) ∧ ∀ xs, SqT K H a xs → xs[i]? = some x, fun i H => ∃ xs : List V, SqT K H a xs ∧ xs.length = i⟩
theorem turn_enumT {P : Program} {w : World} {K : PySem.W.Frag} {elts : List Expr} {kk : Nat} {tpos : Pos} (a e it : Addr) :
    Turn P w K (.Tuple elts kk tpos) (IteT K a) [e, it] e (fun i h => (∃ old, IsEnum h e it ((i : Nat) : Int) old) ∧ h.IsTupleIter it a i ∧ e ≠ it) where
  mem := by simp
  obj := fun i h st b hb => by
    obtain ⟨⟨old, he⟩, ⟨o, ho, hc, hd⟩, _⟩ := st
    have e' : b = e ∨ b = it := by simpa using hb
    rcases e' with z | z
    · rw [z]; exact ⟨_, he, fun v q => nomatch q⟩
    · rw [z]; exact ⟨o, ho, fun v q => by rw [hd] at q; cases q⟩
  keep := fun i h h' st k => let ⟨⟨old, he⟩, hi, hne⟩ := st; ⟨⟨old, k e (by simp) _ he⟩, hi.at fun o q => k it (by simp) o q, hne⟩
  item := by
    intro X hP hw hK hc i pins s σ H E I hf st hg
    subst hP hw hK
    obtain ⟨⟨old, he⟩, hit, hne⟩ := st
    obtain ⟨xs, x, hq, hx⟩ := hg
    obtain ⟨its, rv, p, hz⟩ := I.tuple hq
    obtain ⟨u, hu, ru⟩ := rv.get hx
    have hel : e < s.heap.objs.size := Heap.lt_size he
    have hil : it < s.heap.objs.size := by obtain ⟨_, q, _⟩ := hit; exact Heap.lt_size q
    have nai : a ≠ it := by
      rintro rfl
      obtain ⟨o, ho, hco, _⟩ := p
      obtain ⟨o2, ho2, hco2, _⟩ := hit
      rw [ho] at ho2
      cases ho2
      rw [hco] at hco2
      exact absurd hco2 (by decide)
    have nea : e ≠ a := by
      rintro rfl
      obtain ⟨o, ho, hco, _⟩ := p
      have he' : s.heap.get? e = _ := he
      rw [ho] at he'
      cases he'
      injection hco with z
      exact absurd z (by decide)
    have hlt : i < its.toArray.size := by
      have := (List.getElem?_eq_some_iff.mp hu).1
      rw [List.size_toArray]
      exact this
    refine wpAny_pyNext_enum_itemD (Draws.tuple (A := X.A.in1) (I.ok.hd hc) it a nai its.toArray) he ⟨hit, p⟩ hlt hne (by simp; exact ⟨hne, nea⟩) fun u' h' tk hu' ho hst hT hsz hk => ?_
    have hu2 : its.toArray[i]? = some u' := hu'
    have eu : u' = u := by
      have : its.toArray[i]? = some u := by simpa using hu
      rw [this] at hu2
      exact (Option.some.inj hu2).symm
    subst eu
    refine ⟨_, rfl, wpAny_letOwnedTupleGo_enum (s := { s with heap := h', toks := tk + 1 }) ho fun h'' he' sb => ?_⟩
    have hT2 : h''.get? s.heap.objs.size = some { cls := .type "tuple", data := .seq #[.int i tk, u'] } := (sb.2 _ (Nat.ne_of_gt hel)).trans hT
    have new : ObjOk X.prog X.w (upd H s.heap.objs.size (.tup [.int (i : Nat), x])) h'' s.heap.objs.size (.tup [.int (i : Nat), x]) :=
      ⟨by show 2 ≤ sizeLine; decide, [.int i tk, u'], .cons ⟨_, rfl⟩ (.cons ru .nil), ⟨_, hT2, rfl, _, rfl⟩⟩
    have I1 : Inv X pins σ (upd H s.heap.objs.size (.tup [.int (i : Nat), x])) { s with heap := h'', toks := tk + 1 } :=
      I.turnedNew (ch := [e, it]) (fun b ob hb q => (sb.2 b (fun z => hb (by simp [z]))).trans (hk b ob (fun z => hb (by simp [z])) (fun z => hb (by simp [z])) q)) hf (Nat.le_refl _) new
    refine ⟨.ref s.heap.objs.size, _, I1, rfl, ⟨_, x, rfl, I.hok.fresh (Nat.le_refl _), rfl, fun ys hy => by rw [I.tuple_inj hy hq]; exact hx⟩, ⟨⟨u', ?_⟩, hst.1.at fun o q => (sb.2 it (Ne.symm hne)).trans q, hne⟩, fun b hb => ?_⟩
    · have e1 : ((i + 1 : Nat) : Int) = (i : Int) + 1 := by omega
      rw [e1]; exact he'
    · have hb' : b < s.heap.objs.size := by
        have e' : b = e ∨ b = it := by simpa using hb
        rcases e' with z | z
        · rw [z]; exact hel
        · rw [z]; exact hil
      rw [upd_ne (Nat.ne_of_lt hb')]
      exact (hf b hb).1
  done := by
    intro X hP hw hK hc i pins s σ H E I hf st hg
    subst hP hw hK
    obtain ⟨⟨old, he⟩, hit, hne⟩ := st
    obtain ⟨xs, hq, hx⟩ := hg
    obtain ⟨its, rv, p, hz⟩ := I.tuple hq
    obtain ⟨f0, f1, f2, f3, f4, f5⟩ := hf it (by simp)
    have hl := rv.length
    have nai : a ≠ it := by
      rintro rfl
      obtain ⟨o, ho, hco, _⟩ := p
      obtain ⟨o2, ho2, hco2, _⟩ := hit
      rw [ho] at ho2
      cases ho2
      rw [hco] at hco2
      exact absurd hco2 (by decide)
    have en : its.toArray.size = i := by rw [List.size_toArray]; omega
    exact wpAny_pyNext_enum_endD (Draws.tuple (A := X.A.in1) (I.ok.hd hc) it a nai its.toArray) he (by rw [en]; exact ⟨hit, p⟩) fun h' eb => ⟨rfl, I.turned (t' := s.toks) (fun b o hb q => eb b o hb q) f0 f1 f3 f4 f5⟩
  self := fun A i s Q E st h => let ⟨⟨_, he⟩, _⟩ := st; wpAny_pyIter_enum he h
def iEnumT (K : PySem.W.Frag) (ta : TA) : TI := fun σ H R => ta σ H fun vs H1 => ∃ a xs, vs = [.ref a] ∧ SqT K H1 a xs ∧ R (IteT K a) H1
theorem pi_enumT {X : Cx} {e : Expr} {ta : TA} {p pos tpos : Pos} {elts : List Expr} {kk : Nat} (hg : Gl X "enumerate") (hm : X.mg "enumerate" = none) (ha : PA X [e] ta) (hs : starEach [e] X.env = [(false, eval e X.env)] := by rfl) :
    PI X (.Tuple elts kk tpos) (.Call (.Name "enumerate" p) [e] [] pos) (iEnumT X.K ta) := by
  refine ⟨fun pins s σ H R I h => ?_⟩
  refine Call_ (ld_blt I hg hm boot_enumerate (PyProof.Rows.callWith_type1 (thn (ha.run pos pins s σ H _ I h) fun us s1 ⟨vs, H1, I1, r1, q1⟩ => ?_) hs rfl))
  obtain ⟨a, xs, ex, hq, q⟩ := q1
  subst ex
  cases r1 with
  | cons r rr =>
    cases rr
    cases r
    obtain ⟨its, rv, p', hz⟩ := I1.tuple hq
    refine call_enumerate_tuple p' fun h' he hit hsz hk => wpAny_pyIter_enum he ?_
    have I2 : Inv X pins σ H1 { s1 with heap := h' } := I1.kept (t' := s1.toks) hk
    refine ⟨s1.heap.objs.size + 1, [s1.heap.objs.size + 1, s1.heap.objs.size], _, _, H1, rfl, I2, turn_enumT a (s1.heap.objs.size + 1) s1.heap.objs.size, ⟨⟨.none, he⟩, hit, Nat.succ_ne_self _⟩, fun b hb => ?_, q⟩
    have e' : b = s1.heap.objs.size + 1 ∨ b = s1.heap.objs.size := by simpa using hb
    have hle : s1.heap.objs.size ≤ b := by
      rcases e' with z | z
      · rw [z]; exact Nat.le_add_right _ _
      · rw [z]; exact Nat.le_refl _
    exact I1.fpOk hle (I1.hok.fresh hle)
/-! ### sorted(t) -/
section
variable {prog : Program} {w : World} {M : Model} {A : Around} {E : Value → Shared → Prop} {s : Shared}
theorem collect_tuple {l : Addr} {vs : List Value} {Q : List Value → Shared → Prop} (hl : s.heap.IsTuple l vs.toArray)
    (h : Q vs { s with heap := (s.heap.push (seqObj "list" #[] 0)).update s.heap.objs.size (Obj.mapSeq (· ++ vs.toArray)) }) (hsz : vs.length ≤ sizeLine := by size_fits) :
    wpAny (model prog w) A (collect (.ref l)) Q E s := by
  obtain ⟨o, ho, hc, n, hd⟩ := id hl
  unfold collect
  refine wpAny_bind (wpAny_runValue (codeAny_builtin entry_proto_collect' ?_))
  show wpAny _ _ (do again (.builtin "list.__iadd__" ⟨[← newList [], .ref l], []⟩)) _ _ s
  refine wpAny_bind (wpAny_newList (wpAny_pure ⟨Code.quiet_builtin _ (by decide +kernel), codeAny_builtin entry_list_iadd' ?_⟩))
  show wpAny _ _ (Builtin.List.listExtendWith (.ref s.heap.objs.size) (.ref l) (.ref s.heap.objs.size)) _ _ { s with heap := s.heap.push (seqObj "list" #[] 0) }
  unfold Builtin.List.listExtendWith
  have ho' : (s.heap.push (seqObj "list" #[] 0)).get? l = some o := Heap.get?_push_of_some _ ho
  refine wpAny_bind (wpAny_typeOf (T := "tuple") ⟨o, ho', hc⟩ ?_)
  have ht : (Value.type "tuple" == Value.type "tuple") = true := by rfl
  rw [if_pos (by rw [ht]; simp)]
  refine wpAny_bind (listItems_at ho' hd ?_)
  refine wpAny_bind (listItems_at (xs := #[]) (n := 0) (Heap.get?_push_size _ rfl) rfl ?_)
  rw [if_neg (by simp)]
  refine wpAny_bind (listUpdate_at (xs := #[]) (n := 0) (Heap.get?_push_size _ rfl) rfl ?_ (Nat.zero_le _) (by show (#[] ++ vs.toArray).size ≤ sizeLine + 1; simp only [Array.size_append, List.size_toArray, List.length_nil]; omega))
  refine wpAny_pure ?_
  show wpAny (model prog w) A (do
      let o ← load s.heap.objs.size
      match o.data with
      | .seq xs _ => pure xs.toList
      | _ => unsupported "internal:collect") Q E { s with heap := (s.heap.push (seqObj "list" #[] 0)).update s.heap.objs.size (Obj.mapSeq (· ++ vs.toArray)) }
  refine wpAny_bind (wpAny_load (get?_update_seq (Heap.get?_push_size _ rfl) _) ?_)
  show wpAny _ _ (pure ((#[] : Array Value) ++ vs.toArray).toList) Q E _
  rw [show ((#[] : Array Value) ++ vs.toArray).toList = vs by simp]
  exact wpAny_pure h
theorem sorted_intsT {l : Addr} {vs : List Value} {ns : List Int} {Q : Value → Shared → Prop} (hl : s.heap.IsTuple l vs.toArray) (hI : IntsAre vs ns) (h64 : vs.length < 64)
    (h : ∀ (out : Array Value) (ns' : List Int), IntsAre out.toList ns' → ns'.Perm ns → ns'.Pairwise (· ≤ ·) → Q (.ref (s.heap.objs.size + 1)) { s with heap := sortedAll s.heap vs out }) :
    wpAny (model prog w) A (call (.builtin "sorted") [.ref l]) Q E s := by
  refine Calls.call_function_entry kind_sorted plain_sorted entry_sorted (args_sorted1 _) ?_
  unfold Builtin.«sorted»
  refine wpAny_bind (m := checkCount "sorted" 1 1 _) (wpAny_pure ?_)
  refine wpAny_bind (collect_tuple hl ?_ (Nat.le_trans (Nat.le_of_lt h64) (by decide)))
  refine wpAny_bind (wpAny_newList ?_)
  have hsz : ((s.heap.push (seqObj "list" #[] 0)).update s.heap.objs.size (Obj.mapSeq (· ++ vs.toArray))).objs.size = s.heap.objs.size + 1 := by
    rw [Heap.size_update, size_push']
  have hoL : (((s.heap.push (seqObj "list" #[] 0)).update s.heap.objs.size (Obj.mapSeq (· ++ vs.toArray))).push (seqObj "list" vs.toArray 0)).get? (s.heap.objs.size + 1) = some (seqObj "list" vs.toArray 0) := by
    rw [← hsz]; exact Heap.get?_push_size _ rfl
  show wpAny _ _ _ _ _ { s with heap := ((s.heap.push (seqObj "list" #[] 0)).update s.heap.objs.size (Obj.mapSeq (· ++ vs.toArray))).push (seqObj "list" vs.toArray 0) }
  rw [hsz]
  refine wpAny_bind (wpAny_holding (wpAny_call_entry slot_list_sort ⟨_, hoL, rfl⟩ entry_list_sort (list_sort_tree hoL hI h64 fun out ns' a1 a2 a3 => ⟨_, rfl, ?_⟩) (args_list_sort _)))
  exact wpAny_pure ⟨_, rfl, h out ns' a1 a2 a3⟩
end
section
variable {X : Cx}
def rSortedT (K : PySem.W.Frag) : List V → Hp → VK → Prop := fun vs H Q => ∃ (a : Addr) (ns : List Int), vs = [V.ref a] ∧ SqT K H a (ns.map V.int) ∧ ns.length < 64 ∧ ∀ (ns' : List Int) (p : Addr), ns'.Perm ns → ns'.Pairwise (· ≤ ·) → H p = none → Q (.ref p) (upd H p (.lst (ns'.map V.int)))
theorem cr_sortedT : CallR X (.builtin "sorted") (rSortedT X.K) := by
  intro pins s σ H vs us Q I r h
  obtain ⟨a, ns, rfl, hs, h64, q⟩ := h
  obtain ⟨its, rv, hl, _⟩ := I.tuple hs
  rw [Vals.ref1 r]
  have hi := rv.ints
  refine sorted_intsT hl hi (by rw [hi.length]; exact h64) fun out ns' h1 h2 h3 => ?_
  obtain ⟨ep, he'⟩ := PyProof.Rows.sortedAll_at s.heap its out
  have hlen : (ns'.map V.int).length ≤ sizeLine := by rw [List.length_map, h2.length_eq]; exact small64 h64
  exact ⟨.ref _, upd H (s.heap.objs.size + 1) (.lst (ns'.map V.int)), I.laid (t' := s.toks) (fun _ _ => PyProof.Rows.sortedAll_old) (Nat.le_succ _) ⟨hlen, out.toList, ep, vals_of_ints h1, he'⟩, rfl, q ns' _ h2 h3 (I.hok.fresh (Nat.le_succ _))⟩
/-- t.index(n), the first place -/
theorem mt_tup_indexI : MtR X "tuple.index" (fun x xs H Q => ∃ p, ∃ ys : List Int, ∃ z j, x = .ref p ∧ xs = [.int z] ∧ SqT X.K H p (ys.map V.int) ∧ ys[j]? = some z ∧ (∀ m, m < j → ys[m]? ≠ some z) ∧ Q (.int (j : Nat)) H) := by
  intro pins s σ H x xs v us Q I rx rs h
  obtain ⟨p, ys, z, j, rfl, rfl, hq, hy, hno, q⟩ := h
  cases rx
  obtain ⟨u, rfl, t, rfl⟩ := vals1 rs
  obtain ⟨its, r, pl, hz⟩ := I.tuple hq
  obtain ⟨⟨cls, dd, dt, sl⟩, ho, hc, n, hd⟩ := pl
  simp only at hc hd
  subst hc
  subst hd
  have hl : its.toArray.size = ys.length := by rw [List.size_toArray, ← r.length, List.length_map]
  have hj : j < its.toArray.size := by rw [hl]; exact (List.getElem?_eq_some_iff.mp hy).1
  have at' : ∀ (m : Nat) (hm : m < its.toArray.size), ∃ y t', ys[m]? = some y ∧ its.toArray[m] = Value.int y t' := fun m hm => by
    have hm' : m < ys.length := by rw [← hl]; exact hm
    obtain ⟨w, hw, t', hw'⟩ := r.get (i := m) (x := .int ys[m]) (by simp [hm'])
    refine ⟨ys[m], t', List.getElem?_eq_getElem hm', ?_⟩
    have e := (List.getElem?_eq_some_iff.mp hw).2
    rw [← hw', ← e]
    simp
  refine call_meets PySem.F.slot_tuple_index ⟨_, ho, rfl⟩ PySem.F.entry_tuple_index (PySem.F.args_tuple_index_2 _ _) (TI.tuple_indexAt p its.toArray n dd sl (.int z t) (eqU (.int z)) j hj ?_ ?_)
    ⟨ho, fun w hw => mem_eqAt (x := .int z) ⟨t, rfl⟩ rfl r (by rw [List.all_map]; exact List.all_eq_true.mpr fun _ _ => rfl) w (by simpa using hw), ⟨.int (j : Nat), H, I.tok _, ⟨_, rfl⟩, q⟩⟩
  · obtain ⟨y, t', h1, h2⟩ := at' j hj
    rw [hy] at h1
    cases h1
    rw [h2]
    show (z == z) = true
    exact beq_self_eq_true z
  · intro m hm hmj
    obtain ⟨y, t', h1, h2⟩ := at' m hm
    rw [h2]
    show (y == z) = false
    exact beq_eq_false_iff_ne.mpr fun e => hno m hmj (e ▸ h1)
end
end Ur

set_option Elab.async false
set_option linter.all false
set_option maxRecDepth 100000
set_option maxHeartbeats 3200000
/-! {.. for k, v in d.items()} -/
namespace Lc
open PySem L2 Tx Tg Tm RZ
theorem dc_items {d : Addr} {o : Obj} {kvs : List (Key × V)} {g : TG} {tt : TT} {tk tv : TE} {vs : List Nat} {σ : L2.St} {H1 : Hp} {D : Addr} {Qd : Hp → Prop} (Pv : Nat → Hp → Prop) (h0 : Pv 0 (upd H1 D (.dK [])))
    (hf : ∀ i H, Pv i H → H d = some (.frz o (.dK kvs))) (hs : ∀ i k v T H, kvs[i]? = some (k, v) → Pv i H → H T = none → g (.ref T) (wipe σ vs) (upd H T (.tup [kV k, v])) fun σ2 H2 => wipe σ2 vs = wipe σ vs ∧ tt σ2 H2 fun b H3 =>
      if b = true then tk σ2 H3 fun y H4 => tv σ2 H4 fun z H5 => ∃ kvs k, y = kV k ∧ H5 D = some (.dK kvs) ∧ kvs.length < sizeLine ∧ Pv (i + 1) (upd H5 D (.dK (putK kvs k z))) else Pv (i + 1) H3) (hd : ∀ H, Pv kvs.length H → Qd H) :
    ∃ W : Nat → Nat → Hp → Prop, (∃ m, W 0 m (upd H1 D (.dK []))) ∧ ∀ i m H, W i m H →
      ((Iti d o kvs).stop i H ∧ Qd H) ∨ ((Iti d o kvs).go i H ∧ ∃ Nx : Hp → Prop, (∀ H', Nx H' → ∃ m', m' < m ∧ W (i + 1) m' H') ∧ ∀ v H', (Iti d o kvs).yld i H v H' → g v (wipe σ vs) H' fun σ2 H2 => wipe σ2 vs = wipe σ vs ∧ tt σ2 H2 fun b H3 =>
        if b = true then tk σ2 H3 fun y H4 => tv σ2 H4 fun z H5 => ∃ kvs k, y = kV k ∧ H5 D = some (.dK kvs) ∧ kvs.length < sizeLine ∧ Nx (upd H5 D (.dK (putK kvs k z))) else Nx H3) := by
  refine ⟨fun i m H => m = kvs.length - i ∧ i ≤ kvs.length ∧ Pv i H, ⟨kvs.length, by simp, Nat.zero_le _, h0⟩, ?_⟩
  rintro i m H ⟨rfl, hi, p⟩
  by_cases hlt : i < kvs.length
  · refine .inr ⟨⟨hf i H p, hlt⟩, Pv (i + 1), fun H' p' => ⟨kvs.length - (i + 1), by omega, rfl, hlt, p'⟩, fun x H' y => ?_⟩
    obtain ⟨T, k, v, e, rfl, nT, rfl⟩ := y
    exact hs i k v T H e p nT
  · have e : i = kvs.length := by omega
    subst e
    exact .inl ⟨⟨hf _ H p, Nat.le_refl _⟩, hd H p⟩
section
variable {X : Cx}
/-- name = {k: v for ..} on one line -/
theorem ps_setDc {i : Nat} {y : Str} {py : Pos} {kx vx tg iter : Expr} {ifs : List Expr} {scope : Scope} {own : List (Str × Nat)} {pos spos : Pos} {wi : TI} {g : TG} {tt : TT} {tk tv : TE} (hc : X.calm = true) (hN : X.N.Nodup) (hy : X.N[i]? = some y) (hyl : X.env.scope.names.lookup y = some .local)
    (hsw : swapsWith (.DictComp kx vx [⟨tg, iter, ifs, 0⟩] scope pos) (some (.Name y py)) spos.line X.env = pure true) (hi : PI X tg iter wi) (ok : BlkOk X.N X.env.scope scope own)
    (hg : ∀ (s : Shared) (H : Hp) (C : Addr) (cl : List (Str × Addr)) (fp : List Addr), PG (X.blk s H scope (compEnvC scope cl C X.env) fp) tg g) (ht : ∀ (s : Shared) (H : Hp) (C : Addr) (cl : List (Str × Addr)) (fp : List Addr), PTs (X.blk s H scope (compEnvC scope cl C X.env) fp) ifs tt)
    (hk : ∀ (s : Shared) (H : Hp) (C : Addr) (cl : List (Str × Addr)) (fp : List Addr), PE (X.blk s H scope (compEnvC scope cl C X.env) fp) kx tk)
    (he : ∀ (s : Shared) (H : Hp) (C : Addr) (cl : List (Str × Addr)) (fp : List Addr), PE (X.blk s H scope (compEnvC scope cl C X.env) fp) vx tv) (hs : ∀ x, foldedSetIterable iter X.env x = pure x := by intro _; rfl) :
    PS X (.Assign [.Name y py] (.DictComp kx vx [⟨tg, iter, ifs, 0⟩] scope pos) spos) (tAsg (tDc wi g tt tk tv (own.map (·.2))) (gName i)) := by
  refine ⟨fun pins s σ H D I h => ?_⟩
  rw [exec_Assign_Name_used _ _ _ _ hsw]
  refine wpAny_bind (wpAny_standAt (wpAny_bind ?_))
  show wpAny _ X.A (do let _ ← comprehension (.DictComp kx vx [⟨tg, iter, ifs, 0⟩] scope pos) scope X.env (firstIterPos [⟨tg, iter, ifs, 0⟩] pos) newDict false (eval iter X.env) (some (assign (.Name y py) X.env))) _ _ s
  have h : tDc wi g tt tk tv (own.map (·.2)) σ H (fun x H1 => gName i x σ H1 D.nx) := h
  refine wpAny_bind (thn (dc_core (Qf := fun _ s' => SP X pins D .next s') hc hN I hi ok hg ht hk he hs h fun L C s' m H' I' q hn f => ?_) fun _ s' hq => wpAny_pure (wpAny_pure hq))
  show wpAny _ _ (assign (.Name y py) X.env (.ref L)) _ _ _
  refine wpAny_assign_Name (store_ok2 (v := V.ref L) I' hN hy (.inl hyl) rfl (fun s2 I2 ⟨a, sb, ha⟩ => ?_) (.inr hyl))
  obtain ⟨f0, f1, f2, f3, f4, f5⟩ := f
  have haC : C ≠ a := by
    rcases ha with z | z
    · rw [z]; exact f1
    · exact fun e => f4 y a z e.symm
  refine ⟨m, hn.sameBut sb haC, fun h3 sb3 => ?_⟩
  exact ⟨_, H', I2.turned (t' := s2.toks) (fun b o hb e => (sb3.2 b hb).trans e) f0 f1 f3 f4 f5, q⟩
theorem sw_dict {kx vx : Expr} {gs : List Comprehension} {scope : Scope} {pos py : Pos} {y : Str} {l : Nat} {env : Env} (hk : env.scope.kind = .function) (hy : env.scope.names.lookup y = some .local) (hl : (py.line == pos.line) = true)
    (ha : (scope.names.any fun (n, k) => n == y && (k == .local || k == .cell)) = false) : swapsWith (.DictComp kx vx gs scope pos) (some (.Name y py)) l env = pure true := by
  have ky : env.kindOf y = some .local := hy
  have hb : env.blockKind = .function := by unfold Env.blockKind; rw [hk]; rfl
  unfold swapsWith
  simp only [hb, ky, ha, Expr.pos, hl]
  rfl
end
end Lc

set_option Elab.async false
set_option linter.all false
set_option maxRecDepth 100000
set_option maxHeartbeats 3200000
/-! a new dict, locked as soon as it is there (for its walk) -/
namespace Lc
open PySem L2 Tx Tg Tm RZ
def tLockV (t : TE) : TE := fun σ H Q => t σ H fun x H1 => ∃ d u, x = .ref d ∧ H1 d = some u ∧ Mut (some u) ∧ ∀ od, Q x (upd H1 d (.frz od u))
theorem pe_lockV {X : Cx} {e : Expr} {t : TE} (he : PE X e t) : PE X e (tLockV t) := by
  refine ⟨fun pins s σ H Q I h => ?_⟩
  refine thn (he.run pins s σ H _ I h) fun u s1 ⟨x, H1, I1, rx, d, o, ex, hd, mu, q⟩ => ?_
  obtain ⟨od, I2⟩ := I1.lock hd mu
  exact ⟨x, _, I2, rx, q od⟩
end Lc

set_option Elab.async false
set_option linter.all false
set_option maxRecDepth 100000
set_option maxHeartbeats 3200000
/-! {k: .. for k in d}, {x: .. for x in a tuple} with all keys new -/
namespace Lc
open PySem L2 Tx Tg Tm RZ
theorem dc_keys {d : Addr} {o : Obj} {kvs : List (Key × V)} {g : TG} {tt : TT} {tk tv : TE} {vs : List Nat} {σ : L2.St} {H1 : Hp} {D : Addr} {Qd : Hp → Prop} (Pv : Nat → Hp → Prop) (h0 : Pv 0 (upd H1 D (.dK [])))
    (hf : ∀ i H, Pv i H → H d = some (.frz o (.dK kvs))) (hs : ∀ i k v H, kvs[i]? = some (k, v) → Pv i H → g (kV k) (wipe σ vs) H fun σ2 H2 => wipe σ2 vs = wipe σ vs ∧ tt σ2 H2 fun b H3 =>
      if b = true then tk σ2 H3 fun y H4 => tv σ2 H4 fun z H5 => ∃ kvs k, y = kV k ∧ H5 D = some (.dK kvs) ∧ kvs.length < sizeLine ∧ Pv (i + 1) (upd H5 D (.dK (putK kvs k z))) else Pv (i + 1) H3) (hd : ∀ H, Pv kvs.length H → Qd H) :
    ∃ W : Nat → Nat → Hp → Prop, (∃ m, W 0 m (upd H1 D (.dK []))) ∧ ∀ i m H, W i m H →
      ((Itk d o kvs).stop i H ∧ Qd H) ∨ ((Itk d o kvs).go i H ∧ ∃ Nx : Hp → Prop, (∀ H', Nx H' → ∃ m', m' < m ∧ W (i + 1) m' H') ∧ ∀ v H', (Itk d o kvs).yld i H v H' → g v (wipe σ vs) H' fun σ2 H2 => wipe σ2 vs = wipe σ vs ∧ tt σ2 H2 fun b H3 =>
        if b = true then tk σ2 H3 fun y H4 => tv σ2 H4 fun z H5 => ∃ kvs k, y = kV k ∧ H5 D = some (.dK kvs) ∧ kvs.length < sizeLine ∧ Nx (upd H5 D (.dK (putK kvs k z))) else Nx H3) := by
  refine ⟨fun i m H => m = kvs.length - i ∧ i ≤ kvs.length ∧ Pv i H, ⟨kvs.length, by simp, Nat.zero_le _, h0⟩, ?_⟩
  rintro i m H ⟨rfl, hi, p⟩
  by_cases hlt : i < kvs.length
  · refine .inr ⟨⟨hf i H p, hlt⟩, Pv (i + 1), fun H' p' => ⟨kvs.length - (i + 1), by omega, rfl, hlt, p'⟩, fun x H' y => ?_⟩
    obtain ⟨rfl, k, v, e, rfl⟩ := y
    exact hs i k v _ e p
  · have e : i = kvs.length := by omega
    subst e
    exact .inl ⟨⟨hf _ H p, Nat.le_refl _⟩, hd H p⟩
theorem putK_app {kvs : List (Key × V)} {k : Key} {v : V} (h : k ∉ kvs.map (·.1)) : putK kvs k v = kvs ++ [(k, v)] := by
  unfold putK
  rw [if_neg]
  intro z
  obtain ⟨kv, hk, e⟩ := List.any_eq_true.mp z
  exact h (List.mem_map.mpr ⟨kv, hk, of_decide_eq_true e⟩)
/-- each key of a dict with a new value -/
theorem dcK {d : Addr} {o : Obj} {kvs : List (Key × V)} {j : Nat} {tv : TE} {σ : L2.St} {H1 : Hp} {D : Addr} {Qd : Hp → Prop} {F : Key → V} (ed : H1 d = some (.frz o (.dK kvs))) (nd : (kvs.map (·.1)).Nodup) (nD : H1 D = none) (hz : kvs.length < sizeLine)
    (hw : ∀ v, wipe ((wipe σ [j]).set j (some v)) [j] = wipe σ [j]) (hj : ∀ v, ((wipe σ [j]).set j (some v))[j]? = some (some v))
    (hs : ∀ (i : Nat) (k : Key) (v : V) (H2 : Hp), kvs[i]? = some (k, v) → Same H1 H2 → ∀ Q : VK, (∀ H3, Same H2 H3 → Q (F k) H3) → tv ((wipe σ [j]).set j (some (kV k))) H2 Q) (hd : ∀ H2, Same H1 H2 → H2 D = some (.dK (kvs.map fun kv => (kv.1, F kv.1))) → Qd H2) :
    ∃ W : Nat → Nat → Hp → Prop, (∃ m, W 0 m (upd H1 D (.dK []))) ∧ ∀ i m H, W i m H →
      ((Itk d o kvs).stop i H ∧ Qd H) ∨ ((Itk d o kvs).go i H ∧ ∃ Nx : Hp → Prop, (∀ H', Nx H' → ∃ m', m' < m ∧ W (i + 1) m' H') ∧ ∀ v H', (Itk d o kvs).yld i H v H' → gName j v (wipe σ [j]) H' fun σ2 H2 => wipe σ2 [j] = wipe σ [j] ∧ tYes σ2 H2 fun b H3 =>
        if b = true then tVar j σ2 H3 fun y H4 => tv σ2 H4 fun z H5 => ∃ kvs k, y = kV k ∧ H5 D = some (.dK kvs) ∧ kvs.length < sizeLine ∧ Nx (upd H5 D (.dK (putK kvs k z))) else Nx H3) := by
  refine dc_keys (fun i H2 => Same H1 H2 ∧ H2 D = some (.dK ((kvs.take i).map fun kv => (kv.1, F kv.1)))) ⟨same_upd nD, upd_same⟩ (fun i H2 z => z.1 _ _ ed) ?_ ?_
  · rintro i k v H2 hk ⟨s2, e2⟩
    have hi := (List.getElem?_eq_some_iff.mp hk).1
    refine ⟨hw _, iteT (B := False) ?_⟩
    refine ⟨_, hj _, hs i k v H2 hk s2 _ fun H3 s3 => ⟨_, k, rfl, s3 _ _ e2, ?_, same_put (s2.trans s3) nD, ?_⟩⟩
    · rw [List.length_map, List.length_take]
      omega
    · rw [upd_same, putK_app, List.take_add_one, hk]
      · rw [List.map_append]
        rfl
      · rw [List.map_map]
        intro hm
        obtain ⟨kv, h1, e1⟩ := List.mem_map.mp hm
        obtain ⟨m, hm⟩ := List.mem_iff_getElem?.mp h1
        have hm1 := (List.getElem?_eq_some_iff.mp hm).1
        rw [List.length_take] at hm1
        rw [List.getElem?_take, if_pos (by omega)] at hm
        have a1 : (kvs.map (·.1))[m]? = some kv.1 := by rw [List.getElem?_map, hm]; rfl
        have a2 : (kvs.map (·.1))[i]? = some k := by rw [List.getElem?_map, hk]; rfl
        have e1 : kv.1 = k := e1
        rw [e1] at a1
        have := (List.getElem?_inj (by rw [List.length_map]; omega) nd).mp (a1.trans a2.symm)
        omega
  · rintro H2 ⟨s2, e2⟩
    rw [List.take_of_length_le (Nat.le_refl _)] at e2
    exact hd H2 s2 e2
/-- each item of a tuple of unlike texts with a value -/
theorem dcT {K : PySem.W.Frag} {a : Addr} {ts : List Str} {j : Nat} {tv : TE} {σ : L2.St} {H1 : Hp} {D : Addr} {Qd : Hp → Prop} {F : Str → V} (ea : SqT K H1 a (ts.map V.str)) (nd : ts.Nodup) (nD : H1 D = none) (hz : ts.length < sizeLine)
    (hw : ∀ v, wipe ((wipe σ [j]).set j (some v)) [j] = wipe σ [j]) (hj : ∀ v, ((wipe σ [j]).set j (some v))[j]? = some (some v))
    (hs : ∀ (i : Nat) (t : Str) (H2 : Hp), ts[i]? = some t → Same H1 H2 → ∀ Q : VK, (∀ H3, Same H2 H3 → Q (F t) H3) → tv ((wipe σ [j]).set j (some (.str t))) H2 Q) (hd : ∀ H2, Same H1 H2 → H2 D = some (.dK (ts.map fun t => ((Sum.inr t : Key), F t))) → Qd H2) :
    ∃ W : Nat → Nat → Hp → Prop, (∃ m, W 0 m (upd H1 D (.dK []))) ∧ ∀ i m H, W i m H →
      ((Itt K a).stop i H ∧ Qd H) ∨ ((Itt K a).go i H ∧ ∃ Nx : Hp → Prop, (∀ H', Nx H' → ∃ m', m' < m ∧ W (i + 1) m' H') ∧ ∀ v H', (Itt K a).yld i H v H' → gName j v (wipe σ [j]) H' fun σ2 H2 => wipe σ2 [j] = wipe σ [j] ∧ tYes σ2 H2 fun b H3 =>
        if b = true then tVar j σ2 H3 fun y H4 => tv σ2 H4 fun z H5 => ∃ kvs k, y = kV k ∧ H5 D = some (.dK kvs) ∧ kvs.length < sizeLine ∧ Nx (upd H5 D (.dK (putK kvs k z))) else Nx H3) := by
  have key : ∀ i H, i ≤ ts.length ∧ (Same H1 H ∧ H D = some (.dK ((ts.take i).map fun t => ((Sum.inr t : Key), F t)))) → SqT K H a (ts.map V.str) := fun i H h => sqT_same h.2.1 ea
  refine ⟨fun i m H => m = ts.length - i ∧ i ≤ ts.length ∧ (Same H1 H ∧ H D = some (.dK ((ts.take i).map fun t => ((Sum.inr t : Key), F t)))), ⟨ts.length, by simp, Nat.zero_le _, same_upd nD, upd_same⟩, ?_⟩
  rintro i m H ⟨rfl, hi, s2, e2⟩
  have ea2 := key i H ⟨hi, s2, e2⟩
  by_cases hlt : i < ts.length
  · have hx : (ts.map V.str)[i]? = some (V.str ts[i]) := by rw [List.getElem?_map, List.getElem?_eq_getElem hlt]; rfl
    refine .inr ⟨⟨_, _, ea2, hx⟩, fun H' => i + 1 ≤ ts.length ∧ (Same H1 H' ∧ H' D = some (.dK ((ts.take (i + 1)).map fun t => ((Sum.inr t : Key), F t)))), fun H' p' => ⟨ts.length - (i + 1), by omega, rfl, p'⟩, fun v H' y => ?_⟩
    obtain ⟨rfl, hv⟩ := y
    have ev := hv _ ea2
    rw [hx] at ev
    cases ev
    refine ⟨hw _, iteT (B := False) ?_⟩
    refine ⟨_, hj _, hs i ts[i] H' (List.getElem?_eq_getElem hlt) s2 _ fun H3 s3 => ⟨_, Sum.inr ts[i], rfl, s3 _ _ e2, ?_, hlt, same_put (s2.trans s3) nD, ?_⟩⟩
    · rw [List.length_map, List.length_take]
      omega
    · rw [upd_same, putK_app, List.take_add_one, List.getElem?_eq_getElem hlt]
      · rw [List.map_append]
        rfl
      · rw [List.map_map]
        intro hm
        obtain ⟨t, h1, e1⟩ := List.mem_map.mp hm
        have e1 : t = ts[i] := by injection e1
        obtain ⟨m, hm⟩ := List.mem_iff_getElem?.mp h1
        have hm1 := (List.getElem?_eq_some_iff.mp hm).1
        rw [List.length_take] at hm1
        rw [List.getElem?_take, if_pos (by omega), e1] at hm
        have := (List.getElem?_inj (by omega) nd).mp (hm.trans (List.getElem?_eq_getElem hlt).symm)
        omega
  · have e : i = ts.length := by omega
    subst e
    rw [List.take_of_length_le (Nat.le_refl _)] at e2
    exact .inl ⟨⟨_, ea2, by rw [List.length_map]; exact Nat.le_refl _⟩, hd H s2 e2⟩
end Lc

set_option Elab.async false
set_option linter.all false
set_option maxRecDepth 100000
set_option maxHeartbeats 4000000
/-! enumerate(a dict): its keys with their places -/
namespace Ek
open PySem PySem.Spec PyProof.Rows L2 Tx Tg Tm
section
variable {prog : Program} {w : World} {A : Around} {err : Value → Shared → Prop} {z : Shared}
/-- one turn of the iterator of a dict's keys: the key at its place, or the end -/
theorem key_turn {it d : Addr} {i ep : Nat} {od : Obj} {es : Array DictEntry} {Q : Value → Shared → Prop} (calm : A.handled = none) (at_ : z.heap.IsKeyIter it d i es.size ep) (dict : z.heap.get? d = some od) (data : od.data = .dict es ep)
    (more : ∀ en, es[i]? = some en → ∀ h', h'.IsKeyIter it d (i + 1) es.size ep → Heap.SameBut it z.heap h' → Q en.key { z with heap := h' })
    (over : es[i]? = none → ∀ h' e, Heap.ExtBut it z.heap h' → (∃ o, h'.get? e = some o ∧ o.cls = .type "StopIteration") → err (.ref e) { z with heap := h' }) :
    wpAny (model prog w) A (Builtin.SmallTypes.nextOf (.ref it)) Q err z := by
  obtain ⟨obj, there, cls, flds⟩ := id at_
  have ty := at_.typeIs
  have notOwn : Builtin.Dict_items.ownsTuple "dict_keyiterator" = false := by decide
  have pos : ¬ ((i : Int) < 0) := by omega
  have live : ¬ ((Value.ref d == Value.none) = true) := Bool.false_ne_true
  unfold Builtin.SmallTypes.nextOf; refine wpAny_bind (wpAny_callSpecial?_slot (name := Str.ofString "__next__") ty F.slot_dict_keyiterator_next (wpAny_call_entry F.slot_dict_keyiterator_next ty F.entry_dict_keyiterator_next ?_ (F.args_dict_keyiterator_next_1 _)))
  refine wpAny_bind (wpAny_pure (wpAny_bind (wpAny_bind ?_)))
  first | refine wpAny_bind (wpAny_typeNameOfWhole_keyiter ty (wpAny_pure ?_)) | refine wpAny_bind (wpAny_typeNameOf_keyiter ty (wpAny_pure ?_))
  refine wpAny_bind (wpAny_fieldsOf there flds ?_); simp only [notOwn, Bool.false_eq_true, if_false]
  refine (show wpAny _ _ (if (Value.ref d == Value.none) = true then _ else _) _ _ z from ?_); rw [if_neg live]
  refine wpAny_bind (wpAny_pure (wpAny_bind (wpAny_dictEntries dict data ?_))); rw [if_neg (by simp)]
  refine wpAny_bind (wpAny_pure (wpAny_bind (wpAny_dictEpoch dict data ?_))); rw [if_neg (by simp)]; refine wpAny_pure ?_
  cases q : es[i]? with
  | some en =>
    have step : (z.heap.update it (Obj.mapFields (·.setIfInBounds 1 (rawInt ((i : Int) + 1))))).IsKeyIter it d (i + 1) es.size ep := ⟨_, Heap.get?_update_self _ there (Obj.isFreed_of_fields (Obj.data_mapFields flds _)), (Obj.cls_mapFields ..).trans cls, by rw [Obj.data_mapFields flds]; simp [rawInt]⟩
    simp only [pos, if_false, Int.toNat_natCast, q]
    refine wpAny_bind ?_
    first | refine wpAny_bind (wpAny_typeNameOfWhole_keyiter ty (wpAny_pure ?_)) | refine wpAny_bind (wpAny_typeNameOf_keyiter ty (wpAny_pure ?_))
    refine wpAny_bind (wpAny_isOneOf_keyiter ty (show wpAny _ _ (setField (.ref it) 1 (rawInt ((i : Int) + 1)) >>= _) _ _ z from wpAny_bind (wpAny_setField there flds (by simp) (wpAny_bind (wpAny_holding ?_)))))
    refine wpAny_bind (wpAny_isOneOf_keyiter (s := { z with heap := z.heap.update it (Obj.mapFields (·.setIfInBounds 1 (rawInt ((i : Int) + 1)))) }) step.typeIs (show wpAny _ _ (pure en.key) _ _ _ from ?_))
    exact wpAny_pure (wpAny_pure ⟨_, rfl, wpAny_pure (more en q _ step (Heap.SameBut.update ..))⟩)
  | none =>
    simp only [pos, if_false, Int.toNat_natCast, q]
    refine wpAny_bind ?_
    first | refine wpAny_bind (wpAny_typeNameOfWhole_keyiter ty (wpAny_pure ?_)) | refine wpAny_bind (wpAny_typeNameOf_keyiter ty (wpAny_pure ?_))
    refine (show wpAny _ _ (setField (.ref it) 0 .none >>= _) _ _ z from wpAny_bind (wpAny_setField there flds (by simp) (show wpAny _ _ (newExc (.type "StopIteration") [] >>= _) _ _ _ from wpAny_bind ?_)))
    simp only [newExc, newTuple]; refine wpAny_bind (wpAny_newObj_type (wpAny_bind (m := firstArgMember _ _) (wpAny_of_eq (a := Value.none) (by first | rfl | (simp only [firstArgMember]; rfl)) (wpAny_newObj_type ?_ (by size_fits)))) (by size_fits))
    simp only [raiseNew]; refine wpAny_bind (wpAny_handled ?_); rw [show A.in1.handled = none from calm]
    exact wpAny_bind (wpAny_pure (wpAny_throw (over q _ _ (((Heap.SameBut.update ..).extBut.push _).push _) ⟨_, Heap.get?_push_size _ rfl, rfl⟩)))
/-- the keys of the dict at d, drawn one by one -/
theorem draws_keys (calm : A.handled = none) (it d : Addr) (ne : d ≠ it) {od : Obj} {es : Array DictEntry} {ep : Nat} (data : od.data = .dict es ep) :
    Draws prog w A it [it, d] es.size (fun i v => ∃ en, es[i]? = some en ∧ v = en.key) (fun i h => h.IsKeyIter it d i es.size ep ∧ h.get? d = some od) where
  live := fun i h st => let ⟨o, e, _⟩ := st.1; ⟨o, e⟩
  frame := fun i h h' st k => ⟨st.1.at fun o e => k it (by simp) o e, k d (by simp) _ st.2⟩
  item := fun i z Q err lt st go => key_turn calm st.1 st.2 data (fun en q h' st' sb => go _ h' z.toks ⟨en, q, rfl⟩ ⟨st', (sb.2 d ne).trans st.2⟩ sb) fun q => by
    rw [Array.getElem?_eq_getElem lt] at q
    cases q
  done := fun z Q err st stop => key_turn calm st.1 st.2 data (fun en q => by
    rw [Array.getElem?_eq_none (Nat.le_refl _)] at q
    cases q) fun _ h' e x o => stop h' e x o
/-- enumerate(d): an iterator of its keys in an enumerate -/
theorem enum_new (d : Addr) (od : Obj) (es : Array DictEntry) (ep : Nat) :
    Meets (Builtin.«enumerate.__new__» ⟨[.type "enumerate", .ref d], []⟩) (fun _ R z => ((d == sysModules) = false ∧ z.heap.get? d = some od ∧ od.ExactDict ∧ od.data = .dict es ep) ∧
      R (.ok (.ret (.ref (z.heap.push { cls := .type "dict_keyiterator", data := .fields #[.ref d, .int 0 0, .int es.size 0, .int ep 0] }).objs.size)))
        { z with heap := (z.heap.push { cls := .type "dict_keyiterator", data := .fields #[.ref d, .int 0 0, .int es.size 0, .int ep 0] }).push { cls := .type "enumerate", data := .fields #[.none, .bool false, .ref z.heap.objs.size, rawInt 0, .none, .none] } }) :=
  .of_wp fun prog w A R z h => by
    obtain ⟨heap, gens, drawn, toks, os⟩ := z
    obtain ⟨⟨notSys, there, exact_, data⟩, h⟩ := h
    have sub := sub_enumerate
    have begin_ : ∀ {B : Around} {err Q : Value → Shared → Prop}, Q (.ref heap.objs.size) ⟨heap.push { cls := .type "dict_keyiterator", data := .fields #[.ref d, .int 0 0, .int es.size 0, .int ep 0] }, gens, drawn, toks, os⟩ → wpAny (model prog w) B (pyIter (.ref d)) Q err ⟨heap, gens, drawn, toks, os⟩ :=
      fun q => iter_keys (s := ⟨heap, gens, drawn, toks, os⟩) notSys there exact_ data q
    wp_walk using begin_
    refine wpAny_stack_any fun st => wpAny_pure ?_
    split
    · rename_i c _ _ _ _ _
      cases (c == Value.type "enumerate") <;> (wp_walk using begin_; exact ⟨_, rfl, h⟩)
    · wp_walk using begin_
      exact ⟨_, rfl, h⟩
end
/-- the keys of the dict at d, each in a new pair with its place -/
def IteK (d : Addr) (o : Obj) (kvs : List (Key × V)) : It :=
  ⟨fun i H => H d = some (.frz o (.dK kvs)) ∧ i < kvs.length, fun i H v H' => ∃ T k x, v = .ref T ∧ H T = none ∧ kvs[i]? = some (k, x) ∧ H' = upd H T (.tup [.int (i : Nat), kV k]), fun i H => H d = some (.frz o (.dK kvs)) ∧ kvs.length = i⟩
theorem key_at {P : Program} {w : World} {k : Key} {u : Value} {en : DictEntry} : ∀ {es : List DictEntry} {vs : List (Key × Value)} {i : Nat}, Pairs (mixKind P w) es vs → es[i]? = some en → vs[i]? = some (k, u) → keyIs k en.key = true
  | _, _, _, .nil, h, _ => by simp at h
  | _, _, 0, .cons r _ _, h, g => by
    cases h
    cases g
    exact r
  | _, _, i + 1, .cons _ _ t, h, g => key_at t h g
section
variable {P : Program} {w : World} {K : PySem.W.Frag} {elts : List Expr} {kk : Nat} {tpos : Pos} {o : Obj} {es : Array DictEntry} {ep : Nat} {kvs : List (Key × V)}
theorem turn_enumK (d e it : Addr) (data : o.data = .dict es ep) :
    Turn P w K (.Tuple elts kk tpos) (IteK d o kvs) [e, it] e (fun i h => (∃ old, IsEnum h e it ((i : Nat) : Int) old) ∧ h.IsKeyIter it d i kvs.length ep ∧ e ≠ it) where
  mem := by simp
  obj := fun i h st b hb => by
    obtain ⟨⟨old, isE⟩, ⟨oi, there, cls, flds⟩, _⟩ := st
    rcases (show b = e ∨ b = it by simpa using hb) with rfl | rfl
    · exact ⟨_, isE, fun v q => nomatch q⟩
    · exact ⟨oi, there, fun v q => by rw [flds] at q; cases q⟩
  keep := fun i h h' st k => let ⟨⟨old, isE⟩, isI, ne⟩ := st; ⟨⟨old, k e (by simp) _ isE⟩, isI.at fun oi q => k it (by simp) oi q, ne⟩
  item := by
    intro X hP hw hK calm i pins s σ H E I free st go
    subst hP hw hK
    obtain ⟨⟨old, isE⟩, isI, ne⟩ := st
    obtain ⟨lock, lt⟩ := go
    obtain ⟨_, there, ex, es', ep', vs, data', size, rel, at_⟩ := I.frzK lock
    rw [data] at data'
    cases data'
    obtain ⟨⟨k, x⟩, hk⟩ : ∃ p, kvs[i]? = some p := ⟨kvs[i], List.getElem?_eq_getElem lt⟩
    obtain ⟨u, hu, _⟩ := kv_get rel hk
    rw [← size] at isI
    have eLt : e < s.heap.objs.size := Heap.lt_size isE
    have iLt : it < s.heap.objs.size := by obtain ⟨_, q, _⟩ := isI; exact Heap.lt_size q
    have apart : d ≠ it := by
      rintro rfl
      obtain ⟨oi, q, _, flds⟩ := isI
      rw [there] at q
      cases q
      rw [data] at flds
      cases flds
    have apartE : e ≠ d := by
      rintro rfl
      have q : s.heap.get? e = _ := isE
      rw [there] at q
      cases q
      cases data
    refine wpAny_pyNext_enum_itemD (draws_keys (A := X.A.in1) (I.ok.hd calm) it d apart data) isE ⟨isI, there⟩ (by rw [size]; exact lt) ne (by simp; exact ⟨ne, apartE⟩) fun u' h' tk hu' isE' st' pair _ kept => ?_
    obtain ⟨en, hen, rfl⟩ := hu'
    have isKey : keyIs k en.key = true := by
      obtain ⟨o2, es2, there2, _, data2, _, pairs, _⟩ := at_
      rw [there] at there2
      cases there2
      rw [data] at data2
      cases data2
      have l : es.toList[i]? = some en := by rw [Array.getElem?_toList]; exact hen
      exact key_at pairs l hu
    refine ⟨_, rfl, wpAny_letOwnedTupleGo_enum (s := { s with heap := h', toks := tk + 1 }) isE' fun h'' isE'' same => ?_⟩
    have pair2 : h''.get? s.heap.objs.size = some { cls := .type "tuple", data := .seq #[.int i tk, en.key] } := (same.2 _ (Nat.ne_of_gt eLt)).trans pair
    have fresh : ObjOk X.prog X.w (upd H s.heap.objs.size (.tup [.int (i : Nat), kV k])) h'' s.heap.objs.size (.tup [.int (i : Nat), kV k]) :=
      ⟨by show 2 ≤ sizeLine; decide, [.int i tk, en.key], .cons ⟨_, rfl⟩ (.cons (relV_key isKey) .nil), ⟨_, pair2, rfl, _, rfl⟩⟩
    have J : Inv X pins σ (upd H s.heap.objs.size (.tup [.int (i : Nat), kV k])) { s with heap := h'', toks := tk + 1 } :=
      I.turnedNew (ch := [e, it]) (fun b ob hb q => (same.2 b (fun z => hb (by simp [z]))).trans (kept b ob (fun z => hb (by simp [z])) (fun z => hb (by simp [z])) q)) free (Nat.le_refl _) fresh
    refine ⟨.ref s.heap.objs.size, _, J, rfl, ⟨_, k, x, rfl, I.hok.fresh (Nat.le_refl _), hk, rfl⟩, ⟨⟨en.key, by rw [show ((i + 1 : Nat) : Int) = (i : Int) + 1 by omega]; exact isE''⟩, ?_, ne⟩, fun b hb => ?_⟩
    · rw [← size]
      exact st'.1.at fun oi q => (same.2 it (Ne.symm ne)).trans q
    · have bLt : b < s.heap.objs.size := by rcases (show b = e ∨ b = it by simpa using hb) with rfl | rfl <;> assumption
      rw [upd_ne (Nat.ne_of_lt bLt)]
      exact (free b hb).1
  done := by
    intro X hP hw hK calm i pins s σ H E I free st over
    subst hP hw hK
    obtain ⟨⟨old, isE⟩, isI, ne⟩ := st
    obtain ⟨lock, len⟩ := over
    obtain ⟨_, there, ex, es', ep', vs, data', size, rel, at_⟩ := I.frzK lock
    rw [data] at data'
    cases data'
    obtain ⟨f0, f1, f2, f3, f4, f5⟩ := free it (by simp)
    have apart : d ≠ it := by
      rintro rfl
      obtain ⟨oi, q, _, flds⟩ := isI
      rw [there] at q
      cases q
      rw [data] at flds
      cases flds
    rw [← len, ← size] at isI
    rw [← len, ← size] at isE
    exact wpAny_pyNext_enum_endD (draws_keys (A := X.A.in1) (I.ok.hd calm) it d apart data) isE ⟨isI, there⟩ fun h' eb => ⟨rfl, I.turned (t' := s.toks) (fun b ob hb q => eb b ob hb q) f0 f1 f3 f4 f5⟩
  self := fun A i s Q E st h => let ⟨⟨_, isE⟩, _⟩ := st; wpAny_pyIter_enum isE h
end
def iEnumK (ta : TA) : TI := fun σ H R => ta σ H fun vs H1 => ∃ d o kvs, vs = [.ref d] ∧ H1 d = some (.frz o (.dK kvs)) ∧ R (IteK d o kvs) H1
theorem pi_enumK {X : Cx} {e : Expr} {ta : TA} {p pos tpos : Pos} {elts : List Expr} {kk : Nat} (hg : Gl X "enumerate") (hm : X.mg "enumerate" = none) (ha : PA X [e] ta) (one : starEach [e] X.env = [(false, eval e X.env)] := by rfl) :
    PI X (.Tuple elts kk tpos) (.Call (.Name "enumerate" p) [e] [] pos) (iEnumK ta) := by
  refine ⟨fun pins s σ H R I h => Call_ (ld_blt I hg hm boot_enumerate (PyProof.Rows.callWith_type1 (thn (ha.run pos pins s σ H _ I h) fun us s1 ⟨vs, H1, I1, r1, d, o, kvs, ev, lock, q⟩ => ?_) one rfl))⟩
  subst ev
  cases r1 with
  | cons r rr =>
    cases rr
    cases r
    obtain ⟨notSys, there, ex, es, ep, vs, data, size, rel, at_⟩ := I1.frzK lock
    refine callType_new F.called_enumerate (by decide) (F.typeCall_enumerate_1 _) (F.newCall_enumerate_1 _) (fun obj => F.args_object_init_2 obj _) F.entry_enumerate_new (enum_new d o es ep) ⟨⟨notSys, there, ex, data⟩, ?_⟩
    generalize hit : ({ cls := .type "dict_keyiterator", data := .fields #[.ref d, .int 0 0, .int es.size 0, .int ep 0] } : Obj) = io
    have z1 : (s1.heap.push io).objs.size = s1.heap.objs.size + 1 := Heap.size_push ..
    show _ ∧ _
    rw [z1]
    generalize heo : ({ cls := .type "enumerate", data := .fields #[.none, .bool false, .ref s1.heap.objs.size, rawInt 0, .none, .none] } : Obj) = eo
    have isE : ((s1.heap.push io).push eo).get? (s1.heap.objs.size + 1) = some eo := by
      have := Heap.get?_push_size (s1.heap.push io) (o := eo) (by rw [← heo]; rfl)
      rwa [z1] at this
    have isE3 := isE.trans (congrArg some heo.symm)
    have isI : ((s1.heap.push io).push eo).get? s1.heap.objs.size = some io := Heap.get?_push_of_some _ (Heap.get?_push_size _ (by rw [← hit]; rfl))
    refine ⟨⟨eo, isE, by rw [← heo]⟩, wpAny_pyIter_enum (s := { s1 with heap := (s1.heap.push io).push eo }) (e := s1.heap.objs.size + 1) (it := s1.heap.objs.size) (i := 0) (old := .none) isE3 ?_⟩
    have I2 : Inv X pins σ H1 { s1 with heap := (s1.heap.push io).push eo } := I1.kept (t' := s1.toks) fun b ob q => Heap.get?_push_of_some _ (Heap.get?_push_of_some _ q)
    refine ⟨s1.heap.objs.size + 1, [s1.heap.objs.size + 1, s1.heap.objs.size], _, _, H1, rfl, I2, turn_enumK d (s1.heap.objs.size + 1) s1.heap.objs.size data, ⟨⟨.none, isE3⟩, ⟨io, isI, by rw [← hit], by rw [← hit, size]; rfl⟩, Nat.succ_ne_self _⟩, fun b hb => ?_, q⟩
    have le : s1.heap.objs.size ≤ b := by rcases (show b = s1.heap.objs.size + 1 ∨ b = s1.heap.objs.size by simpa using hb) with rfl | rfl <;> omega
    exact I1.fpOk le (I1.hok.fresh le)
/-- {k: i for i, k in enumerate(d)}: the places of the keys -/
def places (kvs : List (Key × V)) : List (Key × V) := (List.range kvs.length).map fun i => ((kvs.map (·.1)).getD i (Sum.inl 0), V.int (i : Nat))
theorem dcEK {K : PySem.W.Frag} {d : Addr} {o : Obj} {kvs : List (Key × V)} {j1 j2 : Nat} {σ : L2.St} {H1 : Hp} {D : Addr} {Qd : Hp → Prop} (lock : H1 d = some (.frz o (.dK kvs))) (nd : (kvs.map (·.1)).Nodup) (nD : H1 D = none) (hz : kvs.length < sizeLine)
    (hw : ∀ u v, wipe (((wipe σ [j1, j2]).set j1 (some u)).set j2 (some v)) [j1, j2] = wipe σ [j1, j2]) (h1 : ∀ u v, (((wipe σ [j1, j2]).set j1 (some u)).set j2 (some v))[j1]? = some (some u)) (h2 : ∀ u v, (((wipe σ [j1, j2]).set j1 (some u)).set j2 (some v))[j2]? = some (some v))
    (hd : ∀ H2, Same H1 H2 → H2 D = some (.dK (places kvs)) → Qd H2) :
    ∃ W : Nat → Nat → Hp → Prop, (∃ m, W 0 m (upd H1 D (.dK []))) ∧ ∀ i m H, W i m H →
      ((IteK d o kvs).stop i H ∧ Qd H) ∨ ((IteK d o kvs).go i H ∧ ∃ Nx : Hp → Prop, (∀ H', Nx H' → ∃ m', m' < m ∧ W (i + 1) m' H') ∧ ∀ x H', (IteK d o kvs).yld i H x H' → gTup K 2 (gCons (gName j1) (gCons (gName j2) gNil)) x (wipe σ [j1, j2]) H' fun σ2 H2 => wipe σ2 [j1, j2] = wipe σ [j1, j2] ∧ tYes σ2 H2 fun b H3 =>
        if b = true then tVar j2 σ2 H3 fun y H4 => tVar j1 σ2 H4 fun z H5 => ∃ kvs k, y = kV k ∧ H5 D = some (.dK kvs) ∧ kvs.length < sizeLine ∧ Nx (upd H5 D (.dK (putK kvs k z))) else Nx H3) := by
  let part : Nat → List (Key × V) := fun i => (List.range i).map fun i => ((kvs.map (·.1)).getD i (Sum.inl 0), V.int (i : Nat))
  have keys : ∀ i ≤ kvs.length, (part i).map (·.1) = (kvs.map (·.1)).take i := fun i hi => by
    refine List.ext_getElem (by simp [part]; omega) fun j a b => ?_
    simp only [part, List.map_map, List.getElem_map, List.getElem_range, Function.comp_apply, List.getElem_take]
    rw [List.getD_eq_getElem?_getD, List.getElem?_eq_getElem (by simp [part] at a; simp; omega)]
    simp
  refine ⟨fun i m H => m = kvs.length - i ∧ i ≤ kvs.length ∧ Same H1 H ∧ H D = some (.dK (part i)), ⟨_, rfl, Nat.zero_le _, Lc.same_upd nD, upd_same⟩, ?_⟩
  rintro i m H ⟨rfl, hi, s2, e2⟩
  rcases Nat.lt_or_eq_of_le hi with lt | rfl
  · refine .inr ⟨⟨s2 _ _ lock, lt⟩, fun H' => Same H1 H' ∧ H' D = some (.dK (part (i + 1))), fun H' p => ⟨kvs.length - (i + 1), by omega, rfl, lt, p⟩, fun x H' y => ?_⟩
    obtain ⟨t, k, v, rfl, nt, hk, rfl⟩ := y
    have s3 := Lc.same_upd (o := .tup [.int (i : Nat), kV k]) nt
    refine ⟨t, _, rfl, SqT.of upd_same, rfl, _, _, rfl, _, _, rfl, rfl, hw _ _, iteT (B := False) ?_⟩
    refine ⟨_, h2 _ _, _, h1 _ _, part i, k, rfl, s3 _ _ e2, ?_, Lc.same_put (s2.trans s3) nD, ?_⟩
    · simp [part]; omega
    · rw [upd_same]
      have fresh : k ∉ (part i).map (·.1) := fun z => by
        rw [keys i hi] at z
        obtain ⟨j, hj, e⟩ := List.mem_iff_getElem.mp z
        rw [List.getElem_take] at e
        simp at hj
        have hk2 : (kvs.map (·.1))[i]'(by simp; exact lt) = k := by
          have := (List.getElem?_eq_some_iff.mp hk).2
          simp [this]
        have := (List.getElem_inj nd).mp (e.trans hk2.symm)
        omega
      have e3 : part (i + 1) = part i ++ [(k, V.int (i : Nat))] := by
        show (List.range (i + 1)).map _ = _
        rw [List.range_succ, List.map_append]
        have : (kvs.map (·.1)).getD i (Sum.inl 0) = k := by
          rw [List.getD_eq_getElem?_getD, List.getElem?_map, hk]
          rfl
        show (List.range i).map _ ++ [((kvs.map (·.1)).getD i (Sum.inl 0), V.int (i : Nat))] = _
        rw [this]
      rw [e3, Lc.putK_app fresh]
  · exact .inl ⟨⟨s2 _ _ lock, rfl⟩, hd H s2 e2⟩
end Ek

set_option Elab.async false
set_option linter.all false
namespace Pm
variable {n : Nat} {S S' : List (List Nat)} {a b t u x : List Nat}
/-! ### what turns make -/
inductive Gen (n : Nat) (S : List (List Nat)) : List Nat → Prop
  | one : Gen n S (List.range n)
  | step {t s : List Nat} : Gen n S t → s ∈ S → Gen n S (joint t s)
theorem Gen.turn (hS : ∀ s ∈ S, Turn n s) (h : Gen n S t) : Turn n t := by
  induction h with
  | one => exact still_turn
  | step _ hs ih => exact turn_joint ih (hS _ hs)
theorem Gen.mul (hS : ∀ s ∈ S, Turn n s) (ha : Gen n S a) (hb : Gen n S b) : Gen n S (joint a b) := by
  induction hb with
  | one =>
    rw [joint_still (ha.turn hS)]
    exact ha
  | @step t s h1 hs ih =>
    rw [← joint_assoc (ha.turn hS) (h1.turn hS)]
    exact .step ih hs
theorem Gen.of (hS : ∀ s ∈ S, Turn n s) (h : t ∈ S) : Gen n S t := by
  have := Gen.step (Gen.one (n := n) (S := S)) h
  rw [still_joint (hS t h)] at this
  exact this
theorem Gen.trans (hS : ∀ s ∈ S, Turn n s) (h : ∀ s ∈ S', Gen n S s) (g : Gen n S' t) : Gen n S t := by
  induction g with
  | one => exact .one
  | step _ hs ih => exact ih.mul hS (h _ hs)
theorem Gen.mono (h : ∀ s ∈ S', s ∈ S) (g : Gen n S' t) : Gen n S t := by
  induction g with
  | one => exact .one
  | step _ hs ih => exact .step ih (h _ hs)
theorem Gen.pw (hS : ∀ s ∈ S, Turn n s) (h : Gen n S t) : ∀ k, Gen n S (Pm.pw t k)
  | 0 => h
  | k + 1 => (Gen.pw hS h k).mul hS h
theorem nodup_len {α : Type} [DecidableEq α] : ∀ {l U : List α}, l.Nodup → (∀ x ∈ l, x ∈ U) → l.length ≤ U.length
  | [], _, _, _ => Nat.zero_le _
  | a :: l, U, h, s => by
    obtain ⟨h1, h2⟩ := List.nodup_cons.mp h
    have ha := s a List.mem_cons_self
    have := nodup_len (U := U.erase a) h2 fun x hx => (List.mem_erase_of_ne fun e => h1 (by rw [← e]; exact hx)).mpr (s x (List.mem_cons_of_mem _ hx))
    rw [List.length_erase_of_mem ha] at this
    have hp : 0 < U.length := List.length_pos_of_mem ha
    rw [List.length_cons]
    omega
/-- bounded: at most these -/
def Few (n : Nat) (S : List (List Nat)) (U : List (List Nat)) : Prop := (∀ s ∈ S, Turn n s) ∧ ∀ x, Gen n S x → x ∈ U
theorem Few.trans {U : List (List Nat)} (f : Few n S U) (h : ∀ s ∈ S', Gen n S s) : Few n S' U := ⟨fun s hs => (h s hs).turn f.1, fun x g => f.2 x (g.trans f.1 h)⟩
theorem undone_pw {U : List (List Nat)} (h : Turn n t) (hU : ∀ k, pw t k ∈ U) : ∃ k, undone t = pw t k := by
  have hc : ∃ i j, i < j ∧ pw t i = pw t j := by
    refine Classical.byContradiction fun hn => ?_
    have hd : ((List.range (U.length + 1)).map (pw t)).Nodup := by
      unfold List.Nodup
      rw [List.pairwise_map]
      exact List.pairwise_lt_range.imp fun {a b} hab e => hn ⟨a, b, hab, e⟩
    have := nodup_len hd fun x hx => by
      obtain ⟨k, _, rfl⟩ := List.mem_map.mp hx
      exact hU k
    rw [List.length_map, List.length_range] at this
    omega
  obtain ⟨i, j, hij, e⟩ := hc
  have hk : ∀ p, p < n → it t (j - i) p = p := fun p hp => by
    have e1 : it t (i + 1) p = it t (i + 1) (it t (j - i) p) := by
      rw [← it_add, ← to_pw h hp, e, to_pw h hp, show i + 1 + (j - i) = j + 1 by omega]
    exact (it_inj h hp (it_lt h hp _) _ e1).symm
  refine ⟨(j - i) * 2 - 2, ?_⟩
  have ht := turn_pw h ((j - i) * 2 - 2)
  have e3 : joint t (pw t ((j - i) * 2 - 2)) = List.range n := turn_ext (turn_joint h ht) still_turn fun p hp => by
    rw [to_joint (by rw [h.len]; exact hp), to_pw h (h.lt hp), to_still hp]
    have : it t ((j - i) * 2 - 2 + 1 + 1) p = it t ((j - i) * 2 - 2 + 1) (it t 1 p) := it_add t 1 p _
    show it t ((j - i) * 2 - 2 + 1) (it t 1 p) = p
    rw [← this, show (j - i) * 2 - 2 + 1 + 1 = (j - i) * 2 by omega]
    exact it_mul (hk p hp) 2
  calc undone t = joint (undone t) (List.range n) := (joint_still (turn_undone h)).symm
    _ = joint (undone t) (joint t (pw t ((j - i) * 2 - 2))) := by rw [e3]
    _ = joint (joint (undone t) t) (pw t ((j - i) * 2 - 2)) := (joint_assoc (turn_undone h) h).symm
    _ = pw t ((j - i) * 2 - 2) := by rw [undone_joint h, still_joint ht]
theorem Gen.undone {U : List (List Nat)} (f : Few n S U) (h : Gen n S t) : Gen n S (undone t) := by
  obtain ⟨k, e⟩ := undone_pw (U := U) (h.turn f.1) fun k => f.2 _ (h.pw f.1 k)
  rw [e]
  exact h.pw f.1 k
/-- the turns undone make the same -/
theorem gen_undone {U : List (List Nat)} (f : Few n S U) : Gen n (S.map Pm.undone) x ↔ Gen n S x := by
  have h1 : ∀ s ∈ S.map Pm.undone, Gen n S s := fun s hs => by
    obtain ⟨t, ht, rfl⟩ := List.mem_map.mp hs
    exact (Gen.of f.1 ht).undone f
  have f2 := f.trans h1
  constructor
  · exact Gen.trans f.1 h1
  · refine Gen.trans f2.1 fun s hs => ?_
    have := (Gen.of f2.1 (List.mem_map_of_mem hs)).undone f2
    rw [undone_undone (f.1 s hs)] at this
    exact this
/-! ### the order of lists -/
def leI (a b : List Int) : Bool := decide (a ≤ b)
theorem leI_total (a b : List Int) : (leI a b || leI b a) = true := by
  unfold leI
  rcases List.le_total a b with h | h
  · rw [decide_eq_true h]; rfl
  · rw [decide_eq_true h, Bool.or_true]
theorem leI_trans (a b c : List Int) (h : leI a b = true) (k : leI b c = true) : leI a c = true := decide_eq_true (List.le_trans (of_decide_eq_true h) (of_decide_eq_true k))
theorem leI_anti (a b : List Int) (h : leI a b = true) (k : leI b a = true) : a = b := List.le_antisymm (of_decide_eq_true h) (of_decide_eq_true k)
def toI (t : List Nat) : List Int := t.map fun (p : Nat) => (p : Int)
theorem toI_inj : ∀ {t u : List Nat}, toI t = toI u → t = u
  | [], [], _ => rfl
  | [], _ :: _, h => nomatch h
  | _ :: _, [], h => nomatch h
  | a :: t, b :: u, h => by
    have h' : (a : Int) :: toI t = (b : Int) :: toI u := h
    injection h' with h1 h2
    rw [toI_inj h2, Int.ofNat_inj.mp h1]
def leN (a b : List Nat) : Bool := leI (toI a) (toI b)
theorem leN_total (a b : List Nat) : (leN a b || leN b a) = true := leI_total _ _
theorem leN_trans (a b c : List Nat) (h : leN a b = true) (k : leN b c = true) : leN a c = true := leI_trans _ _ _ h k
theorem leN_anti (a b : List Nat) (h : leN a b = true) (k : leN b a = true) : a = b := toI_inj (leI_anti _ _ h k)
/-- l is the ascending row of all that S makes -/
structure IsSpan (n : Nat) (S l : List (List Nat)) : Prop where
  up : l.Pairwise fun a b => leN a b = true
  nd : l.Nodup
  mem : ∀ x, x ∈ l ↔ Gen n S x
theorem perm_of {l m : List (List Nat)} (h1 : l.Nodup) (h2 : m.Nodup) (e : ∀ x, x ∈ l ↔ x ∈ m) : l.Perm m := by
  rw [List.perm_iff_count]
  intro a
  rw [h1.count, h2.count]
  by_cases ha : a ∈ l
  · rw [if_pos ha, if_pos ((e a).mp ha)]
  · rw [if_neg ha, if_neg fun z => ha ((e a).mpr z)]
theorem IsSpan.uniq {l m : List (List Nat)} (h : IsSpan n S l) (k : IsSpan n S' m) (e : ∀ x, Gen n S x ↔ Gen n S' x) : l = m :=
  (perm_of h.nd k.nd fun x => (h.mem x).trans ((e x).trans (k.mem x).symm)).eq_of_pairwise (fun a b _ _ => leN_anti a b) h.up k.up
theorem IsSpan.of_sort {l : List (List Nat)} (hn : l.Nodup) (hm : ∀ x, x ∈ l ↔ Gen n S x) : IsSpan n S (l.mergeSort leN) where
  up := List.pairwise_mergeSort leN_trans leN_total l
  nd := (List.mergeSort_perm l leN).nodup_iff.mpr hn
  mem := fun x => (List.mergeSort_perm l leN).mem_iff.trans (hm x)
/-! ### the number of a part divides that of the whole -/
theorem len_split {α : Type} (p : α → Bool) : ∀ l : List α, l.length = (l.filter p).length + (l.filter fun x => !p x).length
  | [] => rfl
  | a :: l => by
    have := len_split p l
    by_cases h : p a = true
    · rw [List.filter_cons_of_pos h, List.filter_cons_of_neg (by simp [h]), List.length_cons, List.length_cons]
      omega
    · rw [List.filter_cons_of_neg h, List.filter_cons_of_pos (by simp [h]), List.length_cons, List.length_cons]
      omega
theorem joint_inj (hx : Turn n x) (ha : Turn n a) (hb : Turn n b) (e : joint x a = joint x b) : a = b := by
  have h1 : joint (undone x) (joint x a) = a := by rw [← joint_assoc (turn_undone hx) hx, undone_joint hx, still_joint ha]
  have h2 : joint (undone x) (joint x b) = b := by rw [← joint_assoc (turn_undone hx) hx, undone_joint hx, still_joint hb]
  rw [← h1, e, h2]
theorem parts {H : List (List Nat)} (hn : H.Nodup) (hT : ∀ h ∈ H, Turn n h) (h1 : List.range n ∈ H) (hm : ∀ a ∈ H, ∀ b ∈ H, joint a b ∈ H) (hu : ∀ a ∈ H, undone a ∈ H) :
    ∀ (m : Nat) (L : List (List Nat)), L.length ≤ m → L.Nodup → (∀ x ∈ L, Turn n x) → (∀ x ∈ L, ∀ h ∈ H, joint x h ∈ L) → H.length ∣ L.length
  | _, [], _, _, _, _ => Nat.dvd_zero _
  | 0, _ :: _, hl, _, _, _ => absurd hl (Nat.not_succ_le_zero _)
  | m + 1, x :: L, hl, hL, hLT, hc => by
    have hx := hLT x List.mem_cons_self
    let C := H.map (joint x)
    have hC : C.Nodup := by
      show (H.map (joint x)).Nodup
      unfold List.Nodup
      rw [List.pairwise_map]
      exact (List.Pairwise.and_mem.mp hn).imp fun {a b} ⟨ha, hb, hab⟩ e => hab (joint_inj hx (hT a ha) (hT b hb) e)
    have hCL : ∀ y ∈ C, y ∈ x :: L := fun y hy => by
      obtain ⟨h, hh, rfl⟩ := List.mem_map.mp hy
      exact hc x List.mem_cons_self h hh
    have hxC : x ∈ C := List.mem_map.mpr ⟨_, h1, joint_still hx⟩
    let p : List Nat → Bool := fun y => decide (y ∈ C)
    have e1 : ((x :: L).filter p).length = H.length := by
      have : ((x :: L).filter p).Perm C := perm_of (hL.sublist List.filter_sublist) hC fun y => by
        rw [List.mem_filter]
        constructor
        · rintro ⟨_, h⟩
          exact of_decide_eq_true h
        · intro h
          exact ⟨hCL y h, decide_eq_true h⟩
      rw [this.length_eq]
      exact List.length_map ..
    have e2 := len_split p (x :: L)
    have hlt : ((x :: L).filter fun y => !p y).length ≤ m := by
      have : 0 < H.length := List.length_pos_of_mem h1
      omega
    have ih := parts hn hT h1 hm hu m ((x :: L).filter fun y => !p y) hlt (hL.sublist List.filter_sublist) (fun y hy => hLT y (List.mem_filter.mp hy).1) fun y hy h hh => by
      obtain ⟨y1, y2⟩ := List.mem_filter.mp hy
      have yC : ¬ y ∈ C := fun z => by
        have : p y = true := decide_eq_true z
        rw [this] at y2
        exact nomatch y2
      refine List.mem_filter.mpr ⟨hc y y1 h hh, ?_⟩
      have : ¬ joint y h ∈ C := fun z => by
        obtain ⟨g, hg, eg⟩ := List.mem_map.mp z
        refine yC (List.mem_map.mpr ⟨joint g (undone h), hm g hg _ (hu h hh), ?_⟩)
        have ty := hLT y y1
        rw [← joint_assoc hx (hT g hg), eg, joint_assoc ty (hT h hh), joint_undone (hT h hh), joint_still ty]
      show (!decide _) = true
      rw [decide_eq_false this]
      rfl
    rw [e2, e1]
    exact Nat.dvd_add (Nat.dvd_refl _) ih
theorem span_dvd {l m : List (List Nat)} {U : List (List Nat)} (f : Few n S U) (hl : IsSpan n S l) (hm : IsSpan n S' m) (h : ∀ s ∈ S', Gen n S s) : m.length ∣ l.length := by
  have f2 := f.trans h
  refine parts hm.nd (fun x hx => ((hm.mem x).mp hx).turn f2.1) ((hm.mem _).mpr .one) (fun a ha b hb => (hm.mem _).mpr (((hm.mem a).mp ha).mul f2.1 ((hm.mem b).mp hb)))
    (fun a ha => (hm.mem _).mpr (((hm.mem a).mp ha).undone f2)) l.length l (Nat.le_refl _) hl.nd (fun x hx => ((hl.mem x).mp hx).turn f.1) fun x hx y hy => (hl.mem _).mpr (((hl.mem x).mp hx).mul f.1 (((hm.mem y).mp hy).trans f.1 h))
/-! ### one turn alone -/
def p0 (n : Nat) (t : List Nat) : Nat → List Nat
  | 0 => List.range n
  | k + 1 => pw t k
theorem to_p0 (h : Turn n t) {p : Nat} (hp : p < n) : ∀ k, to (p0 n t k) p = it t k p
  | 0 => to_still hp
  | k + 1 => to_pw h hp k
theorem turn_p0 (h : Turn n t) : ∀ k, Turn n (p0 n t k)
  | 0 => still_turn
  | k + 1 => turn_pw h k
theorem p0_step (h : Turn n t) : ∀ k, joint (p0 n t k) t = p0 n t (k + 1)
  | 0 => still_joint h
  | k + 1 => rfl
theorem span_one {L : Nat} {l : List (List Nat)} (h : Turn n t) (hO : Ord n t L) (hl : IsSpan n [t] l) : l.length = L := by
  have hL := hO.1
  have hp : ((List.range L).map (p0 n t)).Nodup := by
    unfold List.Nodup
    rw [List.pairwise_map]
    refine (List.Pairwise.and_mem.mp List.pairwise_lt_range).imp fun {i j} ⟨hi, hj, hij⟩ e => ?_
    have hj' := List.mem_range.mp hj
    have hk : ∀ p, p < n → it t (j - i) p = p := fun p hp => by
      have e1 : it t i p = it t i (it t (j - i) p) := by
        rw [← it_add, ← to_p0 h hp, e, to_p0 h hp, show i + (j - i) = j by omega]
      exact (it_inj h hp (it_lt h hp _) _ e1).symm
    have := Nat.le_of_dvd (by omega) ((hO.2 _).mp hk)
    omega
  have hm : ∀ x, x ∈ l ↔ x ∈ (List.range L).map (p0 n t) := fun x => by
    rw [hl.mem]
    constructor
    · intro g
      induction g with
      | one => exact List.mem_map.mpr ⟨0, List.mem_range.mpr hL, rfl⟩
      | @step y s _ hs ih =>
        rw [List.mem_singleton.mp hs]
        obtain ⟨k, hk, rfl⟩ := List.mem_map.mp ih
        have hk' := List.mem_range.mp hk
        rw [p0_step h]
        by_cases e : k + 1 = L
        · refine List.mem_map.mpr ⟨0, List.mem_range.mpr hL, ?_⟩
          have : pw t k = List.range n := (pw_still h hO).mpr (by rw [e]; exact Nat.dvd_refl L)
          exact this.symm
        · exact List.mem_map.mpr ⟨k + 1, List.mem_range.mpr (by omega), rfl⟩
    · intro hx
      obtain ⟨k, _, rfl⟩ := List.mem_map.mp hx
      cases k with
      | zero => exact .one
      | succ k =>
        have hS : ∀ s ∈ [t], Turn n s := fun s hs => by rw [List.mem_singleton.mp hs]; exact h
        exact (Gen.of hS List.mem_cons_self).pw hS k
  rw [(perm_of hl.nd hp hm).length_eq, List.length_map, List.length_range]
/-! ### what is put to a span -/
def inse (f : List (List Nat)) (t : List Nat) : List (List Nat) := if t ∈ f then f else f ++ [t]
theorem inse_nd {f : List (List Nat)} (h : f.Nodup) : (inse f t).Nodup := by
  unfold inse
  split
  · exact h
  · rename_i hn
    unfold List.Nodup
    rw [List.pairwise_append]
    exact ⟨h, List.pairwise_singleton _ _, fun a ha b hb e => hn (by rw [← List.mem_singleton.mp hb, ← e]; exact ha)⟩
theorem inse_mem {f : List (List Nat)} : x ∈ inse f t ↔ x ∈ f ∨ x = t := by
  unfold inse
  split
  · rename_i h
    constructor
    · exact .inl
    · rintro (h' | rfl)
      · exact h'
      · exact h
  · rw [List.mem_append, List.mem_singleton]
/-- what holds while the leaders are gone through: B is what was there, L the leaders, f what is found -/
structure Led (n : Nat) (B K L f : List (List Nat)) : Prop where
  nd : f.Nodup
  ln : L.Nodup
  st : List.range n ∈ L
  mem : ∀ x, x ∈ f ↔ ∃ b ∈ B, ∃ l ∈ L, x = joint b l
  gen : ∀ l ∈ L, Gen n K l
theorem Led.first {B K : List (List Nat)} (hn : B.Nodup) (hT : ∀ b ∈ B, Turn n b) : Led n B K [List.range n] B where
  nd := hn
  ln := List.pairwise_singleton _ _
  st := List.mem_cons_self
  mem := fun x => by
    constructor
    · intro h
      exact ⟨x, h, _, List.mem_cons_self, (joint_still (hT x h)).symm⟩
    · rintro ⟨b, hb, l, hl, rfl⟩
      rw [List.mem_singleton.mp hl, joint_still (hT b hb)]
      exact hb
  gen := fun l hl => by rw [List.mem_singleton.mp hl]; exact .one
/-- a leader is found -/
theorem Led.sub {B K L f : List (List Nat)} (h : Led n B K L f) (hK : ∀ s ∈ K, Turn n s) (hB : List.range n ∈ B) {l : List Nat} (hl : l ∈ L) : l ∈ f :=
  (h.mem l).mpr ⟨_, hB, l, hl, (still_joint ((h.gen l hl).turn hK)).symm⟩
theorem Led.all {B K L f : List (List Nat)} (h : Led n B K L f) (hB : ∀ b ∈ B, Gen n K b) (hK : ∀ s ∈ K, Turn n s) : ∀ x ∈ f, Gen n K x := fun x hx => by
  obtain ⟨b, hb, l, hl, rfl⟩ := (h.mem x).mp hx
  exact (hB b hb).mul hK (h.gen l hl)
theorem Led.more {B K L f f2 : List (List Nat)} {l : List Nat} (h : Led n B K L f) (hl : Gen n K l) (hn : ¬ l ∈ L) (f2n : f2.Nodup) (e : ∀ x, x ∈ f2 ↔ x ∈ f ∨ ∃ b ∈ B, x = joint b l) : Led n B K (L ++ [l]) f2 where
  nd := f2n
  ln := by
    unfold List.Nodup
    rw [List.pairwise_append]
    exact ⟨h.ln, List.pairwise_singleton _ _, fun a ha b hb q => hn (by rw [← List.mem_singleton.mp hb, ← q]; exact ha)⟩
  st := List.mem_append_left _ h.st
  mem := fun x => by
    rw [e, h.mem]
    constructor
    · rintro (⟨b, hb, y, hy, rfl⟩ | ⟨b, hb, rfl⟩)
      · exact ⟨b, hb, y, List.mem_append_left _ hy, rfl⟩
      · exact ⟨b, hb, l, by simp, rfl⟩
    · rintro ⟨b, hb, y, hy, rfl⟩
      rcases List.mem_append.mp hy with hy | hy
      · exact .inl ⟨b, hb, y, hy, rfl⟩
      · rw [List.mem_singleton.mp hy]
        exact .inr ⟨b, hb, rfl⟩
  gen := fun y hy => by
    rcases List.mem_append.mp hy with hy | hy
    · exact h.gen y hy
    · rw [List.mem_singleton.mp hy]
      exact hl
/-- at the end all is there -/
theorem Led.done {B K0 K L f : List (List Nat)} (h : Led n B K L f) (hK : ∀ s ∈ K, Turn n s) (h0 : ∀ s ∈ K0, s ∈ K) (hB : ∀ x, x ∈ B ↔ Gen n K0 x) (hc : ∀ l ∈ L, ∀ s ∈ K, joint l s ∈ f) : ∀ x, x ∈ f ↔ Gen n K x := fun x => by
  have hK0 : ∀ s ∈ K0, Turn n s := fun s hs => hK s (h0 s hs)
  constructor
  · exact h.all (fun b hb => ((hB b).mp hb).mono h0) hK x
  · intro g
    induction g with
    | one => exact (h.mem _).mpr ⟨_, (hB _).mpr .one, _, h.st, (still_joint still_turn).symm⟩
    | @step y s _ hs ih =>
      obtain ⟨b, hb, l, hl, rfl⟩ := (h.mem y).mp ih
      have tl := (h.gen l hl).turn hK
      obtain ⟨b2, hb2, l2, hl2, e⟩ := (h.mem _).mp (hc l hl s hs)
      have tb := ((hB b).mp hb).turn hK0
      have tb2 := ((hB b2).mp hb2).turn hK0
      rw [joint_assoc tb tl, e, ← joint_assoc tb tb2]
      exact (h.mem _).mpr ⟨_, (hB _).mpr (((hB b).mp hb).mul hK0 ((hB b2).mp hb2)), l2, hl2, rfl⟩
/-! ### spans that are told by hand -/
def grow (S : List (List Nat)) (R : List (List Nat)) : List (List Nat) := R ++ R.flatMap fun x => S.map fun s => joint x s
def grown (n : Nat) (S : List (List Nat)) : Nat → List (List Nat)
  | 0 => [List.range n]
  | k + 1 => (grow S (grown n S k)).eraseDups
theorem mem_dups {l : List (List Nat)} : x ∈ l.eraseDups → x ∈ l := fun h => by
  simpa using h
theorem grown_gen (n : Nat) (S : List (List Nat)) : ∀ k, ∀ x ∈ grown n S k, Gen n S x
  | 0, x, h => by rw [List.mem_singleton.mp h]; exact .one
  | k + 1, x, h => by
    have ih := grown_gen n S k
    rcases List.mem_append.mp (mem_dups h) with h | h
    · exact ih x h
    · obtain ⟨y, hy, h⟩ := List.mem_flatMap.mp h
      obtain ⟨s, hs, rfl⟩ := List.mem_map.mp h
      exact .step (ih y hy) hs
def told (n : Nat) (S l : List (List Nat)) (k : Nat) : Bool :=
  decide (l.Pairwise fun a b => leN a b = true ∧ a ≠ b) && decide (List.range n ∈ l) && (l.all fun x => S.all fun s => decide (joint x s ∈ l)) && l.all fun x => decide (x ∈ grown n S k)
theorem told_span {l : List (List Nat)} {k : Nat} (h : told n S l k = true) : IsSpan n S l := by
  unfold told at h
  rw [Bool.and_eq_true, Bool.and_eq_true, Bool.and_eq_true] at h
  obtain ⟨⟨⟨h1, h2⟩, h3⟩, h4⟩ := h
  have h1 := of_decide_eq_true h1
  refine ⟨h1.imp fun h => h.1, h1.imp fun h => h.2, fun x => ⟨fun hx => ?_, fun g => ?_⟩⟩
  · exact grown_gen n S k x (of_decide_eq_true (List.all_eq_true.mp h4 x hx))
  · induction g with
    | one => exact of_decide_eq_true h2
    | step _ hs ih => exact of_decide_eq_true (List.all_eq_true.mp (List.all_eq_true.mp h3 _ ih) _ hs)
/-- bounded by a closed list -/
theorem few_of {U : List (List Nat)} (hS : ∀ s ∈ S, Turn n s) (h1 : List.range n ∈ U) (hc : ∀ x ∈ U, ∀ s ∈ S, joint x s ∈ U) : Few n S U := ⟨hS, fun x g => by
  induction g with
  | one => exact h1
  | step _ hs ih => exact hc _ ih _ hs⟩
end Pm

set_option Elab.async false
set_option linter.all false
set_option maxRecDepth 100000
set_option maxHeartbeats 4000000
/-! rules for dicts whose keys are tuples: {t: v}, sorted(d); rows of tuples: t in rows -/
namespace Sr
open PySem PySem.Spec PyProof.Rows L2
/-! ### {k: v}, k a tuple -/
def tDispT (tk tv : TE) : TE := fun σ H Q => ∀ p, H p = none → tk σ (upd H p (.dT [])) fun y H1 => tv σ H1 fun v H2 => H2 p = some (.dT []) ∧ ∃ (b : Addr) (k : List L2.Key), y = .ref b ∧ H2 b = some (.tup (k.map kV)) ∧ Q (.ref p) (upd H2 p (.dT [(k, v)]))
theorem pe_dispT {X : Cx} {pos : Pos} {k v : Expr} {tk tv : TE} (hu : X.A.units + 1 < cLine) (hk : PE X k tk) (hv : PE X v tv) : PE X (.Dict [some k] [v] pos) (tDispT tk tv) := by
  refine ⟨fun pins s σ H Q I q => ?_⟩
  have hn := I.hok.fresh (Nat.le_refl s.heap.objs.size)
  have I1 := I.laid (a := s.heap.objs.size) (o := .dT []) (h' := s.heap.push { cls := .type "dict", data := .dict #[] }) (t' := s.toks) (fun _ _ q => Heap.get?_push_of_some _ q) (Nat.le_refl _) (dt_empty s.heap I.big)
  have hpl : (pairTrees [some k] [v] X.env pos).length = 1 := rfl
  rw [arm_eval_Dict, zip_pairTrees [some k] [v] X.env pos rfl rfl, dictDisplay_pairs (pairTrees [some k] [v] X.env pos) (fun z => nomatch z) (by rw [hpl]; decide)]
  refine wpAny_bind (wpAny_standAt (wpAny_bind (wpAny_subDictH (knd := tupleKind (mixKind X.prog X.w)) (Q := fun d s' => wpAny (model X.prog X.w) X.A (pure (Value.ref d)) _ X.xe s') (show X.A.units < cLine from Nat.lt_of_succ_lt hu) (by rw [hpl]; decide) ?_)))
  refine pairTrees_cons_walk (thn (hk.run pins _ σ _ _ I1 (q _ hn)) fun u s1 ⟨x, H1, I2, rx, q1⟩ => thn (hv.run pins s1 σ H1 _ I2 q1) fun w2 s2 ⟨y, H2, I3, ry, q2⟩ => pairTrees_nil_walk ?_)
  obtain ⟨e, b, ks, rfl, eb, q3⟩ := q2
  cases rx
  obtain ⟨z, hd, xs, rel, dd⟩ := dt_of I3.hok e
  cases rel
  refine ⟨[(ks, b, w2)], ⟨rfl, rfl, key_of I3.hok eb, trivial⟩, dd, fun h' tk dd' hs => wpAny_pure ⟨.ref s.heap.objs.size, _, ?_, rfl, q3⟩⟩
  obtain ⟨o, es, ep, h1, h2, h3, h4, h5, h6⟩ := dd'
  have hb : b ≠ s.heap.objs.size := fun z => by
    rw [z, e] at eb
    exact nomatch eb
  refine d_write I3 (by rw [e]; exact True.intro) hs ⟨o, h1⟩ ⟨(by show 1 ≤ sizeLine; decide), hd, [(ks, b, w2)], .cons ⟨rfl, (by rw [upd_ne hb]; exact eb), ry⟩ .nil, o, es, ep, h1, h2, h3, h4, h6⟩
/-! ### tuples of tuples of numbers -/
abbrev nats (l : List Nat) : List V := l.map fun (p : Nat) => V.int (p : Int)
abbrev natsD (l : List Nat) : List PyData := l.map fun (p : Nat) => PyData.int (p : Int)
def tkey (l : List Nat) : List L2.Key := l.map fun (p : Nat) => (Sum.inl (p : Int) : L2.Key)
theorem kV_tkey (l : List Nat) : (tkey l).map kV = nats l := by
  unfold tkey
  rw [List.map_map]
  rfl
theorem tkey_inj {l m : List Nat} (h : tkey l = tkey m) : l = m := by
  have : (tkey l).map kV = (tkey m).map kV := by rw [h]
  rw [kV_tkey, kV_tkey] at this
  exact List.map_inj_right (fun a b e => by injection e with e; omega) |>.mp this
/-- a turn at an address -/
def Tup (H : Hp) (p : Addr) (t : List Nat) : Prop := H p = some (.tup (nats t))
/-- turns at addresses, one by one -/
abbrev Tups (H : Hp) (ps : List Addr) (ts : List (List Nat)) : Prop := PySem.W.EachIs (Tup H) ps ts
theorem Tups.mono {H H' : Hp} {ps : List Addr} {ts : List (List Nat)} (s : ∀ p t, Tup H p t → Tup H' p t) (h : Tups H ps ts) : Tups H' ps ts := PySem.W.EachIs.mono (fun p t e => s p t e) h
theorem tups_len {H : Hp} {ps : List Addr} {ts : List (List Nat)} (h : Tups H ps ts) : ps.length = ts.length := h.length
def entT (ts : List (List Nat)) : List (List L2.Key × V) := ts.map fun t => (tkey t, V.bl true)
theorem tups_of_keys {H : Hp} : ∀ {ts : List (List Nat)} {bs : List Addr}, IsKeys H (entT ts) bs → Tups H bs ts
  | [], _, h => by cases h; exact .nil
  | t :: ts, _, h => by
    cases h with
    | cons h1 h2 =>
      refine .cons ?_ (tups_of_keys h2)
      have : H _ = some (.tup ((tkey t).map kV)) := h1
      rw [kV_tkey] at this
      exact this
theorem ints_nats : ∀ {l : List Nat} {us : List Value}, Vals (nats l) us → PySem.W.EachIs (fun (v : Value) (p : Nat) => ∃ t, v = .int (p : Int) t) us l
  | [], _, r => by cases r; exact .nil
  | p :: l, _, r => by
    cases r with
    | cons h t =>
      obtain ⟨tk, rfl⟩ := h
      exact .cons ⟨tk, rfl⟩ (ints_nats t)
theorem reads_nats {h : Heap} : ∀ {l : List Nat} {us : List Value}, PySem.W.EachIs (fun (v : Value) (p : Nat) => ∃ t, v = .int (p : Int) t) us l → ReadsAll h us (natsD l) []
  | _, _, .nil => .nil
  | _, _, .cons ⟨tk, e⟩ r => by
    subst e
    exact .cons (.int _ _) (reads_nats (h := h) r)
abbrev tupD (t : List Nat) : PyData := .tuple (natsD t)
theorem depth_nats : ∀ l : List Nat, PyData.depthAll (natsD l) = 0
  | [] => rfl
  | p :: l => by
    show max 0 (PyData.depthAll (natsD l)) = 0
    rw [depth_nats l]
    rfl
theorem depth_tup (t : List Nat) : (tupD t).depth = 1 := by
  show PyData.depthAll (natsD t) + 1 = 1
  rw [depth_nats]
theorem alike_nats : ∀ l m : List Nat, PySem.W.alikeAll (natsD l) (natsD m) = true
  | [], m => by simp [PySem.W.alikeAll]
  | p :: l, [] => by simp [PySem.W.alikeAll]
  | p :: l, q :: m => by
    show (PySem.W.alike (.int (p : Int)) (.int (q : Int)) && PySem.W.alikeAll (natsD l) (natsD m)) = true
    rw [alike_nats l m]
    rfl
theorem le_fun : PySem.W.dataLe false tupD = Pm.leN := by
  have h := PySem.W.dataLe_rows Pm.toI
  funext a b
  have e := congrFun (congrFun h a) b
  have e2 : PySem.W.dataLe false tupD a b = PySem.W.dataLe false (fun b => .list ((Pm.toI b).map .int)) a b := by
    have q : ∀ t : List Nat, natsD t = (Pm.toI t).map PyData.int := fun t => by
      unfold Pm.toI
      rw [List.map_map]
      rfl
    show (!PySem.W.dataLt (.tuple (natsD b)) (.tuple (natsD a))) = (!PySem.W.dataLt (.list ((Pm.toI b).map PyData.int)) (.list ((Pm.toI a).map PyData.int)))
    rw [q, q]
    rfl
  rw [e2, e]
  rfl
section
variable {X : Cx} {pins : List (Addr × Obj)} {σ : L2.St} {H : Hp} {s : Shared}
theorem read_tup {p : Addr} {t : List Nat} (I : Inv X pins σ H s) (h : Tup H p t) : Reads s.heap (.ref p) (tupD t) [] := by
  obtain ⟨ts, rt, ht, _⟩ := I.tuple (SqT.of (K := X.K) h)
  obtain ⟨o, ho, hc, n, hd⟩ := ht
  exact .tuple ho hc hd (reads_nats (h := s.heap) (ints_nats rt))
theorem read_tups (I : Inv X pins σ H s) : ∀ {ps : List Addr} {ts : List (List Nat)}, Tups H ps ts → PySem.W.EachIs (fun v t => Reads s.heap v (tupD t) []) (ps.map Value.ref) ts
  | _, _, .nil => .nil
  | _, _, .cons h r => .cons (read_tup I h) (read_tups I r)
end
/-! ### t in rows -/
theorem refs_vals : ∀ {ps : List Addr} {us : List Value}, Vals (ps.map V.ref) us → us = ps.map Value.ref
  | [], _, r => by cases r; rfl
  | p :: ps, _, r => by
    cases r with
    | cons h t =>
      cases h
      rw [refs_vals t]
      rfl
theorem canLay : ∀ l : List Nat, PyData.canLayAll0 (natsD l) = true
  | [] => rfl
  | p :: l => by
    show (true && PyData.canLayAll0 (natsD l)) = true
    rw [canLay l]
    rfl
theorem eqvN : ∀ l m : List Nat, PyData.eqvAll (natsD l) (natsD m) = decide (l = m)
  | [], [] => rfl
  | [], _ :: _ => rfl
  | _ :: _, [] => rfl
  | p :: l, q :: m => by
    show (((p : Int) == (q : Int)) && PyData.eqvAll (natsD l) (natsD m)) = _
    rw [eqvN l m, Bool.eq_iff_iff]
    simp only [Bool.and_eq_true, beq_iff_eq, decide_eq_true_eq, List.cons.injEq]
    constructor
    · rintro ⟨h1, h2⟩
      exact ⟨by omega, h2⟩
    · rintro ⟨rfl, h2⟩
      exact ⟨rfl, h2⟩
def Rows (H : Hp) (p : Addr) (ts : List (List Nat)) : Prop := ∃ ps, H p = some (.tup (ps.map V.ref)) ∧ Tups H ps ts
def rInT (neg : Bool) : R2 := fun x y H Q => ∃ (b p : Addr) (t : List Nat) (ts : List (List Nat)), x = .ref b ∧ y = .ref p ∧ Tup H b t ∧ Rows H p ts ∧ Q (.bl (if neg = true then !decide (t ∈ ts) else decide (t ∈ ts))) H
open Classical in
theorem in_core {X : Cx} {pins : List (Addr × Obj)} {σ : L2.St} {H : Hp} {s : Shared} (hu : X.A.units + 64 < cLine) (I : Inv X pins σ H s) {b p : Addr} {t : List Nat} {ts : List (List Nat)} (hb : Tup H b t) (hp : Rows H p ts) :
    ∃ (its : Array Value) (e : Value → Bool), s.heap.IsTuple p its ∧ (∀ y, y ∈ its → SeqAt.EqAt X.A.in1 s y (.ref b) (e y)) ∧ its.any e = decide (t ∈ ts) := by
  obtain ⟨ps, e1, ht⟩ := hp
  obtain ⟨us, rv, pl, _⟩ := I.tuple (SqT.of (K := X.K) e1)
  have eu := refs_vals rv
  subst eu
  have rb := read_tup I hb
  have key : ∀ {ps : List Addr} {ts : List (List Nat)}, Tups H ps ts → ∀ q ∈ ps, ∃ u, Tup H q u ∧ u ∈ ts := by
    intro ps ts h
    induction h with
    | nil => intro q hq; exact nomatch hq
    | @cons a u ps ts h _ ih =>
      intro q hq
      rcases List.mem_cons.mp hq with rfl | hq
      · exact ⟨u, h, List.mem_cons_self⟩
      · obtain ⟨v, h1, h2⟩ := ih q hq
        exact ⟨v, h1, List.mem_cons_of_mem _ h2⟩
  have key2 : ∀ {ps : List Addr} {ts : List (List Nat)}, Tups H ps ts → ∀ u ∈ ts, ∃ q ∈ ps, Tup H q u := by
    intro ps ts h
    induction h with
    | nil => intro q hq; exact nomatch hq
    | @cons a u ps ts h _ ih =>
      intro q hq
      rcases List.mem_cons.mp hq with rfl | hq
      · exact ⟨a, List.mem_cons_self, h⟩
      · obtain ⟨v, h1, h2⟩ := ih q hq
        exact ⟨v, List.mem_cons_of_mem _ h1, h2⟩
  have inj : ∀ {q : Addr} {u v : List Nat}, Tup H q u → Tup H q v → u = v := fun {q u v} h1 h2 => by
    have h1' : H q = some (.tup (nats u)) := h1
    have h2' : H q = some (.tup (nats v)) := h2
    rw [h1'] at h2'
    injection h2' with h2'
    injection h2' with h2'
    exact (List.map_inj_right (fun a b e => by injection e with e; omega)).mp h2'
  let e : Value → Bool := fun y => decide (∃ q, y = .ref q ∧ Tup H q t)
  refine ⟨_, e, pl, fun y hy => ?_, ?_⟩
  · have hy : y ∈ ps.map Value.ref := by simpa using hy
    obtain ⟨q, hq, rfl⟩ := List.mem_map.mp hy
    obtain ⟨u, hu1, hu2⟩ := key ht q hq
    have rq := read_tup I hu1
    have q1 := PySem.SeqAt.eqAt_reads (tupD u) (tupD t) X.A.in1 s (.ref q) (.ref b) [] [] rq rb (canLay u) (canLay t) (by
      rw [depth_tup, depth_tup]
      show X.A.units + 1 + 1 < cLine
      omega)
    have q2 : PyData.eqv (tupD u) (tupD t) = e (.ref q) := by
      show PyData.eqvAll (natsD u) (natsD t) = decide (∃ q', Value.ref q = Value.ref q' ∧ Tup H q' t)
      rw [eqvN, Bool.eq_iff_iff, decide_eq_true_iff, decide_eq_true_iff]
      constructor
      · rintro rfl
        exact ⟨q, rfl, hu1⟩
      · rintro ⟨q', h1, h2⟩
        cases h1
        exact inj hu1 h2
    rw [q2] at q1
    exact q1
  · rw [Bool.eq_iff_iff, decide_eq_true_iff]
    have : (ps.map Value.ref).toArray.any e = (ps.map Value.ref).any e := by simp
    rw [this, List.any_eq_true]
    constructor
    · rintro ⟨y, hy, h⟩
      obtain ⟨q, hq, rfl⟩ := List.mem_map.mp hy
      obtain ⟨q', h1, h2⟩ := of_decide_eq_true h
      cases h1
      obtain ⟨u, hu1, hu2⟩ := key ht q hq
      rw [inj h2 hu1]
      exact hu2
    · intro h
      obtain ⟨q, hq, h2⟩ := key2 ht t h
      exact ⟨.ref q, List.mem_map_of_mem hq, decide_eq_true ⟨q, rfl, h2⟩⟩
theorem op_inT {X : Cx} (hu : X.A.units + 64 < cLine) : OpR X (compareOp .In) (rInT false) := by
  intro pins s σ H x y v u Q I rx ry h
  obtain ⟨b, p, t, ts, rfl, rfl, hb, hp, q⟩ := h
  cases rx
  cases ry
  obtain ⟨its, e, pl, he, ha⟩ := in_core hu I hb hp
  refine SeqAt.in_tupleAt e pl he ⟨.bl _, H, I, rfl, ?_⟩
  rw [ha]
  exact q
theorem op_notInT {X : Cx} (hu : X.A.units + 64 < cLine) : OpR X (compareOp .NotIn) (rInT true) := by
  intro pins s σ H x y v u Q I rx ry h
  obtain ⟨b, p, t, ts, rfl, rfl, hb, hp, q⟩ := h
  cases rx
  cases ry
  obtain ⟨its, e, pl, he, ha⟩ := in_core hu I hb hp
  refine SeqAt.notIn_tupleAt e pl he ⟨.bl _, H, I, rfl, ?_⟩
  rw [ha]
  exact q
/-! ### sorted(d) -/
section
variable {prog : Program} {w : World} {A : Around} {E : Value → Shared → Prop} {s : Shared}
theorem collect_dict {T : String} {r d : Addr} {n : Nat} {P : Nat → Value → Prop} {OK : Heap → Prop} {Q : List Value → Shared → Prop} (K : PySem.W.KdlSrc prog w T r d n P OK) (hh : A.handled = none) (hok : OK s.heap) (hn : n ≤ sizeLine)
    (hQ : ∀ h' tk (acc' : Array Value), (∀ b o, s.heap.get? b = some o → h'.get? b = some o) → s.heap.objs.size < h'.objs.size → ItemsOf P acc' n → Q acc'.toList { s with heap := h', toks := tk }) :
    wpAny (model prog w) A (collect (.ref r)) Q E s := by
  have hS : (s.heap.push (seqObj "list" #[] 0)).get? s.heap.objs.size = some { cls := .type "list", data := .seq #[] 0 } := Heap.get?_push_size _ rfl
  have hlt := K.there _ hok
  have aux : ∀ (R : Result → Shared → Prop), (∀ h' tk (acc' : Array Value) c', (∀ b o, s.heap.get? b = some o → h'.get? b = some o) → h'.get? s.heap.objs.size = some { cls := .type "list", dict := none, data := .seq acc' c', slots := #[] } → ItemsOf P acc' n →
      R (.ok (.ret (.ref s.heap.objs.size))) { s with heap := h', toks := tk }) → codeAny (model prog w) A (.builtin "list.__iadd__" ⟨[.ref s.heap.objs.size, .ref r], []⟩) R { s with heap := s.heap.push (seqObj "list" #[] 0) } := fun R hR => by
    refine codeAny_builtin entry_list_iadd' ?_
    show wpAny _ A.in1 (Builtin.List.listExtendWith (.ref s.heap.objs.size) (.ref r) (.ref s.heap.objs.size)) _ _ { s with heap := s.heap.push (seqObj "list" #[] 0) }
    exact PySem.W.kdl_extend (A := A) (R := R) (s := { s with heap := s.heap.push (seqObj "list" #[] 0) }) K hh (K.keep _ _ hok fun b _ o e => Heap.get?_push_of_some _ e) _ (Nat.ne_of_gt hlt.1) (Nat.ne_of_gt hlt.2) _ 0 hS
      (fun h' tk acc' c' hk hS' hacc => hR h' tk acc' c' (fun b o e => hk b o (Nat.ne_of_lt (Heap.lt_size e)) (Heap.get?_push_of_some _ e)) hS' hacc) hn
  unfold collect
  refine wpAny_bind (wpAny_runValue (codeAny_builtin entry_proto_collect' ?_))
  show wpAny _ _ (do again (.builtin "list.__iadd__" ⟨[← newList [], .ref r], []⟩)) _ _ s
  refine wpAny_bind (wpAny_newList (wpAny_pure ⟨Code.quiet_builtin _ (by decide +kernel), aux _ fun h' tk acc' c' hk hS' hacc => ?_⟩))
  show wpAny (model prog w) A (do
      let o ← load s.heap.objs.size
      match o.data with
      | .seq xs _ => pure xs.toList
      | _ => unsupported "internal:collect") Q E { s with heap := h', toks := tk }
  refine wpAny_bind (wpAny_load hS' ?_)
  exact wpAny_pure (hQ h' tk acc' hk (Heap.lt_size hS') hacc)
theorem sorted_dict {T : String} {r d : Addr} {n : Nat} {P : Nat → Value → Prop} {OK : Heap → Prop} {ts : List (List Nat)} {Rr : Value → List Nat → Prop} {Q : Value → Shared → Prop} (K : PySem.W.KdlSrc prog w T r d n P OK) (hh : A.handled = none) (hok : OK s.heap) (hn : n ≤ 5000) (hu : A.units + 64 < cLine)
    (hP : ∀ acc' : Array Value, ItemsOf P acc' n → PySem.W.EachIs Rr acc'.toList ts ∧ PySem.W.EachIs (fun v t => Reads s.heap v (tupD t) []) acc'.toList ts) (ht : ∀ t ∈ ts, t ≠ [])
    (h : ∀ h' tk out c a, (∀ b o, s.heap.get? b = some o → h'.get? b = some o) → s.heap.objs.size ≤ a → h'.get? a = some { cls := .type "list", dict := none, data := .seq (List.toArray out) c, slots := #[] } → out.length = ts.length → PySem.W.EachIs Rr out (ts.mergeSort Pm.leN) → Q (.ref a) { s with heap := h', toks := tk }) :
    wpAny (model prog w) A (call (.builtin "sorted") [.ref r]) Q E s := by
  refine Calls.call_function_entry kind_sorted plain_sorted entry_sorted (args_sorted1 _) ?_
  unfold Builtin.«sorted»
  refine wpAny_bind (m := checkCount "sorted" 1 1 _) (wpAny_pure ?_)
  refine wpAny_bind (collect_dict K hh hok (Nat.le_trans hn (by decide)) fun h' tk acc' hk hlt hacc => ?_)
  obtain ⟨e1, e2⟩ := hP acc' hacc
  have hl : acc'.toList.length ≤ sizeLine := by rw [Array.length_toList, hacc.1]; exact Nat.le_trans hn (by decide)
  have htl : ts.length = n := by rw [← e1.length, Array.length_toList]; exact hacc.1
  refine wpAny_bind (wpAny_newList (hsz := by simpa using hl) ?_)
  have hoL : (h'.push (seqObj "list" acc'.toList.toArray 0)).get? h'.objs.size = some (seqObj "list" acc'.toList.toArray 0) := Heap.get?_push_size _ rfl
  have hsz : s.heap.objs.size ≤ h'.objs.size := Nat.le_of_lt hlt
  have er : PySem.W.EachIs (fun v t => ∃ as, Reads (h'.push (seqObj "list" acc'.toList.toArray 0)) v (tupD t) as ∧ h'.objs.size ∉ as) acc'.toList ts := e2.mono fun v t q => ⟨[], PyProof.Rows.Reads.keeps (fun b o e => Heap.get?_push_of_some _ (hk b o e)) q, fun z => nomatch z⟩
  refine wpAny_bind (wpAny_holding (PySem.W.list_sort_data (A := _) (s := { s with heap := h'.push (seqObj "list" acc'.toList.toArray 0), toks := tk }) hoL e1 er
    (fun d hd d' hd' => ?_) (.inl fun d hd => ?_) ?_ (fun t _ => ?_) fun out hlen eo => ?_))
  · obtain ⟨a, _, rfl⟩ := List.mem_map.mp hd
    obtain ⟨b, _, rfl⟩ := List.mem_map.mp hd'
    exact alike_nats a b
  · obtain ⟨a, ha, rfl⟩ := List.mem_map.mp hd
    cases a with
    | nil => exact absurd rfl (ht _ ha)
    | cons p l => exact ⟨_, _, rfl⟩
  · rw [htl]
    exact Nat.le_trans hn (by decide)
  · rw [depth_tup]
    show A.units + 1 + 1 + 1 < cLine
    omega
  · rw [le_fun] at eo
    obtain ⟨c, hc⟩ := sortedHeap_at (out := out.toArray) hoL
    exact wpAny_pure ⟨_, rfl, h _ _ out c _ (fun b o e => by
      rw [sortedHeap_old (Nat.ne_of_lt (Heap.lt_size (hk b o e))) (by rw [Heap.size_push]; exact Nat.lt_succ_of_lt (Heap.lt_size (hk b o e)))]
      exact Heap.get?_push_of_some _ (hk b o e)) hsz hc hlen eo⟩
end
theorem keys_tups {H : Hp} : ∀ {ts : List (List Nat)} {xs : List (List L2.Key × Addr × Value)}, KT H (entT ts) xs → Tups H (xs.map fun x => x.2.1) ts
  | [], _, h => by cases h; exact .nil
  | t :: ts, _, h => by
    cases h with
    | cons h1 h2 =>
      refine .cons ?_ (keys_tups h2)
      have := h1.2.1
      rw [kV_tkey] at this
      exact this
theorem refs_each {H : Hp} : ∀ {out : List Value} {ts : List (List Nat)}, PySem.W.EachIs (fun v t => ∃ p, v = Value.ref p ∧ Tup H p t) out ts → ∃ ps : List Addr, out = ps.map Value.ref ∧ Tups H ps ts
  | _, _, .nil => ⟨[], rfl, .nil⟩
  | _, _, .cons ⟨p, e, h⟩ r => by
    obtain ⟨ps, e2, h2⟩ := refs_each r
    exact ⟨p :: ps, by rw [e, e2]; rfl, .cons h h2⟩
theorem each_refs {H : Hp} : ∀ {ps : List Addr} {ts : List (List Nat)}, Tups H ps ts → PySem.W.EachIs (fun v t => ∃ p, v = Value.ref p ∧ Tup H p t) (ps.map Value.ref) ts
  | _, _, .nil => .nil
  | _, _, .cons h r => .cons ⟨_, rfl, h⟩ (each_refs r)
def rSortD : List V → Hp → VK → Prop := fun vs H Q => ∃ (d : Addr) (ts : List (List Nat)), vs = [V.ref d] ∧ H d = some (.dT (entT ts)) ∧ ts.length ≤ 5000 ∧ (∀ t ∈ ts, t ≠ []) ∧
  ∀ p ps, H p = none → Tups H ps (ts.mergeSort Pm.leN) → Q (.ref p) (upd H p (.lst (ps.map V.ref)))
theorem cr_sortedD {X : Cx} (hc : X.calm = true) (hu : X.A.units + 64 < cLine) : CallR X (.builtin "sorted") rSortD := by
  intro pins s σ H vs us Q I r h
  obtain ⟨d, ts, rfl, hd, hl, hne, q⟩ := h
  obtain ⟨u, rfl, rx⟩ := r.one
  cases rx
  obtain ⟨z, hs, ks, pr, o, es, ep, ho, hx, hdt, he, hn⟩ := (show ObjOk X.prog X.w H s.heap d (.dT (entT ts)) from I.hok d _ hd)
  have l1 : es.size = ks.length := size_of_entries he
  have l2 : (entT ts).length = ks.length := Paired.length pr
  have l3 : (entT ts).length = ts.length := List.length_map ..
  have kt := keys_tups pr
  refine sorted_dict (ts := ts) (Rr := fun v t => ∃ p, v = Value.ref p ∧ Tup H p t) (kdl_raw hs hx hdt) (I.ok.hd hc) ho (by omega) hu (fun acc' it => ?_) hne fun h' tk out c a kp hle e hlen eo => ?_
  · have ea : acc'.toList = ks.map fun x => Value.ref x.2.1 := by
      have hl : acc'.toList.length = ks.length := by rw [Array.length_toList, it.1]; exact l1
      apply List.ext_getElem?
      intro j
      rw [List.getElem?_map]
      cases hj : acc'.toList[j]? with
      | none =>
        have h1 := List.getElem?_eq_none_iff.mp hj
        rw [List.getElem?_eq_none (by omega)]
        all_goals rfl
      | some v =>
        obtain ⟨en, hen, hv⟩ := it.2 j v (by rw [← Array.getElem?_toList]; exact hj)
        have qe := entry_at he j
        rw [hen] at qe
        cases hb : ks[j]? with
        | none =>
          rw [hb] at qe
          exact nomatch (show some en = none from qe)
        | some b =>
          rw [hb] at qe
          have e2 : en = entryOfKey (tupleKind (mixKind X.prog X.w)) b := Option.some.inj qe
          rw [hv, e2]
          all_goals rfl
    have eb : acc'.toList = (ks.map fun x => x.2.1).map Value.ref := by rw [ea, List.map_map]; all_goals rfl
    rw [eb]
    exact ⟨each_refs kt, read_tups I kt⟩
  · obtain ⟨ps, rfl, ht⟩ := refs_each eo
    refine ⟨.ref a, _, I.laid (t' := tk) (o := .lst (ps.map V.ref)) kp hle ?_, rfl, q _ _ (I.hok.fresh hle) ht⟩
    refine ⟨?_, ps.map Value.ref, c, vals_refs ps, e⟩
    rw [List.length_map]
    rw [List.length_map] at hlen
    rw [hlen]
    exact Nat.le_trans hl (by decide)
end Sr

set_option Elab.async false
set_option linter.all false
set_option maxRecDepth 100000
set_option maxHeartbeats 3200000
/-! comprehensions that give new tuples -/
namespace Lc
open PySem L2 Tx Tg Tm RZ
/-- tuples stay -/
def KT (H H' : Hp) : Prop := ∀ q xs, H q = some (.tup xs) → H' q = some (.tup xs)
theorem each_app {α β : Type} {R : α → β → Prop} : ∀ {as as' : List α} {bs bs' : List β}, PySem.W.EachIs R as bs → PySem.W.EachIs R as' bs' → PySem.W.EachIs R (as ++ as') (bs ++ bs')
  | _, _, _, _, .nil, k => k
  | _, _, _, _, .cons r t, k => .cons r (each_app t k)
section
variable {α : Type} {R : Hp → Addr → α → Prop} (hR : ∀ H H' p x, KT H H' → R H p x → R H' p x) {K : PySem.W.Frag} {te : TE} {σ : L2.St} {H1 : Hp} {D : Addr} {Qd : Hp → Prop} {j : Nat} {xs : List V} {ys : List α} {a b : Addr}
include hR
theorem lcTR (ha : SqT K H1 a xs) (nD : H1 D = none) (hl : xs.length = ys.length) (hz : xs.length < sizeLine) (hw : ∀ v, wipe ((wipe σ [j]).set j (some v)) [j] = wipe σ [j])
    (hs : ∀ (i : Nat) (x : V) (y : α) (H2 : Hp), xs[i]? = some x → ys[i]? = some y → Same H1 H2 → ∀ Q : VK, (∀ b H3, Same H2 H3 → R H3 b y → Q (.ref b) H3) → te ((wipe σ [j]).set j (some x)) H2 Q) (hd : ∀ H2 ps, Same H1 H2 → H2 D = some (.lst (ps.map V.ref)) → PySem.W.EachIs (R H2) ps ys → Qd H2) :
    ∃ W : Nat → Nat → Hp → Prop, (∃ m, W 0 m (upd H1 D (.lst []))) ∧ ∀ i m H, W i m H →
      ((Itt K a).stop i H ∧ Qd H) ∨ ((Itt K a).go i H ∧ ∃ Nx : Hp → Prop, (∀ H', Nx H' → ∃ m', m' < m ∧ W (i + 1) m' H') ∧ ∀ x H', (Itt K a).yld i H x H' → gName j x (wipe σ [j]) H' fun σ2 H2 => wipe σ2 [j] = wipe σ [j] ∧ tYes σ2 H2 fun b H3 =>
        if b = true then te σ2 H3 fun y H4 => ∃ acc, H4 D = some (.lst acc) ∧ acc.length < sizeLine ∧ Nx (upd H4 D (.lst (acc ++ [y]))) else Nx H3) := by
  refine lc_tup (xs := xs) (fun i H2 => ∃ ps : List Addr, Same H1 H2 ∧ H2 D = some (.lst (ps.map V.ref)) ∧ PySem.W.EachIs (R H2) ps (ys.take i)) ⟨[], same_upd nD, upd_same, .nil⟩ (fun i H2 _ z => by obtain ⟨_, s, _⟩ := z; exact sqT_same s ha) ?_ ?_
  · rintro i x H2 hx ⟨ps, s2, e2, r2⟩
    have hi := (List.getElem?_eq_some_iff.mp hx).1
    have hy := List.getElem?_eq_getElem (l := ys) (i := i) (by omega)
    refine ⟨hw _, iteT (B := False) ?_⟩
    refine hs i x _ H2 hx hy s2 _ fun b H3 s3 hb => ⟨_, s3 _ _ e2, ?_, ps ++ [b], same_put (s2.trans s3) nD, ?_, ?_⟩
    · rw [List.length_map, r2.length, List.length_take]
      exact Nat.lt_of_le_of_lt (Nat.min_le_left _ _) (by omega)
    · rw [upd_same, List.map_append]
      rfl
    · have k : KT H2 (upd H3 D (.lst (ps.map V.ref ++ [V.ref b]))) := fun q xs e => by
        rw [upd_ne (fun z => by rw [z, e2] at e; cases e)]
        exact s3 _ _ e
      have k3 : KT H3 (upd H3 D (.lst (ps.map V.ref ++ [V.ref b]))) := fun q xs e => by
        rw [upd_ne (fun z => by rw [z, s3 _ _ e2] at e; cases e)]
        exact e
      rw [List.take_add_one, hy]
      exact each_app (PySem.W.EachIs.mono (fun _ _ h => hR _ _ _ _ k h) r2) (.cons (hR _ _ _ _ k3 hb) .nil)
  · rintro H2 ⟨ps, s2, e2, r2⟩
    rw [hl, List.take_of_length_le (Nat.le_refl _)] at r2
    exact hd H2 ps s2 e2 r2
theorem lcRR {n : Nat} {lo : Int} (nD : H1 D = none) (hl : n = ys.length) (hz : n < sizeLine) (hw : ∀ v, wipe ((wipe σ [j]).set j (some v)) [j] = wipe σ [j])
    (hs : ∀ (i : Nat) (y : α) (H2 : Hp), i < n → ys[i]? = some y → Same H1 H2 → ∀ Q : VK, (∀ b H3, Same H2 H3 → R H3 b y → Q (.ref b) H3) → te ((wipe σ [j]).set j (some (.int (lo + i)))) H2 Q) (hd : ∀ H2 ps, Same H1 H2 → H2 D = some (.lst (ps.map V.ref)) → PySem.W.EachIs (R H2) ps ys → Qd H2) :
    ∃ W : Nat → Nat → Hp → Prop, (∃ m, W 0 m (upd H1 D (.lst []))) ∧ ∀ i m H, W i m H →
      ((Itr lo n).stop i H ∧ Qd H) ∨ ((Itr lo n).go i H ∧ ∃ Nx : Hp → Prop, (∀ H', Nx H' → ∃ m', m' < m ∧ W (i + 1) m' H') ∧ ∀ x H', (Itr lo n).yld i H x H' → gName j x (wipe σ [j]) H' fun σ2 H2 => wipe σ2 [j] = wipe σ [j] ∧ tYes σ2 H2 fun b H3 =>
        if b = true then te σ2 H3 fun y H4 => ∃ acc, H4 D = some (.lst acc) ∧ acc.length < sizeLine ∧ Nx (upd H4 D (.lst (acc ++ [y]))) else Nx H3) := by
  refine lc_range (fun i H2 => ∃ ps : List Addr, Same H1 H2 ∧ H2 D = some (.lst (ps.map V.ref)) ∧ PySem.W.EachIs (R H2) ps (ys.take i)) ⟨[], same_upd nD, upd_same, .nil⟩ ?_ ?_
  · rintro i H2 hi ⟨ps, s2, e2, r2⟩
    have hy := List.getElem?_eq_getElem (l := ys) (i := i) (by omega)
    refine ⟨hw _, iteT (B := False) ?_⟩
    refine hs i _ H2 hi hy s2 _ fun b H3 s3 hb => ⟨_, s3 _ _ e2, ?_, ps ++ [b], same_put (s2.trans s3) nD, ?_, ?_⟩
    · rw [List.length_map, r2.length, List.length_take]
      exact Nat.lt_of_le_of_lt (Nat.min_le_left _ _) (by omega)
    · rw [upd_same, List.map_append]
      rfl
    · have k : KT H2 (upd H3 D (.lst (ps.map V.ref ++ [V.ref b]))) := fun q xs e => by
        rw [upd_ne (fun z => by rw [z, e2] at e; cases e)]
        exact s3 _ _ e
      have k3 : KT H3 (upd H3 D (.lst (ps.map V.ref ++ [V.ref b]))) := fun q xs e => by
        rw [upd_ne (fun z => by rw [z, s3 _ _ e2] at e; cases e)]
        exact e
      rw [List.take_add_one, hy]
      exact each_app (PySem.W.EachIs.mono (fun _ _ h => hR _ _ _ _ k h) r2) (.cons (hR _ _ _ _ k3 hb) .nil)
  · rintro H2 ⟨ps, s2, e2, r2⟩
    rw [hl, List.take_of_length_le (Nat.le_refl _)] at r2
    exact hd H2 ps s2 e2 r2
end
section
variable {K : PySem.W.Frag} {te : TE} {σ : L2.St} {H1 : Hp} {D : Addr} {Qd : Hp → Prop} {j : Nat} {xs ys : List V} {a b : Addr}
/-- [f(x) for x in l], a value for each item -/
theorem lcLS (ha : SqL K H1 a xs) (hsl : ∀ H2, Same H1 H2 → SqL K H2 a xs) (nD : H1 D = none) (hl : xs.length = ys.length) (hz : xs.length < sizeLine) (hw : ∀ v, wipe ((wipe σ [j]).set j (some v)) [j] = wipe σ [j])
    (hs : ∀ (i : Nat) (x y : V) (H2 : Hp), xs[i]? = some x → ys[i]? = some y → Same H1 H2 → ∀ Q : VK, (∀ H3, Same H2 H3 → Q y H3) → te ((wipe σ [j]).set j (some x)) H2 Q) (hd : ∀ H2, Same H1 H2 → H2 D = some (.lst ys) → Qd H2) :
    ∃ W : Nat → Nat → Hp → Prop, (∃ m, W 0 m (upd H1 D (.lst []))) ∧ ∀ i m H, W i m H →
      ((Itl K a).stop i H ∧ Qd H) ∨ ((Itl K a).go i H ∧ ∃ Nx : Hp → Prop, (∀ H', Nx H' → ∃ m', m' < m ∧ W (i + 1) m' H') ∧ ∀ x H', (Itl K a).yld i H x H' → gName j x (wipe σ [j]) H' fun σ2 H2 => wipe σ2 [j] = wipe σ [j] ∧ tYes σ2 H2 fun b H3 =>
        if b = true then te σ2 H3 fun y H4 => ∃ acc, H4 D = some (.lst acc) ∧ acc.length < sizeLine ∧ Nx (upd H4 D (.lst (acc ++ [y]))) else Nx H3) := by
  refine lc_list (xs := xs) (fun i H2 => Same H1 H2 ∧ H2 D = some (.lst (ys.take i))) ⟨same_upd nD, upd_same⟩ (fun i H2 _ z => hsl _ z.1) ?_ ?_
  · rintro i x H2 hx ⟨s2, e2⟩
    have hi := (List.getElem?_eq_some_iff.mp hx).1
    have hy := List.getElem?_eq_getElem (l := ys) (i := i) (by omega)
    refine ⟨hw _, iteT (B := False) ?_⟩
    refine hs i x _ H2 hx hy s2 _ fun H3 s3 => ⟨_, s3 _ _ e2, ?_, same_put (s2.trans s3) nD, ?_⟩
    · rw [List.length_take]
      exact Nat.lt_of_le_of_lt (Nat.min_le_left _ _) (Nat.lt_trans hi hz)
    · rw [upd_same, List.take_add_one, hy]
      rfl
  · rintro H2 ⟨s2, e2⟩
    rw [hl, List.take_of_length_le (Nat.le_refl _)] at e2
    exact hd H2 s2 e2
end
end Lc

set_option Elab.async false
set_option linter.all false
set_option maxRecDepth 100000
set_option maxHeartbeats 3200000
/-! comprehensions over a list of pairs -/
namespace Lc
open PySem L2 Tx Tg Tm RZ
/-- a list of pairs -/
structure PrsAt (H : Hp) (a : Addr) (ps : List Addr) (us : List (V × V)) : Prop where
  lst : H a = some (.lst (ps.map V.ref))
  prs : PySem.W.EachIs (fun p u => H p = some (.tup [u.1, u.2])) ps us
theorem PrsAt.same {H H' : Hp} {a : Addr} {ps : List Addr} {us : List (V × V)} (s : Same H H') (h : PrsAt H a ps us) : PrsAt H' a ps us := ⟨s _ _ h.lst, PySem.W.EachIs.mono (fun _ _ e => s _ _ e) h.prs⟩
theorem each_atP {α β : Type} {R : α → β → Prop} : ∀ {ps : List α} {as : List β}, PySem.W.EachIs R ps as → ∀ {i : Nat} {x : α} {y : β}, ps[i]? = some x → as[i]? = some y → R x y
  | _, _, .nil, i, _, _, h, _ => by simp at h
  | _, _, .cons r t, 0, _, _, h, k => by cases h; cases k; exact r
  | _, _, .cons r t, i + 1, _, _, h, k => each_atP t h k
section
variable {K : PySem.W.Frag} {te : TE} {σ : L2.St} {H1 : Hp} {D : Addr} {Qd : Hp → Prop} {j1 j2 : Nat} {a : Addr} {ps : List Addr} {us : List (V × V)}
theorem lcPR {α : Type} {R : Hp → Addr → α → Prop} (hR : ∀ H H' p x, KT H H' → R H p x → R H' p x) {ys : List α} (ha : PrsAt H1 a ps us) (nD : H1 D = none) (hl : us.length = ys.length) (hz : us.length < sizeLine) (hw : ∀ u v, wipe (((wipe σ [j1, j2]).set j1 (some u)).set j2 (some v)) [j1, j2] = wipe σ [j1, j2])
    (hs : ∀ (i : Nat) (u : V × V) (y : α) (H2 : Hp), us[i]? = some u → ys[i]? = some y → Same H1 H2 → ∀ Q : VK, (∀ b H3, Same H2 H3 → R H3 b y → Q (.ref b) H3) → te (((wipe σ [j1, j2]).set j1 (some u.1)).set j2 (some u.2)) H2 Q) (hd : ∀ H2 qs, Same H1 H2 → H2 D = some (.lst (qs.map V.ref)) → PySem.W.EachIs (R H2) qs ys → Qd H2) :
    ∃ W : Nat → Nat → Hp → Prop, (∃ m, W 0 m (upd H1 D (.lst []))) ∧ ∀ i m H, W i m H →
      ((Itl K a).stop i H ∧ Qd H) ∨ ((Itl K a).go i H ∧ ∃ Nx : Hp → Prop, (∀ H', Nx H' → ∃ m', m' < m ∧ W (i + 1) m' H') ∧ ∀ x H', (Itl K a).yld i H x H' → gTup K 2 (gCons (gName j1) (gCons (gName j2) gNil)) x (wipe σ [j1, j2]) H' fun σ2 H2 => wipe σ2 [j1, j2] = wipe σ [j1, j2] ∧ tYes σ2 H2 fun b H3 =>
        if b = true then te σ2 H3 fun y H4 => ∃ acc, H4 D = some (.lst acc) ∧ acc.length < sizeLine ∧ Nx (upd H4 D (.lst (acc ++ [y]))) else Nx H3) := by
  have lp := ha.prs.length
  refine lc_list (xs := ps.map V.ref) (fun i H2 => ∃ qs : List Addr, Same H1 H2 ∧ H2 D = some (.lst (qs.map V.ref)) ∧ PySem.W.EachIs (R H2) qs (ys.take i)) ⟨[], same_upd nD, upd_same, .nil⟩ (fun i H2 _ z => by obtain ⟨_, s, _⟩ := z; exact SqL.of (s _ _ ha.lst)) ?_ ?_
  · rintro i x H2 hx ⟨qs, s2, e2, r2⟩
    have hi := (List.getElem?_eq_some_iff.mp hx).1
    rw [List.length_map] at hi
    rw [List.getElem?_map, List.getElem?_eq_getElem hi] at hx
    cases hx
    have hu := List.getElem?_eq_getElem (l := us) (i := i) (by omega)
    have hy := List.getElem?_eq_getElem (l := ys) (i := i) (by omega)
    have ep := s2 _ _ (each_atP ha.prs (List.getElem?_eq_getElem hi) hu)
    refine ⟨ps[i], _, rfl, SqT.of ep, rfl, _, _, rfl, _, _, rfl, rfl, hw _ _, iteT (B := False) ?_⟩
    refine hs i _ _ H2 hu hy s2 _ fun b H3 s3 hb => ⟨_, s3 _ _ e2, ?_, qs ++ [b], same_put (s2.trans s3) nD, ?_, ?_⟩
    · rw [List.length_map, r2.length, List.length_take]
      exact Nat.lt_of_le_of_lt (Nat.min_le_left _ _) (by omega)
    · rw [upd_same, List.map_append]
      rfl
    · have k : KT H2 (upd H3 D (.lst (qs.map V.ref ++ [V.ref b]))) := fun q xs e => by
        rw [upd_ne (fun z => by rw [z, e2] at e; cases e)]
        exact s3 _ _ e
      have k3 : KT H3 (upd H3 D (.lst (qs.map V.ref ++ [V.ref b]))) := fun q xs e => by
        rw [upd_ne (fun z => by rw [z, s3 _ _ e2] at e; cases e)]
        exact e
      rw [List.take_add_one, hy]
      exact each_app (PySem.W.EachIs.mono (fun _ _ h => hR _ _ _ _ k h) r2) (.cons (hR _ _ _ _ k3 hb) .nil)
  · rintro H2 ⟨qs, s2, e2, r2⟩
    rw [List.take_of_length_le (by rw [List.length_map]; omega)] at r2
    exact hd H2 qs s2 e2 r2
theorem lcPS {ys : List V} (ha : PrsAt H1 a ps us) (nD : H1 D = none) (hl : us.length = ys.length) (hz : us.length < sizeLine) (hw : ∀ u v, wipe (((wipe σ [j1, j2]).set j1 (some u)).set j2 (some v)) [j1, j2] = wipe σ [j1, j2])
    (hs : ∀ (i : Nat) (u : V × V) (y : V) (H2 : Hp), us[i]? = some u → ys[i]? = some y → Same H1 H2 → ∀ Q : VK, (∀ H3, Same H2 H3 → Q y H3) → te (((wipe σ [j1, j2]).set j1 (some u.1)).set j2 (some u.2)) H2 Q) (hd : ∀ H2, Same H1 H2 → H2 D = some (.lst ys) → Qd H2) :
    ∃ W : Nat → Nat → Hp → Prop, (∃ m, W 0 m (upd H1 D (.lst []))) ∧ ∀ i m H, W i m H →
      ((Itl K a).stop i H ∧ Qd H) ∨ ((Itl K a).go i H ∧ ∃ Nx : Hp → Prop, (∀ H', Nx H' → ∃ m', m' < m ∧ W (i + 1) m' H') ∧ ∀ x H', (Itl K a).yld i H x H' → gTup K 2 (gCons (gName j1) (gCons (gName j2) gNil)) x (wipe σ [j1, j2]) H' fun σ2 H2 => wipe σ2 [j1, j2] = wipe σ [j1, j2] ∧ tYes σ2 H2 fun b H3 =>
        if b = true then te σ2 H3 fun y H4 => ∃ acc, H4 D = some (.lst acc) ∧ acc.length < sizeLine ∧ Nx (upd H4 D (.lst (acc ++ [y]))) else Nx H3) := by
  have lp := ha.prs.length
  refine lc_list (xs := ps.map V.ref) (fun i H2 => Same H1 H2 ∧ H2 D = some (.lst (ys.take i))) ⟨same_upd nD, upd_same⟩ (fun i H2 _ z => SqL.of (z.1 _ _ ha.lst)) ?_ ?_
  · rintro i x H2 hx ⟨s2, e2⟩
    have hi := (List.getElem?_eq_some_iff.mp hx).1
    rw [List.length_map] at hi
    rw [List.getElem?_map, List.getElem?_eq_getElem hi] at hx
    cases hx
    have hu := List.getElem?_eq_getElem (l := us) (i := i) (by omega)
    have hy := List.getElem?_eq_getElem (l := ys) (i := i) (by omega)
    have ep := s2 _ _ (each_atP ha.prs (List.getElem?_eq_getElem hi) hu)
    refine ⟨ps[i], _, rfl, SqT.of ep, rfl, _, _, rfl, _, _, rfl, rfl, hw _ _, iteT (B := False) ?_⟩
    refine hs i _ _ H2 hu hy s2 _ fun H3 s3 => ⟨_, s3 _ _ e2, ?_, same_put (s2.trans s3) nD, ?_⟩
    · rw [List.length_take]
      omega
    · rw [List.take_add_one, hy]
      exact upd_same
  · rintro H2 ⟨s2, e2⟩
    rw [List.take_of_length_le (by rw [List.length_map]; omega)] at e2
    exact hd H2 s2 e2
end
end Lc

set_option Elab.async false
set_option linter.all false
set_option maxRecDepth 100000
set_option maxHeartbeats 4000000
/-! {k: v for ..} whose keys are tuples -/
namespace Ek
open PySem PySem.Spec PyProof.Rows L2 Tx Tg Tm
/-- the heap behind D[y] = z, D a dict with tuples as keys -/
def PutT (H : Hp) (D : Addr) (y z : V) (H' : Hp) : Prop := ∃ kvs k b, y = .ref b ∧ H D = some (.dT kvs) ∧ H b = some (.tup (k.map kV)) ∧ kvs.length < sizeLine ∧ H' = upd H D (.dT (putK kvs k z))
def tDcT (wi : TI) (g : TG) (tt : TT) (tk tv : TE) (vs : List Nat) : TE := fun σ H Q => wi σ H fun J H1 => ∀ D, H1 D = none → ∃ W : Nat → Nat → Hp → Prop, (∃ m, W 0 m (upd H1 D (.dT []))) ∧ ∀ i m H2, W i m H2 →
  (J.stop i H2 ∧ Q (.ref D) H2) ∨ (J.go i H2 ∧ ∃ B : Hp → Prop, (∀ H', B H' → ∃ m', m' < m ∧ W (i + 1) m' H') ∧ ∀ x H3, J.yld i H2 x H3 → g x (wipe σ vs) H3 fun σ4 H4 => wipe σ4 vs = wipe σ vs ∧ tt σ4 H4 fun b H5 =>
    if b = true then tk σ4 H5 fun y H6 => tv σ4 H6 fun z H7 => ∃ H8, PutT H7 D y z H8 ∧ B H8 else B H5)
section
variable {X : Cx}
theorem putT_set {pins : List (Addr × Obj)} {σ : L2.St} {H H' : Hp} {z : Shared} {E : Value → Shared → Prop} {D : Addr} {y v : V} {u r : Value} {Q : Unit → Shared → Prop} (hu : X.A.units + 1 < cLine) (I : Inv X pins σ H z) (p : PutT H D y v H')
    (ry : RelV y u) (rv : RelV v r) (h : ∀ z', Inv X pins σ H' z' → Q () z') : wpAny (model X.prog X.w) X.A (dictSet D u r) Q E z := by
  obtain ⟨kvs, k, b, rfl, hD, hb, few, rfl⟩ := p
  obtain rfl : u = Value.ref b := ry
  obtain ⟨short, notSys, xs, rel, isD⟩ := dt_of I.hok hD
  have len : (putK kvs k v).length ≤ sizeLine := Nat.le_trans (length_putK kvs k v) few
  refine wpAny_dictSet_heap (hsz := by rw [← Paired.length rel]; exact short) (show X.A.units < cLine from Nat.lt_of_succ_lt hu) (key_of I.hok hb) isD fun h' isD' same => h _ ?_
  obtain ⟨q, es, ep, there, d2, d3, d4, _, d5⟩ := isD'
  refine d_write I (by rw [hD]; exact True.intro) same ⟨q, there⟩ ⟨len, notSys, _, (rel.put k hb rv).keeps fun c ys ec => ?_, q, es, ep, there, d2, d3, d4, d5⟩
  rw [upd_ne (ne_of ec hD fun z => nomatch z)]
  exact ec
theorem pe_dcT {kx vx tg iter : Expr} {ifs : List Expr} {scope : Scope} {own : List (Str × Nat)} {pos : Pos} {wi : TI} {g : TG} {tt : TT} {tk tv : TE} (calm : X.calm = true) (hu : X.A.units + 1 < cLine) (nd : X.N.Nodup) (over : PI X tg iter wi) (ok : BlkOk X.N X.env.scope scope own)
    (pg : ∀ (s : Shared) (H : Hp) (C : Addr) (cl : List (Str × Addr)) (fp : List Addr), PG (X.blk s H scope (compEnvC scope cl C X.env) fp) tg g) (pt : ∀ (s : Shared) (H : Hp) (C : Addr) (cl : List (Str × Addr)) (fp : List Addr), PTs (X.blk s H scope (compEnvC scope cl C X.env) fp) ifs tt)
    (pk : ∀ (s : Shared) (H : Hp) (C : Addr) (cl : List (Str × Addr)) (fp : List Addr), PE (X.blk s H scope (compEnvC scope cl C X.env) fp) kx tk) (pv : ∀ (s : Shared) (H : Hp) (C : Addr) (cl : List (Str × Addr)) (fp : List Addr), PE (X.blk s H scope (compEnvC scope cl C X.env) fp) vx tv)
    (plain : ∀ x, foldedSetIterable iter X.env x = pure x := by intro _; rfl) : PE X (.DictComp kx vx [⟨tg, iter, ifs, 0⟩] scope pos) (tDcT wi g tt tk tv (own.map (·.2))) := by
  refine ⟨fun pins z σ H Q I h => ?_⟩
  have caught : ∀ y ∈ scope.names, y.2 = .free → ∃ c, X.env.cells.lookup y.1 = some c := fun y hy e => I.ok.has _ ((ok.free y hy e).imp id id)
  rw [arm_eval_DictComp]
  refine wpAny_comprehension_free rfl plain (closure_ok caught) ok.kind (fun y hy e => by rw [ok.uniq y hy, e]) (thn (over.run pins z σ H _ I h) fun xv z1 first => thn first fun itv z2 began => ?_)
  obtain ⟨it, fp, tn, J, H2, rfl, I2, T, st2, apart, q⟩ := began
  refine wpAny_newObj_type (newEnv_comp ?_)
  generalize hD : z2.heap.objs.size = D
  have freshD : H2 D = none := I2.hok.fresh (Nat.le_of_eq hD)
  obtain ⟨W, ⟨m0, w0⟩, turn⟩ := q D freshD
  -- the new dict
  generalize h3 : ({ z2 with heap := z2.heap.push { cls := .type "dict", data := .dict #[] } } : Shared) = z3
  have e3 : z3.heap = z2.heap.push { cls := .type "dict", data := .dict #[] } := by rw [← h3]
  have I3 : Inv X pins σ (upd H2 D (.dT [])) z3 := by
    rw [← h3, ← hD]
    exact I2.laid (t' := z2.toks) (fun b o e => Heap.get?_push_of_some _ e) (Nat.le_refl _) (dt_empty z2.heap I2.big)
  have old : ∀ b ∈ fp, b < z2.heap.objs.size := fun b hb => let ⟨o, e, _⟩ := T.obj _ _ st2 b hb; Heap.lt_size e
  have apart3 : ∀ b ∈ fp, FpOk X pins (upd H2 D (.dT [])) b ∧ b < z3.heap.objs.size := fun b hb =>
    ⟨⟨by rw [upd_ne (by rw [← hD]; exact Nat.ne_of_lt (old b hb))]; exact (apart b hb).1, (apart b hb).2⟩, by rw [e3, Heap.size_push]; exact Nat.lt_succ_of_lt (old b hb)⟩
  have st3 : tn 0 z3.heap := T.keep _ _ _ st2 fun b _ o e => by rw [e3]; exact Heap.get?_push_of_some _ e
  generalize hC : z3.heap.objs.size = C
  generalize hcl : cellsFrom (C + 1) scope.names (cloFrom X.env.cells scope.names []) = cl
  have I4 := block_start I3 ok nd apart3
  rw [hC, hcl] at I4
  generalize hH3 : upd H2 D (.dT []) = H3 at I3 I4 w0 apart3
  have G := pg z3 H3 C cl fp
  have Te := pt z3 H3 C cl fp
  have Ke := pk z3 H3 C cl fp
  have Ve := pv z3 H3 C cl fp
  rw [e3] at hC
  subst hC
  rw [← e3] at hcl I4 G Te Ke Ve ⊢
  subst hcl
  generalize hC : z3.heap.objs.size = C at I4 G Te Ke Ve ⊢
  show codeAny _ _ (.compStart (.DictComp kx vx [⟨tg, iter, ifs, 0⟩] scope pos) 0 (.ref it) (.ref D) (compEnvC scope (cellsFrom (C + 1) scope.names (cloFrom X.env.cells scope.names [])) C X.env)) (compPost (model X.prog X.w) X.A X.xe none (EP X pins σ Q) (.ref D) C) _
  generalize hce : compEnvC scope (cellsFrom (C + 1) scope.names (cloFrom X.env.cells scope.names [])) C X.env = ce at I4 G Te Ke Ve ⊢
  have loc : ce.locals = C := by rw [← hce]; rfl
  generalize h4 : ({ heap := pushCells (z3.heap.push { cls := .type "dict", data := .dict #[] }) scope.names, gens := z3.gens, drawn := z3.drawn, toks := z3.toks, os := z3.os } : Shared) = z4 at I4 ⊢
  have st4 : tn 0 z4.heap := T.keep _ _ _ st3 fun b _ o e => by rw [← h4]; exact pushCells_keeps _ _ _ _ (Heap.get?_push_of_some _ e)
  -- what the block leaves alone
  have calmFp : ∀ {σ' : L2.St} {H' : Hp} {z' : Shared}, Inv (X.blk z3 H3 scope ce fp) [] σ' H' z' → (∀ b ∈ fp, H' b = none) → ∀ b ∈ fp, FpOk (X.blk z3 H3 scope ce fp) [] H' b := fun J n b hb =>
    ⟨n b hb, (J.ok.exf b hb).1, J.ok.exfs b hb, .inl hb, fun x c e => (J.ok.exf b hb).2 x c e, fun p hp => absurd (show p ∈ ([] : List (Addr × Obj)) ++ [] from hp) (by simp)⟩
  let Rnd : Nat → Shared → Prop := fun n z' => ∃ i H', Inv (X.blk z3 H3 scope ce fp) [] (wipe σ (own.map (·.2))) H' z' ∧ tn i z'.heap ∧ (∀ b ∈ fp, H' b = none) ∧ W i n H'
  have loop : codeAny (model X.prog X.w) X.A (.compLoop (.DictComp kx vx [⟨tg, iter, ifs, 0⟩] scope pos) 0 (.ref it) (.ref D) ce) (compPost (model X.prog X.w) X.A X.xe none (EP X pins σ Q) (.ref D) C) z4 := by
    refine compLoop_anyD Rnd ?_ m0 ⟨0, H3, I4, st4, fun b hb => (apart3 b hb).1.1, w0⟩
    rintro n z5 ⟨i, H5, I5, st5, n5, w5⟩
    rcases turn i n H5 w5 with ⟨stop, end_⟩ | ⟨go, B, less, step⟩
    · refine thnF (T.done (X.blk z3 H3 scope ce fp) rfl rfl rfl calm i [] z5 _ H5 (fun _ _ => False) I5 (calmFp I5 n5) st5 stop) fun r z6 ⟨none_, I6⟩ => ?_
      subst none_
      have back : Inv X pins σ H5 z6 := I3.call' (ch := fp) I6.os I6.base I6.hok I6.bare fun b hb => let f := (apart3 b hb).1.2; ⟨f.2.2.1, f.1, f.2.2.2.1, f.2.2.2.2⟩
      have offC : H5 C = none := by
        have e : H5 ce.locals = none := I6.free
        rwa [loc] at e
      obtain ⟨m, ns, _⟩ := I6.loc
      have ns : z6.heap.Ns ce.locals m := ns
      rw [loc] at ns
      obtain ⟨f0, f1, f2, f3, f4, f5⟩ : FpOk X pins H5 C := I3.fpOk (Nat.le_of_eq hC) offC
      exact ⟨m, ns, fun h'' same => ⟨.ref D, H5, back.turned (t' := z6.toks) (fun b o hb e => (same.2 b hb).trans e) f0 f1 f3 f4 f5, rfl, end_⟩⟩
    · refine thnF (T.item (X.blk z3 H3 scope ce fp) rfl rfl rfl calm i [] z5 _ H5 (fun _ _ => False) I5 (calmFp I5 n5) st5 go) fun r z6 ⟨u, some_, yld⟩ => ?_
      subst some_
      refine thnF yld fun _ z7 ⟨x, H7, I7, r7, y7, st7, n7⟩ => ?_
      refine thnF (G.run _ z7 _ H7 x u _ (I7.pinned (calmFp I7 n7) (T.obj _ _ st7)) r7 (step x H7 y7)) fun _ z8 ⟨σ8, H8, I8, wiped, q8⟩ => thnF (Te.run _ z8 σ8 H8 _ I8 q8) fun b z9 ⟨H9, I9, q9⟩ => ?_
      -- the turn is over
      have over_ : ∀ {z' : Shared} {H' : Hp}, Inv (X.blk z3 H3 scope ce fp) ([] ++ pinsAt fp z7.heap) σ8 H' z' → B H' → ∃ m, m < n ∧ Rnd m z' := fun {z' H'} J hB => by
        obtain ⟨m', lt, w'⟩ := less H' hB
        have pinned : ∀ c ∈ fp, ∀ o, z7.heap.get? c = some o → z'.heap.get? c = some o ∧ H' c = none := fun c hc o e => by
          have := J.pin (c, o) (List.mem_append_right _ (List.mem_append_right _ (mem_pinsAt hc e)))
          exact ⟨this.1, this.2.1⟩
        refine ⟨m', lt, i + 1, H', (J.unpinned (pins := [])).weak (by rw [← wiped, wipe_length]) (fun j v e => ?_), T.keep _ _ _ st7 fun c hc o e => (pinned c hc o e).1, fun c hc => ?_, w'⟩
        · rw [← wiped] at e
          exact (wipe_some e).1
        · obtain ⟨o, e, _⟩ := T.obj _ _ st7 c hc
          exact (pinned c hc o e).2
      cases b with
      | false =>
        simp only [Bool.false_eq_true, if_false] at q9 ⊢
        exact over_ I9 q9
      | true =>
        simp only [if_true] at q9 ⊢
        refine thnF (Ke.run _ z9 σ8 H9 _ I9 q9) fun ku za ⟨ky, Ha, Ia, rk, qa⟩ => thnF (Ve.run _ za σ8 Ha _ Ia qa) fun vu zb ⟨vy, Hb, Ib, rv, Hc, put, hB⟩ => ?_
        exact putT_set (X := X.blk z3 H3 scope ce fp) hu Ib put rk rv fun zc Ic => over_ Ic hB
  exact codeAny_compStart_dict loop (T.self X.A 0 _ _ _ st4 loop)
end
theorem val_off {κ : Type} [DecidableEq κ] {k : κ} : ∀ {kvs : List (κ × V)}, k ∉ kvs.map (·.1) → valV kvs k = none
  | [], _ => rfl
  | (j, v) :: r, h => by
    rw [List.map_cons, List.mem_cons, not_or] at h
    rw [valV_neg (fun e => h.1 e.symm)]
    exact val_off h.2
theorem val_in {κ : Type} [DecidableEq κ] {k : κ} {v : V} : ∀ {kvs : List (κ × V)}, (kvs.map (·.1)).Nodup → (k, v) ∈ kvs → valV kvs k = some v
  | (j, u) :: r, nd, h => by
    rw [List.map_cons, List.nodup_cons] at nd
    rcases List.mem_cons.mp h with e | h
    · cases e
      exact valV_pos rfl
    · rw [valV_neg fun e => nd.1 (List.mem_map.mpr ⟨_, h, e.symm⟩)]
      exact val_in nd.2 h
/-- {t: i for i, t in enumerate(a list of unlike tuples of numbers)} -/
def placesT (ts : List (List Nat)) : List (List Key × V) := (List.range ts.length).map fun i => (Sr.tkey (ts.getD i []), V.int (i : Nat))
theorem dcLT {K : PySem.W.Frag} {a : Addr} {ps : List Addr} {ts : List (List Nat)} {j1 j2 : Nat} {σ : L2.St} {H1 : Hp} {D : Addr} {Qd : Hp → Prop} (ha : SqL K H1 a (ps.map V.ref)) (each : Sr.Tups H1 ps ts) (nd : ts.Nodup) (nD : H1 D = none) (hz : ts.length < sizeLine)
    (hw : ∀ u v, wipe (((wipe σ [j1, j2]).set j1 (some u)).set j2 (some v)) [j1, j2] = wipe σ [j1, j2]) (h1 : ∀ u v, (((wipe σ [j1, j2]).set j1 (some u)).set j2 (some v))[j1]? = some (some u)) (h2 : ∀ u v, (((wipe σ [j1, j2]).set j1 (some u)).set j2 (some v))[j2]? = some (some v))
    (hd : ∀ H2, Same H1 H2 → H2 D = some (.dT (placesT ts)) → Qd H2) :
    ∃ W : Nat → Nat → Hp → Prop, (∃ m, W 0 m (upd H1 D (.dT []))) ∧ ∀ i m H, W i m H →
      ((Ite K a).stop i H ∧ Qd H) ∨ ((Ite K a).go i H ∧ ∃ B : Hp → Prop, (∀ H', B H' → ∃ m', m' < m ∧ W (i + 1) m' H') ∧ ∀ x H3, (Ite K a).yld i H x H3 → gTup K 2 (gCons (gName j1) (gCons (gName j2) gNil)) x (wipe σ [j1, j2]) H3 fun σ4 H4 => wipe σ4 [j1, j2] = wipe σ [j1, j2] ∧ tYes σ4 H4 fun b H5 =>
        if b = true then tVar j2 σ4 H5 fun y H6 => tVar j1 σ4 H6 fun z H7 => ∃ H8, PutT H7 D y z H8 ∧ B H8 else B H5) := by
  let part : Nat → List (List Key × V) := fun i => (List.range i).map fun i => (Sr.tkey (ts.getD i []), V.int (i : Nat))
  have lp : ps.length = ts.length := Sr.tups_len each
  refine ⟨fun i m H => m = ts.length - i ∧ i ≤ ts.length ∧ Same H1 H ∧ H D = some (.dT (part i)), ⟨_, rfl, Nat.zero_le _, Lc.same_upd nD, upd_same⟩, ?_⟩
  rintro i m H ⟨rfl, hi, s2, e2⟩
  have q : SqL K H a (ps.map V.ref) := s2.seq ha
  rcases Nat.lt_or_eq_of_le hi with lt | rfl
  · have hx : (ps.map V.ref)[i]? = some (V.ref (ps[i]'(by omega))) := by rw [List.getElem?_map, List.getElem?_eq_getElem (by omega)]; rfl
    refine .inr ⟨⟨_, _, q, hx⟩, fun H' => Same H1 H' ∧ H' D = some (.dT (part (i + 1))), fun H' p => ⟨ts.length - (i + 1), by omega, rfl, lt, p⟩, fun x H' y => ?_⟩
    obtain ⟨t, x, rfl, nt, rfl, hx2⟩ := y
    have ev := hx2 _ q
    rw [hx] at ev
    cases ev
    have s3 := Lc.same_upd (o := .tup [.int (i : Nat), V.ref (ps[i]'(by omega))]) nt
    have row : Sr.Tup H1 (ps[i]'(by omega)) ts[i] := Lc.each_atP each (List.getElem?_eq_getElem (by omega)) (List.getElem?_eq_getElem lt)
    have eg : ts.getD i [] = ts[i] := by rw [List.getD_eq_getElem?_getD, List.getElem?_eq_getElem lt]; rfl
    refine ⟨t, _, rfl, SqT.of upd_same, rfl, _, _, rfl, _, _, rfl, rfl, hw _ _, iteT (B := False) ?_⟩
    refine ⟨_, h2 _ _, _, h1 _ _, _, ⟨part i, Sr.tkey ts[i], _, rfl, s3 _ _ e2, ?_, ?_, rfl⟩, Lc.same_put (s2.trans s3) nD, ?_⟩
    · rw [Sr.kV_tkey]
      exact (s2.trans s3) _ _ row
    · simp [part]; omega
    · have fresh : Sr.tkey ts[i] ∉ (part i).map (·.1) := fun z => by
        simp only [part, List.map_map] at z
        obtain ⟨j, hj, e⟩ := List.mem_map.mp z
        have hj := List.mem_range.mp hj
        have e := Sr.tkey_inj e
        rw [List.getD_eq_getElem?_getD, List.getElem?_eq_getElem (by omega : j < ts.length)] at e
        have := (List.getElem_inj nd).mp (show ts[j] = ts[i] from e)
        omega
      have e3 : part (i + 1) = part i ++ [(Sr.tkey ts[i], V.int (i : Nat))] := by
        show (List.range (i + 1)).map _ = _
        rw [List.range_succ, List.map_append]
        show (List.range i).map _ ++ [(Sr.tkey (ts.getD i []), V.int (i : Nat))] = _
        rw [eg]
      rw [upd_same, e3, L2.putK_new _ (val_off fresh)]
  · exact .inl ⟨⟨_, q, by rw [List.length_map, lp]; exact Nat.le_refl _⟩, hd H s2 e2⟩
theorem placesT_keys (ts : List (List Nat)) : (placesT ts).map (·.1) = ts.map Sr.tkey := by
  refine List.ext_getElem (by simp [placesT]) fun j a b => ?_
  simp [placesT] at a
  simp [placesT, a]
/-- what such a dict tells of a tuple -/
theorem placesT_get {ts : List (List Nat)} (nd : ts.Nodup) {t : List Nat} (h : t ∈ ts) : valV (placesT ts) (Sr.tkey t) = some (.int (ts.idxOf t : Nat)) := by
  have lt := List.idxOf_lt_length_of_mem h
  refine val_in ?_ (List.mem_map.mpr ⟨ts.idxOf t, List.mem_range.mpr lt, ?_⟩)
  · rw [placesT_keys]
    exact List.Pairwise.map Sr.tkey (fun a b ne e => ne (Sr.tkey_inj e)) nd
  · rw [List.getD_eq_getElem?_getD, List.getElem?_eq_getElem lt, Option.getD_some, List.getElem_idxOf]
theorem places_keys (kvs : List (Key × V)) : (places kvs).map (·.1) = kvs.map (·.1) := by
  refine List.ext_getElem (by simp [places]) fun j a b => ?_
  simp [places] at a
  simp [places, a]
theorem places_get {kvs : List (Key × V)} {ns : List Nat} (e : kvs.map (·.1) = ns.map fun (n : Nat) => (Sum.inl (n : Int) : Key)) (nd : ns.Nodup) {n : Nat} (h : n ∈ ns) : valV (places kvs) (Sum.inl (n : Int) : Key) = some (.int (ns.idxOf n : Nat)) := by
  have lt := List.idxOf_lt_length_of_mem h
  have len : kvs.length = ns.length := by
    have := congrArg List.length e
    simpa using this
  have inj : ∀ a b : Nat, (Sum.inl (a : Int) : Key) = Sum.inl (b : Int) → a = b := fun a b z => by
    have : (a : Int) = b := by injection z
    omega
  refine val_in (by rw [places_keys, e]; exact List.Pairwise.map _ (fun a b ne z => ne (inj a b z)) nd) (List.mem_map.mpr ⟨ns.idxOf n, List.mem_range.mpr (by omega), ?_⟩)
  rw [e, List.getD_eq_getElem?_getD, List.getElem?_map, List.getElem?_eq_getElem lt, List.getElem_idxOf]
  rfl
end Ek

set_option Elab.async false
set_option linter.all false
set_option maxRecDepth 100000
set_option maxHeartbeats 3200000
/-! comprehensions over enumerate(a tuple) -/
namespace Lc
open PySem L2 Tx Tg Tm RZ
section
variable {K : PySem.W.Frag} {te : TE} {σ : L2.St} {H1 : Hp} {D : Addr} {Qd : Hp → Prop} {j1 j2 : Nat} {xs : List V} {a : Addr}
theorem lc_enumT (Pv : Nat → Hp → Prop) (h0 : Pv 0 (upd H1 D (.lst []))) (hq : ∀ i H, Pv i H → SqT K H a xs)
    (hs : ∀ i x T H, xs[i]? = some x → Pv i H → H T = none → gTup K 2 (gCons (gName j1) (gCons (gName j2) gNil)) (.ref T) (wipe σ [j1, j2]) (upd H T (.tup [.int (i : Nat), x])) fun σ2 H2 => wipe σ2 [j1, j2] = wipe σ [j1, j2] ∧ tYes σ2 H2 fun b H3 =>
      if b = true then te σ2 H3 fun y H4 => ∃ acc, H4 D = some (.lst acc) ∧ acc.length < sizeLine ∧ Pv (i + 1) (upd H4 D (.lst (acc ++ [y]))) else Pv (i + 1) H3) (hd : ∀ H, Pv xs.length H → Qd H) :
    ∃ W : Nat → Nat → Hp → Prop, (∃ m, W 0 m (upd H1 D (.lst []))) ∧ ∀ i m H, W i m H →
      ((Ur.IteT K a).stop i H ∧ Qd H) ∨ ((Ur.IteT K a).go i H ∧ ∃ Nx : Hp → Prop, (∀ H', Nx H' → ∃ m', m' < m ∧ W (i + 1) m' H') ∧ ∀ x H', (Ur.IteT K a).yld i H x H' → gTup K 2 (gCons (gName j1) (gCons (gName j2) gNil)) x (wipe σ [j1, j2]) H' fun σ2 H2 => wipe σ2 [j1, j2] = wipe σ [j1, j2] ∧ tYes σ2 H2 fun b H3 =>
        if b = true then te σ2 H3 fun y H4 => ∃ acc, H4 D = some (.lst acc) ∧ acc.length < sizeLine ∧ Nx (upd H4 D (.lst (acc ++ [y]))) else Nx H3) := by
  refine ⟨fun i m H => m = xs.length - i ∧ i ≤ xs.length ∧ Pv i H, ⟨xs.length, by simp, Nat.zero_le _, h0⟩, ?_⟩
  rintro i m H ⟨rfl, hi, p⟩
  have q := hq i H p
  by_cases hlt : i < xs.length
  · refine .inr ⟨⟨xs, xs[i], q, List.getElem?_eq_getElem hlt⟩, Pv (i + 1), fun H' p' => ⟨xs.length - (i + 1), by omega, rfl, hlt, p'⟩, fun x H' y => ?_⟩
    obtain ⟨T, x, rfl, nT, rfl, hx⟩ := y
    exact hs i x T H (hx xs q) p nT
  · have e : i = xs.length := by omega
    subst e
    exact .inl ⟨⟨xs, q, rfl⟩, hd H p⟩
/-- each gives a value -/
theorem lcES {ys : List V} (ha : SqT K H1 a xs) (nD : H1 D = none) (hl : xs.length = ys.length) (hz : xs.length < sizeLine) (hw : ∀ u v, wipe (((wipe σ [j1, j2]).set j1 (some u)).set j2 (some v)) [j1, j2] = wipe σ [j1, j2])
    (hs : ∀ (i : Nat) (x y : V) (H2 : Hp), xs[i]? = some x → ys[i]? = some y → Same H1 H2 → ∀ Q : VK, (∀ H3, Same H2 H3 → Q y H3) → te (((wipe σ [j1, j2]).set j1 (some (.int (i : Nat)))).set j2 (some x)) H2 Q) (hd : ∀ H2, Same H1 H2 → H2 D = some (.lst ys) → Qd H2) :
    ∃ W : Nat → Nat → Hp → Prop, (∃ m, W 0 m (upd H1 D (.lst []))) ∧ ∀ i m H, W i m H →
      ((Ur.IteT K a).stop i H ∧ Qd H) ∨ ((Ur.IteT K a).go i H ∧ ∃ Nx : Hp → Prop, (∀ H', Nx H' → ∃ m', m' < m ∧ W (i + 1) m' H') ∧ ∀ x H', (Ur.IteT K a).yld i H x H' → gTup K 2 (gCons (gName j1) (gCons (gName j2) gNil)) x (wipe σ [j1, j2]) H' fun σ2 H2 => wipe σ2 [j1, j2] = wipe σ [j1, j2] ∧ tYes σ2 H2 fun b H3 =>
        if b = true then te σ2 H3 fun y H4 => ∃ acc, H4 D = some (.lst acc) ∧ acc.length < sizeLine ∧ Nx (upd H4 D (.lst (acc ++ [y]))) else Nx H3) := by
  refine lc_enumT (xs := xs) (fun i H2 => Same H1 H2 ∧ H2 D = some (.lst (ys.take i))) ⟨same_upd nD, upd_same⟩ (fun i H2 z => sqT_same z.1 ha) ?_ ?_
  · rintro i x t H2 hx ⟨s2, e2⟩ nt
    have hi := (List.getElem?_eq_some_iff.mp hx).1
    have hy := List.getElem?_eq_getElem (l := ys) (i := i) (by omega)
    have s3 := same_upd (o := .tup [.int (i : Nat), x]) nt
    refine ⟨t, _, rfl, SqT.of upd_same, rfl, _, _, rfl, _, _, rfl, rfl, hw _ _, iteT (B := False) ?_⟩
    refine hs i x _ _ hx hy (s2.trans s3) _ fun H4 s4 => ⟨_, s4 _ _ (s3 _ _ e2), ?_, same_put ((s2.trans s3).trans s4) nD, ?_⟩
    · rw [List.length_take]
      omega
    · rw [List.take_add_one, hy]
      exact upd_same
  · rintro H2 ⟨s2, e2⟩
    rw [hl, List.take_of_length_le (Nat.le_refl _)] at e2
    exact hd H2 s2 e2
/-- each gives a new tuple, or what lies on tuples -/
theorem lcER {α : Type} {R : Hp → Addr → α → Prop} (hR : ∀ H H' p x, KT H H' → R H p x → R H' p x) {ys : List α} (ha : SqT K H1 a xs) (nD : H1 D = none) (hl : xs.length = ys.length) (hz : xs.length < sizeLine) (hw : ∀ u v, wipe (((wipe σ [j1, j2]).set j1 (some u)).set j2 (some v)) [j1, j2] = wipe σ [j1, j2])
    (hs : ∀ (i : Nat) (x : V) (y : α) (H2 : Hp), xs[i]? = some x → ys[i]? = some y → Same H1 H2 → ∀ Q : VK, (∀ b H3, Same H2 H3 → R H3 b y → Q (.ref b) H3) → te (((wipe σ [j1, j2]).set j1 (some (.int (i : Nat)))).set j2 (some x)) H2 Q) (hd : ∀ H2 ps, Same H1 H2 → H2 D = some (.lst (ps.map V.ref)) → PySem.W.EachIs (R H2) ps ys → Qd H2) :
    ∃ W : Nat → Nat → Hp → Prop, (∃ m, W 0 m (upd H1 D (.lst []))) ∧ ∀ i m H, W i m H →
      ((Ur.IteT K a).stop i H ∧ Qd H) ∨ ((Ur.IteT K a).go i H ∧ ∃ Nx : Hp → Prop, (∀ H', Nx H' → ∃ m', m' < m ∧ W (i + 1) m' H') ∧ ∀ x H', (Ur.IteT K a).yld i H x H' → gTup K 2 (gCons (gName j1) (gCons (gName j2) gNil)) x (wipe σ [j1, j2]) H' fun σ2 H2 => wipe σ2 [j1, j2] = wipe σ [j1, j2] ∧ tYes σ2 H2 fun b H3 =>
        if b = true then te σ2 H3 fun y H4 => ∃ acc, H4 D = some (.lst acc) ∧ acc.length < sizeLine ∧ Nx (upd H4 D (.lst (acc ++ [y]))) else Nx H3) := by
  refine lc_enumT (xs := xs) (fun i H2 => ∃ ps : List Addr, Same H1 H2 ∧ H2 D = some (.lst (ps.map V.ref)) ∧ PySem.W.EachIs (R H2) ps (ys.take i)) ⟨[], same_upd nD, upd_same, .nil⟩ (fun i H2 z => by obtain ⟨_, s, _⟩ := z; exact sqT_same s ha) ?_ ?_
  · rintro i x t H2 hx ⟨ps, s2, e2, r2⟩ nt
    have hi := (List.getElem?_eq_some_iff.mp hx).1
    have hy := List.getElem?_eq_getElem (l := ys) (i := i) (by omega)
    have s3 := same_upd (o := .tup [.int (i : Nat), x]) nt
    refine ⟨t, _, rfl, SqT.of upd_same, rfl, _, _, rfl, _, _, rfl, rfl, hw _ _, iteT (B := False) ?_⟩
    refine hs i x _ _ hx hy (s2.trans s3) _ fun b H4 s4 hb => ⟨_, s4 _ _ (s3 _ _ e2), ?_, ps ++ [b], same_put ((s2.trans s3).trans s4) nD, ?_, ?_⟩
    · rw [List.length_map, r2.length, List.length_take]
      exact Nat.lt_of_le_of_lt (Nat.min_le_left _ _) (by omega)
    · rw [upd_same, List.map_append]
      rfl
    · have e4 := s4 _ _ (s3 _ _ e2)
      have k : KT H2 (upd H4 D (.lst (ps.map V.ref ++ [V.ref b]))) := fun q xs e => by
        rw [upd_ne (fun z => by rw [z, e2] at e; cases e)]
        exact s4 _ _ (s3 _ _ e)
      have k3 : KT H4 (upd H4 D (.lst (ps.map V.ref ++ [V.ref b]))) := fun q xs e => by
        rw [upd_ne (fun z => by rw [z, e4] at e; cases e)]
        exact e
      rw [List.take_add_one, hy]
      exact each_app (PySem.W.EachIs.mono (fun _ _ h => hR _ _ _ _ k h) r2) (.cons (hR _ _ _ _ k3 hb) .nil)
  · rintro H2 ⟨ps, s2, e2, r2⟩
    rw [hl, List.take_of_length_le (Nat.le_refl _)] at r2
    exact hd H2 ps s2 e2 r2
end
end Lc

set_option Elab.async false
set_option linter.all false
set_option maxRecDepth 100000
set_option maxHeartbeats 3200000
/-! for k, v in d.items() -/
namespace Lc
open PySem L2 Tx Tg Tm RZ
theorem for_items {d : Addr} {o : Obj} {kvs : List (Key × V)} {g : TG} {tb : TS} {D : Ends} {σ : L2.St} {H : Hp} (Pv : Nat → L2.St → Hp → Prop) (h0 : Pv 0 σ H) (hf : ∀ i σ H, Pv i σ H → H d = some (.frz o (.dK kvs)))
    (hs : ∀ i k v T σ H, kvs[i]? = some (k, v) → Pv i σ H → H T = none → g (.ref T) σ (upd H T (.tup [kV k, v])) fun σ2 H2 => tb { D with nx := Pv (i + 1), ct := Pv (i + 1), bk := D.nx } σ2 H2) (hd : ∀ σ H, Pv kvs.length σ H → D.nx σ H) :
    ∃ W : Nat → Nat → L2.St → Hp → Prop, (∃ m, W 0 m σ H) ∧ ∀ i m σ H, W i m σ H →
      ((Iti d o kvs).stop i H ∧ D.nx σ H) ∨ ((Iti d o kvs).go i H ∧ ∃ N : L2.St → Hp → Prop, (∀ σ' H', N σ' H' → ∃ m', m' < m ∧ W (i + 1) m' σ' H') ∧ ∀ x H', (Iti d o kvs).yld i H x H' → g x σ H' fun σ2 H2 => tb { D with nx := N, ct := N, bk := D.nx } σ2 H2) := by
  refine ⟨fun i m σ H => m = kvs.length - i ∧ i ≤ kvs.length ∧ Pv i σ H, ⟨kvs.length, by simp, Nat.zero_le _, h0⟩, ?_⟩
  rintro i m σ H ⟨rfl, hi, p⟩
  by_cases hlt : i < kvs.length
  · refine .inr ⟨⟨hf i σ H p, hlt⟩, Pv (i + 1), fun σ' H' p' => ⟨kvs.length - (i + 1), by omega, rfl, hlt, p'⟩, fun x H' y => ?_⟩
    obtain ⟨T, k, v, e, rfl, nT, rfl⟩ := y
    exact hs i k v T σ H e p nT
  · have e : i = kvs.length := by omega
    subst e
    exact .inl ⟨⟨hf _ σ H p, Nat.le_refl _⟩, hd σ H p⟩
end Lc

set_option Elab.async false
set_option linter.all false
set_option maxRecDepth 100000
set_option maxHeartbeats 3200000
/-! for k in d; {x: i for i, x in enumerate(t)}; {.. for x in t} -/
namespace Lc
open PySem L2 Tx Tg Tm RZ
theorem for_keys {d : Addr} {o : Obj} {kvs : List (Key × V)} {g : TG} {tb : TS} {D : Ends} {σ : L2.St} {H : Hp} (Pv : Nat → L2.St → Hp → Prop) (h0 : Pv 0 σ H) (hf : ∀ i σ H, Pv i σ H → H d = some (.frz o (.dK kvs)))
    (hs : ∀ i k v σ H, kvs[i]? = some (k, v) → Pv i σ H → g (kV k) σ H fun σ2 H2 => tb { D with nx := Pv (i + 1), ct := Pv (i + 1), bk := D.nx } σ2 H2) (hd : ∀ σ H, Pv kvs.length σ H → D.nx σ H) :
    ∃ W : Nat → Nat → L2.St → Hp → Prop, (∃ m, W 0 m σ H) ∧ ∀ i m σ H, W i m σ H →
      ((Itk d o kvs).stop i H ∧ D.nx σ H) ∨ ((Itk d o kvs).go i H ∧ ∃ N : L2.St → Hp → Prop, (∀ σ' H', N σ' H' → ∃ m', m' < m ∧ W (i + 1) m' σ' H') ∧ ∀ x H', (Itk d o kvs).yld i H x H' → g x σ H' fun σ2 H2 => tb { D with nx := N, ct := N, bk := D.nx } σ2 H2) := by
  refine ⟨fun i m σ H => m = kvs.length - i ∧ i ≤ kvs.length ∧ Pv i σ H, ⟨kvs.length, by simp, Nat.zero_le _, h0⟩, ?_⟩
  rintro i m σ H ⟨rfl, hi, p⟩
  by_cases hlt : i < kvs.length
  · refine .inr ⟨⟨hf i σ H p, hlt⟩, Pv (i + 1), fun σ' H' p' => ⟨kvs.length - (i + 1), by omega, rfl, hlt, p'⟩, fun x H' y => ?_⟩
    obtain ⟨rfl, k, v, e, rfl⟩ := y
    exact hs i k v σ _ e p
  · have e : i = kvs.length := by omega
    subst e
    exact .inl ⟨⟨hf _ σ H p, Nat.le_refl _⟩, hd σ H p⟩
section
variable {K : PySem.W.Frag} {σ : L2.St} {H1 : Hp} {D : Addr} {Qd : Hp → Prop} {a : Addr}
/-- {.. for x in a tuple} -/
theorem dc_tup {xs : List V} {g : TG} {tt : TT} {tk tv : TE} {vs : List Nat} (Pv : Nat → Hp → Prop) (h0 : Pv 0 (upd H1 D (.dK []))) (hq : ∀ i H, Pv i H → SqT K H a xs)
    (hs : ∀ i x H, xs[i]? = some x → Pv i H → g x (wipe σ vs) H fun σ2 H2 => wipe σ2 vs = wipe σ vs ∧ tt σ2 H2 fun b H3 =>
      if b = true then tk σ2 H3 fun y H4 => tv σ2 H4 fun z H5 => ∃ kvs k, y = kV k ∧ H5 D = some (.dK kvs) ∧ kvs.length < sizeLine ∧ Pv (i + 1) (upd H5 D (.dK (putK kvs k z))) else Pv (i + 1) H3) (hd : ∀ H, Pv xs.length H → Qd H) :
    ∃ W : Nat → Nat → Hp → Prop, (∃ m, W 0 m (upd H1 D (.dK []))) ∧ ∀ i m H, W i m H →
      ((Itt K a).stop i H ∧ Qd H) ∨ ((Itt K a).go i H ∧ ∃ Nx : Hp → Prop, (∀ H', Nx H' → ∃ m', m' < m ∧ W (i + 1) m' H') ∧ ∀ v H', (Itt K a).yld i H v H' → g v (wipe σ vs) H' fun σ2 H2 => wipe σ2 vs = wipe σ vs ∧ tt σ2 H2 fun b H3 =>
        if b = true then tk σ2 H3 fun y H4 => tv σ2 H4 fun z H5 => ∃ kvs k, y = kV k ∧ H5 D = some (.dK kvs) ∧ kvs.length < sizeLine ∧ Nx (upd H5 D (.dK (putK kvs k z))) else Nx H3) := by
  refine ⟨fun i m H => m = xs.length - i ∧ i ≤ xs.length ∧ Pv i H, ⟨xs.length, by simp, Nat.zero_le _, h0⟩, ?_⟩
  rintro i m H ⟨rfl, hi, p⟩
  have q := hq i H p
  by_cases hlt : i < xs.length
  · refine .inr ⟨⟨xs, xs[i], q, List.getElem?_eq_getElem hlt⟩, Pv (i + 1), fun H' p' => ⟨xs.length - (i + 1), by omega, rfl, hlt, p'⟩, fun x H' y => ?_⟩
    obtain ⟨rfl, hx⟩ := y
    exact hs i x _ (hx xs q) p
  · have e : i = xs.length := by omega
    subst e
    exact .inl ⟨⟨xs, q, Nat.le_refl _⟩, hd H p⟩
/-- {x: i for i, x in enumerate(a tuple of unlike texts)} -/
theorem dc_places {ts : List Str} {j1 j2 : Nat} (ha : SqT K H1 a (ts.map V.str)) (nd : ts.Nodup) (nD : H1 D = none) (hz : ts.length < sizeLine) (hw : ∀ u v, wipe (((wipe σ [j1, j2]).set j1 (some u)).set j2 (some v)) [j1, j2] = wipe σ [j1, j2])
    (h1 : ∀ u v, (((wipe σ [j1, j2]).set j1 (some u)).set j2 (some v))[j1]? = some (some u)) (h2 : ∀ u v, (((wipe σ [j1, j2]).set j1 (some u)).set j2 (some v))[j2]? = some (some v))
    (hd : ∀ H2, Same H1 H2 → H2 D = some (.dK ((List.range ts.length).map fun i => ((Sum.inr (ts.getD i "") : Key), V.int i))) → Qd H2) :
    ∃ W : Nat → Nat → Hp → Prop, (∃ m, W 0 m (upd H1 D (.dK []))) ∧ ∀ i m H, W i m H →
      ((Ur.IteT K a).stop i H ∧ Qd H) ∨ ((Ur.IteT K a).go i H ∧ ∃ Nx : Hp → Prop, (∀ H', Nx H' → ∃ m', m' < m ∧ W (i + 1) m' H') ∧ ∀ x H', (Ur.IteT K a).yld i H x H' → gTup K 2 (gCons (gName j1) (gCons (gName j2) gNil)) x (wipe σ [j1, j2]) H' fun σ2 H2 => wipe σ2 [j1, j2] = wipe σ [j1, j2] ∧ tYes σ2 H2 fun b H3 =>
        if b = true then tVar j2 σ2 H3 fun y H4 => tVar j1 σ2 H4 fun z H5 => ∃ kvs k, y = kV k ∧ H5 D = some (.dK kvs) ∧ kvs.length < sizeLine ∧ Nx (upd H5 D (.dK (putK kvs k z))) else Nx H3) := by
  refine ⟨fun i m H => m = ts.length - i ∧ i ≤ ts.length ∧ Same H1 H ∧ H D = some (.dK ((List.range i).map fun i => ((Sum.inr (ts.getD i "") : Key), V.int i))), ⟨ts.length, by simp, Nat.zero_le _, same_upd nD, upd_same⟩, ?_⟩
  rintro i m H ⟨rfl, hi, s2, e2⟩
  have q := sqT_same s2 ha
  by_cases hlt : i < ts.length
  · have hx : (ts.map V.str)[i]? = some (V.str ts[i]) := by rw [List.getElem?_map, List.getElem?_eq_getElem hlt]; rfl
    refine .inr ⟨⟨_, _, q, hx⟩, fun H' => i + 1 ≤ ts.length ∧ Same H1 H' ∧ H' D = some (.dK ((List.range (i + 1)).map fun i => ((Sum.inr (ts.getD i "") : Key), V.int i))), fun H' p' => ⟨ts.length - (i + 1), by omega, rfl, p'⟩, fun x H' y => ?_⟩
    obtain ⟨t, x, rfl, nt, rfl, hx2⟩ := y
    have ev := hx2 _ q
    rw [hx] at ev
    cases ev
    have s3 := same_upd (o := .tup [.int (i : Nat), V.str ts[i]]) nt
    refine ⟨t, _, rfl, SqT.of upd_same, rfl, _, _, rfl, _, _, rfl, rfl, hw _ _, iteT (B := False) ?_⟩
    refine ⟨_, h2 _ _, _, h1 _ _, _, Sum.inr ts[i], rfl, s3 _ _ e2, ?_, hlt, same_put (s2.trans s3) nD, ?_⟩
    · rw [List.length_map, List.length_range]
      omega
    · have eg : ts.getD i "" = ts[i] := by rw [List.getD_eq_getElem?_getD, List.getElem?_eq_getElem hlt]; rfl
      rw [upd_same, putK_app, List.range_succ, List.map_append]
      · show _ = some (HO.dK (_ ++ [((Sum.inr (ts.getD i "") : Key), V.int i)]))
        rw [eg]
      · rw [List.map_map]
        intro hm
        obtain ⟨k, hk, e⟩ := List.mem_map.mp hm
        have hk := List.mem_range.mp hk
        have e : ts.getD k "" = ts[i] := by injection e
        rw [List.getD_eq_getElem?_getD, List.getElem?_eq_getElem (by omega : k < ts.length)] at e
        have e : ts[k] = ts[i] := e
        have := (List.getElem?_inj (by omega) nd).mp ((List.getElem?_eq_getElem (l := ts) (i := k) (by omega)).trans ((congrArg some e).trans (List.getElem?_eq_getElem hlt).symm))
        omega
  · have e : i = ts.length := by omega
    subst e
    exact .inl ⟨⟨_, q, by rw [List.length_map]⟩, hd H s2 e2⟩
end
end Lc

set_option Elab.async false
set_option linter.all false
set_option maxRecDepth 100000
set_option maxHeartbeats 12800000
namespace K24
open PySem L2 Tx Tg Tm Da RZ Ek
/-! ### readers as automata -/
abbrev sNum : Stmt := top 26
abbrev sFT : Stmt := top 24
def aut (r : Rdr) : Au.Aut := ⟨r.n, fun c q => step r.W q c, fun q => decide (q ∈ r.G)⟩
theorem fit_of {r : Rdr} (ok : okR r) : Au.Fit (cds r.sg) (aut r) where
  pos := ok.W.one
  cl := fun c hc s hs => by
    obtain ⟨l, hl, h1, h2⟩ := ok.W.has hc
    have hq : s < l.length := by rw [h1]; exact hs
    show (row r.W c).getD s 0 < r.n
    rw [row_eq (ok.W.nodup ok.sg) hl, List.getD_eq_getElem?_getD, List.getElem?_eq_getElem hq]
    exact h2 _ (List.getElem_mem hq)
theorem runs_run (W : List Way) (q : Nat) (l : List Nat) : Au.runs (fun c q => step W q c) q l = run W q l := rfl
theorem unlock {H H2 : Hp} {d : Addr} {u : HO} {o : Obj} (hd : H d = some u) (s2 : Same (upd H d (.frz o u)) H2) : Same H (upd H2 d u) := fun b v e => by
  by_cases z : b = d
  · rw [z, hd] at e
    rw [z, upd_same]
    exact e
  · rw [upd_ne z]
    exact s2 b v (by rw [upd_ne z]; exact e)
/-! ### numbered -/
abbrev nNum : List Str := ["states", "number", "state"]
theorem scNum : FnScope nNum ["states"] (defScope sNum) := ⟨rfl, rfl, rfl, by decide +kernel, rfl, by decide +kernel, by decide +kernel⟩
section
variable {P : Program} {w : World} {K : PySem.W.Frag} {mg : Str → Option Value} {base : Heap}
def spNumT (K : PySem.W.Frag) : Sp := fun vs H Q _ => ∃ (a : Addr) (ps : List Addr) (ts : List (List Nat)), vs = [.ref a] ∧ SqL K H a (ps.map V.ref) ∧ Sr.Tups H ps ts ∧ ts.Nodup ∧ ts.length ≤ 1000 ∧ ∀ D H', H D = none → Same H H' → H' D = some (.dT (placesT ts)) → Q (.ref D) H'
theorem ok_numT {f : Addr} {fd : FuncData} (F : Fun K "numbered" "numbered" sNum f fd) (hE : mg "enumerate" = none) : FnOk P w K mg base CX0 1 f fd ["states"] (spNumT K) := by
  refine F.ok scNum (fun vs H Q E h => ?_) (fun cdv A outer s H vs Q E hr h => ?_)
  · obtain ⟨a, ps, ts, rfl, _⟩ := h
    rfl
  · obtain ⟨a, ps, ts, rfl, ha, each, nd, few, q⟩ := h
    refine ⟨_, (pss_one (ps_ret (pe_dcT (own := [("number", 1), ("state", 2)]) (g := (gTup K 2 (gCons (gName 1) (gCons (gName 2) gNil)))) (tt := tYes)  rfl (hu_of hr) scNum.nd (pi_enum (by rfl) hE (pa_cons (pv 0) pa_nil)) (blkOk_by (own := [("number", 1), ("state", 2)]) (N := nNum) (sc := defScope sNum) (by decide +kernel)) (fun _ _ _ _ _ => (pg_tup rfl (pgs_cons (pg_name (i := 1) scNum.nd rfl (Or.inl rfl)) (pgs_cons (pg_name (i := 2) scNum.nd rfl (Or.inl rfl)) pgs_nil)))) (fun _ _ _ _ _ => pts_nil) (fun _ _ _ _ _ => (pv 2)) (fun _ _ _ _ _ => (pv 1))))), ?_⟩
    refine ⟨_, rfl, a, _, rfl, ha, fun D nD => dcLT ha each nd nD (Nat.lt_of_le_of_lt few (by decide)) (fun _ _ => rfl) (fun _ _ => rfl) (fun _ _ => rfl) fun H2 s2 e2 => q D H2 nD s2 e2⟩
/-- a dict's keys, numbered -/
def spNumK : Sp := fun vs H Q _ => ∃ (d : Addr) (kvs : List (Key × V)), vs = [.ref d] ∧ H d = some (.dK kvs) ∧ (kvs.map (·.1)).Nodup ∧ kvs.length ≤ 1000 ∧ ∀ D H', H D = none → Same H H' → H' D = some (.dK (places kvs)) → Q (.ref D) H'
theorem ok_numK {f : Addr} {fd : FuncData} (F : Fun K "numbered" "numbered" sNum f fd) (hE : mg "enumerate" = none) : FnOk P w K mg base CX0 1 f fd ["states"] spNumK := by
  refine F.ok scNum (fun vs H Q E h => ?_) (fun cdv A outer s H vs Q E hr h => ?_)
  · obtain ⟨d, kvs, rfl, _⟩ := h
    rfl
  · obtain ⟨d, kvs, rfl, hd, nd, few, q⟩ := h
    refine ⟨_, (pss_one (ps_lock (ps_ret (pe_dc (own := [("number", 1), ("state", 2)]) (g := (gTup K 2 (gCons (gName 1) (gCons (gName 2) gNil)))) (tt := tYes)  rfl scNum.nd (pi_enumK (by rfl) hE (pa_cons (pv 0) pa_nil)) (blkOk_by (own := [("number", 1), ("state", 2)]) (N := nNum) (sc := defScope sNum) (by decide +kernel)) (fun _ _ _ _ _ => (pg_tup rfl (pgs_cons (pg_name (i := 1) scNum.nd rfl (Or.inl rfl)) (pgs_cons (pg_name (i := 2) scNum.nd rfl (Or.inl rfl)) pgs_nil)))) (fun _ _ _ _ _ => pts_nil) (fun _ _ _ _ _ => (pv 2)) (fun _ _ _ _ _ => (pv 1)))))), ?_⟩
    refine ⟨d, _, hd, trivial, fun od => ?_⟩
    refine ⟨_, rfl, d, od, kvs, rfl, upd_same, fun D nD => dcEK upd_same nd nD (Nat.lt_of_le_of_lt few (by decide)) (fun _ _ => rfl) (fun _ _ => rfl) (fun _ _ => rfl) fun H2 s2 e2 => ⟨s2 _ _ upd_same, q D _ ?_ (unlock hd s2) ?_⟩⟩
    · rwa [upd_ne (fun z => by rw [z, upd_same] at nD; cases nD)] at nD
    rw [upd_ne (fun z => by rw [z, upd_same] at nD; cases nD)]
    exact e2
/-! ### first_texts -/
abbrev nFT : List Str := ["moves", "start", "texts", "found", "at", "letter", "state"]
theorem scFT : FnScope nFT ["moves", "start"] (defScope sFT) := ⟨rfl, rfl, rfl, by decide +kernel, rfl, by decide +kernel, by decide +kernel⟩
def ftD (l : List (Nat × List Nat)) : List (Key × V) := l.map fun x => ((Sum.inl (x.1 : Int) : Key), V.str (tx x.2))
abbrev nxW (W : List Way) : Nat → Nat → Nat := fun c q => step W q c
def spFT : Sp := fun vs H Q _ => ∃ (d : Addr) (s n : Nat) (sg : Str) (W : List Way), vs = [.ref d, .int (s : Int)] ∧ MovAt H d W ∧ Signs sg ∧ okW n sg W ∧ W.map (·.1) = cds sg ∧ s < n ∧
  ∀ D H' l, H D = none → Same H H' → Au.Full (cds sg) (nxW W) s l → H' D = some (.dK (ftD l)) → Q (.ref D) H'
theorem upTo_lt {n : Nat} {sg : Str} {W : List Way} (ok : okW n sg W) (hs : Signs sg) {s k : Nat} (lt : s < n) : ∀ y ∈ Au.upTo (cds sg) (nxW W) s k, y.1 < n := fun y hy => by
  obtain ⟨e, hw⟩ := Au.upTo_led (L := cds sg) (nx := nxW W) (s := s) (k := k) y hy
  rw [e]
  generalize y.2 = w at hw
  clear e hy
  induction w generalizing s with
  | nil => exact lt
  | cons c w ih =>
    refine ih (s := step W s c) ?_ fun d hd => hw d (List.mem_cons_of_mem _ hd)
    obtain ⟨l, hl, h1, h2⟩ := ok.has (hw c List.mem_cons_self)
    have hq : s < l.length := by omega
    show (row W c).getD s 0 < n
    rw [row_eq (ok.nodup hs) hl, List.getD_eq_getElem?_getD, List.getElem?_eq_getElem hq]
    exact h2 _ (List.getElem_mem hq)
theorem upTo_len {n : Nat} {sg : Str} {W : List Way} (ok : okW n sg W) (hs : Signs sg) {s k : Nat} (lt : s < n) : (Au.upTo (cds sg) (nxW W) s k).length ≤ n := by
  have := Pm.small_len (Au.upTo_nd (L := cds sg) (nx := nxW W) (s := s) (k := k)) fun x hx => by
    obtain ⟨y, hy, rfl⟩ := List.mem_map.mp hx
    exact upTo_lt ok hs lt y hy
  rwa [List.length_map] at this
theorem upTo_txt (L : List Nat) (nx : Nat → Nat → Nat) (s : Nat) : ∀ {k : Nat}, ∀ y ∈ Au.upTo L nx s k, y.2.length ≤ k := by
  intro k
  induction k with
  | zero =>
    intro y hy
    rw [List.mem_singleton.mp hy]
    exact Nat.le_refl _
  | succ k ih =>
    cases hk : (Au.upTo L nx s k)[k]? with
    | none =>
      rw [Au.upTo_none hk]
      exact fun y hy => Nat.le_succ_of_le (ih y hy)
    | some x =>
      rw [Au.upTo_some hk]
      have hx := ih x (List.mem_of_getElem? hk)
      have go : ∀ (M : List Nat) (f : List (Nat × List Nat)), (∀ y ∈ f, y.2.length ≤ k + 1) → ∀ y ∈ Au.turn M nx x f, y.2.length ≤ k + 1 := fun M => by
        induction M with
        | nil => exact fun f h => h
        | cons c M ihM =>
          refine fun f h => ihM (Au.visit nx x f c) fun y hy => ?_
          unfold Au.visit at hy
          split at hy
          · exact h y hy
          · rcases List.mem_append.mp hy with hy | hy
            · exact h y hy
            · rw [List.mem_singleton.mp hy]
              show (x.2 ++ [c]).length ≤ k + 1
              rw [List.length_append]
              exact Nat.succ_le_succ hx
      exact go L _ fun y hy => Nat.le_succ_of_le (ih y hy)
theorem ftD_keys (l : List (Nat × List Nat)) : (ftD l).map (·.1) = (l.map (·.1)).map fun (n : Nat) => (Sum.inl (n : Int) : Key) := by
  unfold ftD
  rw [List.map_map, List.map_map]
  rfl
theorem inl_inj {a b : Nat} (h : (Sum.inl (a : Int) : Key) = Sum.inl (b : Int)) : a = b := by
  have : (a : Int) = b := by injection h
  omega
theorem ftD_get {l : List (Nat × List Nat)} (nd : (l.map (·.1)).Nodup) {x : Nat × List Nat} (h : x ∈ l) : valV (ftD l) (Sum.inl (x.1 : Int) : Key) = some (.str (tx x.2)) := by
  refine val_in ?_ (List.mem_map.mpr ⟨x, h, rfl⟩)
  rw [ftD_keys]
  exact List.Pairwise.map _ (fun a b ne z => ne (inl_inj z)) nd
theorem ftD_off {l : List (Nat × List Nat)} {q : Nat} (h : q ∉ l.map (·.1)) : valV (ftD l) (Sum.inl (q : Int) : Key) = none := by
  refine val_off fun z => h ?_
  rw [ftD_keys] at z
  obtain ⟨a, ha, e⟩ := List.mem_map.mp z
  rw [← inl_inj e]
  exact ha
theorem natsV_map (l : List (Nat × List Nat)) : natsV (l.map (·.1)) = l.map fun x => V.int (x.1 : Int) := by
  unfold natsV
  rw [List.map_map]
  rfl
theorem one_tx (c : Nat) : one c = tx [c] := cds_ext rfl
theorem ok_ft {f : Addr} {fd : FuncData} (F : Fun K "first_texts" "first_texts" sFT f fd) (T : Txt K mg) : FnOk P w K mg base CX0 1 f fd ["moves", "start"] spFT := by
  refine F.ok scFT (fun vs H Q E h => ?_) (fun cdv A outer s0 H vs Q E hr h => ?_)
  · obtain ⟨d, s, n, sg, W, rfl, _⟩ := h
    rfl
  · obtain ⟨d, s, n, sg, W, rfl, hM, hs, ok, eW, lt, q⟩ := h
    have hu := hu_of hr
    refine ⟨_, (pss_cons (ps_set (i := 2) scFT.nd rfl (Or.inl rfl) (pe_disp (pps_cons (pv 1) pe_str pps_nil) (by rfl) (by rfl) (fun z => by cases z) (by decide)))
    (pss_cons (ps_set (i := 3) scFT.nd rfl (Or.inl rfl) (pe_lst (pa_cons (pv 1) pa_nil)))
    (pss_cons (ps_set (i := 4) scFT.nd rfl (Or.inl rfl) pe_int)
    (pss_cons (ps_while PassesOwn.never (pt_cmpR op_lt (pv 4) (pe_callB call_len_seq (by rfl) T.len PySem.boot_len (pa_cons (pv 3) pa_nil)) (nomark _))
      (pss_cons (ps_lock (ps_for PassesOwn.never rfl (pi_keys (pv 0)) (pg_name (i := 5) scFT.nd rfl (Or.inl rfl))
        (pss_cons (ps_set (i := 6) scFT.nd rfl (Or.inl rfl) (pe_ix ix_tup (pe_dget hu (pv 0) (pv 5) (fun _ _ => rfl)) (pe_ix ix_list (pv 3) (pv 4) (fun _ _ => rfl)) (fun _ _ => rfl)))
        (pss_one (ps_if (pt_cmp (pc_dnotin hu (pv 6) (pv 2))) (pss_cons (ps_dput hu (pv 2) (pv 6) (pe_op op_add_str (pe_dget hu (pv 2) (pe_ix ix_list (pv 3) (pv 4) (fun _ _ => rfl)) (fun _ _ => rfl)) (pv 5)) rfl)
          (pss_one (ps_expr (pe_bm PySem.F.plainAttrs_list PySem.F.slot_list_append PySem.F.type_list_append mt_append (pv 3) (pa_cons (pv 6) pa_nil))))) pss_nil)))))
      (pss_one (ps_set (i := 4) scFT.nd rfl (Or.inl rfl) (pe_op op_add (pv 4) pe_int)))))
    (pss_one (ps_ret (pv 2))))))), ?_⟩
    obtain ⟨mk, ed, hw⟩ := hM
    have kN : mk.length = (cds sg).length := by
      rw [ways_len hw, ← eW, List.length_map]
    -- what is found at the start
    refine fun D nD => ⟨_, rfl, upd_same, [((Sum.inl (s : Int) : Key), V.str "")], rfl, by show 1 ≤ 15; decide, ?_⟩
    have eD0 : upd (upd H D (.dK [])) D (.dK (mergeK [] [((Sum.inl (s : Int) : Key), V.str "")])) = upd H D (.dK (ftD [(s, [])])) := by
      funext b
      by_cases z : b = D
      · rw [z, upd_same, upd_same]
        rfl
      · rw [upd_ne z, upd_ne z, upd_ne z]
    dsimp only [gName]
    rw [eD0]
    refine ⟨_, rfl, by show 1 ≤ sizeLine; decide, fun Fd nF => ?_⟩
    have s1 : Same H (upd H D (.dK (ftD [(s, [])]))) := same_upd nD
    have s2 : Same H (upd (upd H D (.dK (ftD [(s, [])]))) Fd (.lst [.int (s : Int)])) := s1.trans (same_upd nF)
    have nFD : Fd ≠ D := fun z => by rw [z, upd_same] at nF; cases nF
    have nF0 : H Fd = none := by rw [upd_ne nFD] at nF; exact nF
    have ndD : d ≠ D := ne_of_none ed nD
    have ndF : d ≠ Fd := ne_of_none ed nF0
    let S := Au.upTo (cds sg) (nxW W) s
    have lenS : ∀ k, (S k).length ≤ n := fun k => upTo_len ok hs lt
    have n60 : n ≤ 60 := ok.most
    let Lp : Nat → L2.St → Hp → Prop := fun m σ H' => ∃ (k : Nat) (o5 o6 : Option V), m = n - k ∧ k ≤ (S k).length ∧ σ = [some (.ref d), some (.int (s : Int)), some (.ref D), some (.ref Fd), some (.int (k : Int)), o5, o6] ∧ Same H H' ∧ H' D = some (.dK (ftD (S k))) ∧ H' Fd = some (.lst (natsV ((S k).map (·.1))))
    refine ⟨Lp, ⟨n, 0, none, none, rfl, Nat.zero_le _, rfl, s2, by rw [upd_ne nFD.symm, upd_same]; rfl, upd_same⟩, ?_⟩
    rintro m σ Hk ⟨k, o5, o6, rfl, hk, rfl, sk, eD, eF⟩
    refine ⟨_, rfl, _, rfl, Fd, _, rfl, .inl (SqL.of eF), _, _, rfl, rfl, _, rfl, ?_⟩
    rw [List.length_map, List.length_map]
    dsimp only
    by_cases more : k < (S k).length
    · rw [if_pos (decide_eq_true (by omega))]
      refine ⟨fun σ' H' => ∃ m', m' < n - k ∧ Lp m' σ' H', fun _ _ h => h, ?_⟩
      have edk := sk _ _ ed
      refine ⟨d, .dK mk, edk, trivial, fun od => ?_⟩
      obtain ⟨x, hx⟩ : ∃ x, (S k)[k]? = some x := ⟨_, List.getElem?_eq_getElem more⟩
      have xm := List.mem_of_getElem? hx
      have xlt := upTo_lt ok hs lt x xm
      have e1 : S (k + 1) = Au.turn (cds sg) (nxW W) x (S k) := Au.upTo_some hx
      let fi : Nat → List (Nat × List Nat) := fun i => Au.turn ((cds sg).take i) (nxW W) x (S k)
      have f0 : fi 0 = S k := rfl
      have fz : fi mk.length = S (k + 1) := by
        show Au.turn ((cds sg).take mk.length) _ _ _ = _
        rw [List.take_of_length_le (by omega), e1]
      have fs : ∀ i c, (cds sg)[i]? = some c → fi (i + 1) = Au.visit (nxW W) x (fi i) c := fun i c hc => by
        show ((cds sg).take (i + 1)).foldl _ _ = _
        rw [List.take_add_one, hc, List.foldl_append]
        rfl
      have fpre : ∀ i, fi i <+: S (k + 1) := fun i => by
        rw [e1]
        have : Au.turn (cds sg) (nxW W) x (S k) = Au.turn ((cds sg).drop i) (nxW W) x (fi i) := by
          show (cds sg).foldl _ _ = _
          conv => lhs; rw [← List.take_append_drop i (cds sg)]
          rw [List.foldl_append]
          rfl
        rw [this]
        exact Au.turn_pre
      have fnd : ∀ i, ((fi i).map (·.1)).Nodup := fun i => Au.turn_nd Au.upTo_nd
      have fx : ∀ i, x ∈ fi i ∧ (fi i)[k]? = some x := fun i => by
        obtain ⟨t, ht⟩ := Au.turn_pre (L := (cds sg).take i) (nx := nxW W) (x := x) (f := S k)
        have e : fi i = S k ++ t := ht.symm
        rw [e]
        exact ⟨List.mem_append_left _ xm, by rw [List.getElem?_append_left more]; exact hx⟩
      let Pv : Nat → L2.St → Hp → Prop := fun i σ H3 => i ≤ mk.length ∧ ∃ (o5 o6 : Option V), σ = [some (.ref d), some (.int (s : Int)), some (.ref D), some (.ref Fd), some (.int (k : Int)), o5, o6] ∧ H3 d = some (.frz od (.dK mk)) ∧ (∀ b o, b ≠ d → H b = some o → H3 b = some o) ∧ H3 D = some (.dK (ftD (fi i))) ∧ H3 Fd = some (.lst (natsV ((fi i).map (·.1))))
      refine ⟨_, rfl, d, od, rfl, .inl ⟨mk, upd_same, Lc.for_keys Pv ⟨Nat.zero_le _, o5, o6, rfl, upd_same, fun b o ne e => by rw [upd_ne ne]; exact sk _ _ e, by rw [upd_ne ndD.symm]; exact eD, by rw [upd_ne ndF.symm]; exact eF⟩ (fun i σ H3 p => by obtain ⟨_, _, _, _, e, _⟩ := p; exact e) ?_ ?_⟩⟩
      · rintro i key v σ H3 hkv ⟨hi, o5, o6, rfl, e3, sm, eD3, eF3⟩
        have hlt : i < mk.length := (List.getElem?_eq_some_iff.mp hkv).1
        obtain ⟨c, hc⟩ : ∃ c, (cds sg)[i]? = some c := ⟨_, List.getElem?_eq_getElem (by omega)⟩
        have hWi : W[i]? = some (W[i]'(by rw [← ways_len hw]; exact hlt)) := List.getElem?_eq_getElem _
        obtain ⟨p0, ekv, _⟩ : WayAt H (key, v) (W[i]'(by rw [← ways_len hw]; exact hlt)) := Lc.each_atP hw hkv hWi
        have ec : (W[i]'(by rw [← ways_len hw]; exact hlt)).1 = c := by
          have : (W.map (·.1))[i]? = some (W[i]'(by rw [← ways_len hw]; exact hlt)).1 := by rw [List.getElem?_map, hWi]; rfl
          rw [eW, hc] at this
          exact (Option.some.inj this).symm
        rw [ec] at ekv
        obtain ⟨rfl, rfl⟩ := Prod.mk.inj ekv
        have cm : c ∈ cds sg := List.mem_of_getElem? hc
        have hw3 : WsAt H3 mk W := hw.keep fun p xs e => sm p _ (fun z => by rw [z, ed] at e; cases e) e
        obtain ⟨p1, l1, g1, r1, a1, b1⟩ := step_at ok hs hw3 cm xlt
        have G1 : DGet H3 d (.str (one c)) (some (.ref p1)) := .inl ⟨mk, Sum.inr (one c), .inr ⟨od, e3⟩, rfl, g1.symm⟩
        have a3 : (natsV ((fi i).map (·.1)))[k]? = some (.int (x.1 : Int)) := by
          rw [List.getElem?_map, List.getElem?_map, (fx i).2]
          rfl
        refine ⟨_, rfl, _, rfl, d, _, rfl, G1, _, rfl, _, rfl, Fd, _, _, _, rfl, rfl, SqL.of eF3, atI_nat a3, p1, _, _, _, rfl, rfl, SqT.of r1, atI_nat a1, ?_⟩
        dsimp only [gName]
        have e4 := fs i c hc
        by_cases old : step W x.1 c ∈ (fi i).map (·.1)
        · obtain ⟨y, hy, ey⟩ := List.mem_map.mp old
          have G2 := ftD_get (fnd i) hy
          rw [ey] at G2
          have G3 := DGet.k (k := (Sum.inl (step W x.1 c : Int) : Key)) eD3
          rw [G2] at G3
          refine ⟨_, rfl, _, rfl, D, _, rfl, G3, _, rfl, iteF ?_⟩
          have e5 : fi (i + 1) = fi i := by
            rw [e4]
            unfold Au.visit
            rw [if_pos old]
          exact ⟨hlt, _, _, rfl, e3, sm, by rw [e5]; exact eD3, by rw [e5]; exact eF3⟩
        · have G3 := DGet.k (k := (Sum.inl (step W x.1 c : Int) : Key)) eD3
          rw [ftD_off old] at G3
          have e5 : fi (i + 1) = fi i ++ [(step W x.1 c, x.2 ++ [c])] := by
            rw [e4]
            unfold Au.visit
            rw [if_neg old]
          have G4 := DGet.k (k := (Sum.inl (x.1 : Int) : Key)) eD3
          rw [ftD_get (fnd i) (fx i).1] at G4
          have lenf : (fi i).length ≤ n := Nat.le_trans (fpre i).length_le (lenS (k + 1))
          have lent : x.2.length ≤ 60 := by
            have := upTo_txt _ _ _ x xm
            have := lenS k
            omega
          refine ⟨_, rfl, _, rfl, D, _, rfl, G3, _, rfl, iteT ?_⟩
          refine ⟨_, rfl, _, rfl, _, rfl, Fd, _, _, _, rfl, rfl, SqL.of eF3, atI_nat a3, D, _, rfl, G4, _, rfl, tx x.2, one c, rfl, rfl, ?_, _, rfl, _, rfl, D, _, rfl, DPut.k (k := (Sum.inl (step W x.1 c : Int) : Key)) eD3 ?_, ?_⟩
          · rw [tx_len]
            show x.2.length + 1 ≤ sizeLine
            exact Nat.le_trans (Nat.succ_le_succ lent) (by decide)
          · unfold ftD
            rw [List.length_map]
            exact Nat.lt_of_le_of_lt (Nat.le_trans lenf n60) (by decide)
          · have e6 : putK (ftD (fi i)) (Sum.inl (step W x.1 c : Int) : Key) (.str (tx x.2 ++ one c)) = ftD (fi (i + 1)) := by
              rw [L2.putK_new _ (ftD_off old), e5, one_tx, tx_app]
              unfold ftD
              rw [List.map_append]
              rfl
            rw [e6]
            have eF4 : upd H3 D (.dK (ftD (fi (i + 1)))) Fd = some (.lst (natsV ((fi i).map (·.1)))) := by rw [upd_ne nFD]; exact eF3
            refine ⟨_, rfl, .inl ⟨rfl, _, SqL.of eF4⟩, _, rfl, Fd, _, _, rfl, rfl, eF4, ?_, ?_⟩
            · rw [List.length_map, List.length_map]
              exact Nat.lt_of_le_of_lt (Nat.le_trans lenf n60) (by decide)
            · refine ⟨hlt, _, _, rfl, by rw [upd_ne ndF, upd_ne ndD]; exact e3, fun b o ne e => ?_, by rw [upd_ne nFD.symm, upd_same], ?_⟩
              · rw [upd_ne (ne_of_none e nF0), upd_ne (ne_of_none e nD)]
                exact sm b o ne e
              · rw [upd_same, e5, List.map_append]
                unfold natsV
                rw [List.map_append]
                rfl
      · rintro σ H3 ⟨_, o5, o6, rfl, e3, sm, eD3, eF3⟩
        rw [fz] at eD3 eF3
        refine ⟨e3, _, rfl, _, _, rfl, rfl, n - (k + 1), ?_, k + 1, o5, o6, rfl, ?_, ?_, ?_, by rw [upd_ne ndD.symm]; exact eD3, by rw [upd_ne ndF.symm]; exact eF3⟩
        · have := lenS k
          omega
        · exact Nat.le_trans more ((Au.upTo_pre (L := cds sg) (nx := nxW W) (s := s) (k := k)).length_le)
        · dsimp only [gName]
          rfl
        · intro b o e
          by_cases z : b = d
          · rw [z, ed] at e
            rw [z, upd_same]
            exact e
          · rw [upd_ne z]
            exact sm b o z e
    · rw [if_neg (by rw [decide_eq_false (by omega)]; exact Bool.false_ne_true)]
      exact ⟨_, rfl, q D Hk (S k) nD sk ⟨k, rfl, by omega⟩ eD⟩
end
end K24

set_option Elab.async false
set_option linter.all false
set_option maxRecDepth 100000
set_option maxHeartbeats 4000000
/-! range(n) as a value and its walk; len(set(l)) of a list with repeats -/
namespace Ek
open PySem PySem.Spec PyProof.Rows L2
theorem cr_range1V {X : Cx} : CallR X (.type "range") (fun vs H Q => ∃ j, vs = [V.int j] ∧ ∀ p, H p = none → Q (.ref p) (upd H p (.rng 0 j))) := by
  intro pins s σ H vs us Q I r h
  obtain ⟨j, rfl, q⟩ := h
  obtain ⟨u, rfl, t, rfl⟩ := vals1 r
  exact call_range_1 ⟨.ref s.heap.objs.size, _, I.laid (o := .rng 0 j) (t' := _) (fun b o e => Heap.get?_push_of_some _ e) (Nat.le_refl _) ⟨_, _, _, Heap.get?_push_size _ rfl⟩, rfl, q _ (I.hok.fresh (Nat.le_refl _))⟩
/-- a range that is there, walked -/
def iRngV (te : TE) : TI := fun σ H R => te σ H fun x H1 => ∃ (p : Addr) (j : Int), x = .ref p ∧ H1 p = some (.rng 0 j) ∧ 0 ≤ j ∧ j < 2 ^ 62 ∧ R (Itr 0 j.toNat) H1
theorem pi_rngV {X : Cx} {tg e : Expr} {te : TE} (he : PE X e te) : PI X tg e (iRngV te) := by
  refine ⟨fun pins s σ H R I h => thn (he.run pins s σ H _ I h) fun u z ⟨x, H1, J, rx, p, j, ex, there, lo, hi, q⟩ => ?_⟩
  subst ex
  obtain rfl : u = Value.ref p := rx
  obtain ⟨a, b, c, isR⟩ := J.hok p _ there
  refine wpAny_pyIter_range isR (small_one (by decide) (by decide) (by omega) hi) ⟨z.heap.objs.size, [z.heap.objs.size], _, _, H1, rfl, J.kept (t' := z.toks) fun d o e => Heap.get?_push_of_some _ e, turn_range _ 0 j.toNat, ?_, fun d hd => ?_, q⟩
  · have n : ((j.toNat : Nat) : Int) - ((0 : Nat) : Int) = Builtin.Range.rangeSize 0 j 1 := by
      rw [rangeSize_one]
      split <;> omega
    show IsRangeIter _ _ ((0 : Int) + ((0 : Nat) : Int) * 1) (((j.toNat : Nat) : Int) - ((0 : Nat) : Int)) 1
    rw [n, show (0 : Int) + ((0 : Nat) : Int) * 1 = 0 by simp]
    exact Heap.get?_push_size _ rfl
  · obtain rfl : d = z.heap.objs.size := by simpa using hd
    exact J.fpOk (Nat.le_refl _) (J.hok.fresh (Nat.le_refl _))
/-- how many different numbers -/
theorem met_nd (val : Nat → Int) : ∀ i, (firstMet val i).Nodup ∧ ∀ x, x ∈ firstMet val i ↔ ∃ j, j < i ∧ val j = x
  | 0 => by
    rw [firstMet_zero]
    exact ⟨List.nodup_nil, fun x => ⟨fun h => (by cases h), fun h => (by obtain ⟨j, h, _⟩ := h; exact absurd h (Nat.not_lt_zero j))⟩⟩
  | i + 1 => by
    obtain ⟨nd, mem⟩ := met_nd val i
    rw [firstMet_succ]
    unfold step_dedup
    split
    · rename_i h
      obtain ⟨y, hy, e⟩ := List.any_eq_true.mp h
      have hy : val i ∈ firstMet val i := (beq_iff_eq.mp e) ▸ hy
      refine ⟨nd, fun x => ⟨fun hx => ?_, fun ⟨j, hj, ev⟩ => ?_⟩⟩
      · obtain ⟨j, hj, e⟩ := (mem x).mp hx
        exact ⟨j, Nat.lt_succ_of_lt hj, e⟩
      · rcases Nat.lt_succ_iff_lt_or_eq.mp hj with hj | rfl
        · exact (mem x).mpr ⟨j, hj, ev⟩
        · rw [← ev]
          exact hy
    · rename_i h
      have off : val i ∉ firstMet val i := fun z => h (List.any_eq_true.mpr ⟨_, z, beq_self_eq_true _⟩)
      refine ⟨List.nodup_append.mpr ⟨nd, by simp, fun a ha b hb e => off ?_⟩, fun x => ?_⟩
      · rw [List.mem_singleton] at hb
        rw [← hb, ← e]
        exact ha
      · rw [List.mem_append, List.mem_singleton, mem x]
        constructor
        · rintro (⟨j, hj, e⟩ | rfl)
          · exact ⟨j, Nat.lt_succ_of_lt hj, e⟩
          · exact ⟨i, Nat.lt_succ_self i, rfl⟩
        · rintro ⟨j, hj, e⟩
          rcases Nat.lt_succ_iff_lt_or_eq.mp hj with hj | rfl
          · exact .inl ⟨j, hj, e⟩
          · exact .inr e.symm
def tLenSetD (K : PySem.W.Frag) (ta : TE) : TE := fun σ H Q => ta σ H fun x H1 => ∃ (l : Addr) (ns : List Int), x = V.ref l ∧ SqL K H1 l (ns.map V.int) ∧ ns.length < 1000 ∧ ∀ u : List Int, u.Nodup → (∀ y, y ∈ u ↔ y ∈ ns) → Q (.int u.length) H1
theorem pe_lenSetD {X : Cx} {a : Expr} {ta : TE} {p p2 q pos : Pos} (calm : X.calm = true) (gL : Gl X "len") (mL : X.mg "len" = none) (gS : Gl X "set") (mS : X.mg "set" = none) (ha : PE X a ta)
    (one : starEach [a] X.env = (false, eval a X.env) :: starEach [] X.env := by rfl) : PE X (.Call (.Name "len" p) [.Call (.Name "set" p2) [a] [] q] [] pos) (tLenSetD X.K ta) := by
  refine ⟨fun pins s σ H Q I h => Call_ (ld_blt I gL mL PySem.boot_len (PyProof.Rows.callWith_builtin1 (PyProof.Rows.args_cons (Call_ (ld_blt I gS mS PyProof.Rows.boot_set (PyProof.Rows.callWith_type1 (PyProof.Rows.args_cons (thn (ha.run pins s σ H _ I h) fun v z ⟨x, H1, J, rx, l, ns, ex, isL, few, res⟩ => PyProof.Rows.args_nil ?_) one) one rfl))) rfl) rfl rfl))⟩
  subst ex
  cases rx
  obtain ⟨its, rel, pl, _⟩ := J.list isL
  have size : its.toArray.size = ns.length := by rw [List.size_toArray, ← rel.length, List.length_map]
  refine call_set_list (J.ok.hd calm) pl.isList (ns := ns) (by simpa using rel.ints) (by unfold scanBound; omega) fun h' tk isS kept => PyProof.Rows.args_nil ?_
  rw [size] at isS
  obtain ⟨nd, mem⟩ := met_nd (fun i => ns.getD i 0) ns.length
  have all : ∀ y, y ∈ firstMet (fun i => ns.getD i 0) ns.length ↔ y ∈ ns := fun y => by
    rw [mem y]
    constructor
    · rintro ⟨j, hj, rfl⟩
      rw [List.getD_eq_getElem?_getD, List.getElem?_eq_getElem hj]
      exact List.getElem_mem hj
    · intro hy
      obtain ⟨j, hj, e⟩ := List.mem_iff_getElem.mp hy
      exact ⟨j, hj, by rw [List.getD_eq_getElem?_getD, List.getElem?_eq_getElem hj]; exact e⟩
  have short : (firstMet (fun i => ns.getD i 0) ns.length).length ≤ ns.length := firstMet_length_le _ _
  obtain ⟨o, es, ep, t, there, exact_, data, _, _, _, fits, count⟩ := isS
  have J2 : Inv X pins σ H1 { z with heap := h', toks := tk } := J.kept fun b o e => kept b o (Heap.lt_size e) e
  exact call_len_set there exact_ data fits (by rw [count] <;> omega) ⟨.int (firstMet (fun i => ns.getD i 0) ns.length).length, H1, J2.tok _, ⟨_, by rw [count]⟩, res _ nd all⟩
end Ek

set_option Elab.async false
set_option linter.all false
set_option maxRecDepth 100000
set_option maxHeartbeats 3200000
/-! [.. for k in d] -/
namespace Lc
open PySem L2 Tx Tg Tm RZ
theorem lc_keys {d : Addr} {o : Obj} {kvs : List (Key × V)} {g : TG} {tt : TT} {te : TE} {vs : List Nat} {σ : L2.St} {H1 : Hp} {D : Addr} {Qd : Hp → Prop} (Pv : Nat → Hp → Prop) (h0 : Pv 0 (upd H1 D (.lst [])))
    (hf : ∀ i H, Pv i H → H d = some (.frz o (.dK kvs))) (hs : ∀ i k v H, kvs[i]? = some (k, v) → Pv i H → g (kV k) (wipe σ vs) H fun σ2 H2 => wipe σ2 vs = wipe σ vs ∧ tt σ2 H2 fun b H3 =>
      if b = true then te σ2 H3 fun y H4 => ∃ acc, H4 D = some (.lst acc) ∧ acc.length < sizeLine ∧ Pv (i + 1) (upd H4 D (.lst (acc ++ [y]))) else Pv (i + 1) H3) (hd : ∀ H, Pv kvs.length H → Qd H) :
    ∃ W : Nat → Nat → Hp → Prop, (∃ m, W 0 m (upd H1 D (.lst []))) ∧ ∀ i m H, W i m H →
      ((Itk d o kvs).stop i H ∧ Qd H) ∨ ((Itk d o kvs).go i H ∧ ∃ Nx : Hp → Prop, (∀ H', Nx H' → ∃ m', m' < m ∧ W (i + 1) m' H') ∧ ∀ x H', (Itk d o kvs).yld i H x H' → g x (wipe σ vs) H' fun σ2 H2 => wipe σ2 vs = wipe σ vs ∧ tt σ2 H2 fun b H3 =>
        if b = true then te σ2 H3 fun y H4 => ∃ acc, H4 D = some (.lst acc) ∧ acc.length < sizeLine ∧ Nx (upd H4 D (.lst (acc ++ [y]))) else Nx H3) := by
  refine ⟨fun i m H => m = kvs.length - i ∧ i ≤ kvs.length ∧ Pv i H, ⟨kvs.length, by simp, Nat.zero_le _, h0⟩, ?_⟩
  rintro i m H ⟨rfl, hi, p⟩
  by_cases hlt : i < kvs.length
  · refine .inr ⟨⟨hf i H p, hlt⟩, Pv (i + 1), fun H' p' => ⟨kvs.length - (i + 1), by omega, rfl, hlt, p'⟩, fun x H' y => ?_⟩
    obtain ⟨rfl, k, v, e, rfl⟩ := y
    exact hs i k v _ e p
  · have e : i = kvs.length := by omega
    subst e
    exact .inl ⟨⟨hf _ H p, Nat.le_refl _⟩, hd H p⟩
/-- a value for each key -/
theorem lcKS {d : Addr} {o : Obj} {kvs : List (Key × V)} {j : Nat} {te : TE} {σ : L2.St} {H1 : Hp} {D : Addr} {Qd : Hp → Prop} {ys : List V} (ed : H1 d = some (.frz o (.dK kvs))) (nD : H1 D = none) (hl : kvs.length = ys.length) (hz : kvs.length < sizeLine)
    (hw : ∀ v, wipe ((wipe σ [j]).set j (some v)) [j] = wipe σ [j])
    (hs : ∀ (i : Nat) (k : Key) (v y : V) (H2 : Hp), kvs[i]? = some (k, v) → ys[i]? = some y → Same H1 H2 → ∀ Q : VK, (∀ H3, Same H2 H3 → Q y H3) → te ((wipe σ [j]).set j (some (kV k))) H2 Q) (hd : ∀ H2, Same H1 H2 → H2 D = some (.lst ys) → Qd H2) :
    ∃ W : Nat → Nat → Hp → Prop, (∃ m, W 0 m (upd H1 D (.lst []))) ∧ ∀ i m H, W i m H →
      ((Itk d o kvs).stop i H ∧ Qd H) ∨ ((Itk d o kvs).go i H ∧ ∃ Nx : Hp → Prop, (∀ H', Nx H' → ∃ m', m' < m ∧ W (i + 1) m' H') ∧ ∀ x H', (Itk d o kvs).yld i H x H' → gName j x (wipe σ [j]) H' fun σ2 H2 => wipe σ2 [j] = wipe σ [j] ∧ tYes σ2 H2 fun b H3 =>
        if b = true then te σ2 H3 fun y H4 => ∃ acc, H4 D = some (.lst acc) ∧ acc.length < sizeLine ∧ Nx (upd H4 D (.lst (acc ++ [y]))) else Nx H3) := by
  refine lc_keys (fun i H2 => Same H1 H2 ∧ H2 D = some (.lst (ys.take i))) ⟨same_upd nD, upd_same⟩ (fun i H2 z => z.1 _ _ ed) ?_ ?_
  · rintro i k v H2 hk ⟨s2, e2⟩
    have hi := (List.getElem?_eq_some_iff.mp hk).1
    have hy := List.getElem?_eq_getElem (l := ys) (i := i) (by omega)
    refine ⟨hw _, iteT (B := False) ?_⟩
    refine hs i k v _ H2 hk hy s2 _ fun H3 s3 => ⟨_, s3 _ _ e2, ?_, same_put (s2.trans s3) nD, ?_⟩
    · rw [List.length_take]
      omega
    · rw [upd_same, List.take_add_one, hy]
      rfl
  · rintro H2 ⟨s2, e2⟩
    rw [hl, List.take_of_length_le (Nat.le_refl _)] at e2
    exact hd H2 s2 e2
/-- [f(x) for x in l], a new tuple (or what lies on tuples) for each item -/
theorem lcLR {K : PySem.W.Frag} {α : Type} {R : Hp → Addr → α → Prop} (hR : ∀ H H' p x, KT H H' → R H p x → R H' p x) {a : Addr} {xs : List V} {ys : List α} {j : Nat} {te : TE} {σ : L2.St} {H1 : Hp} {D : Addr} {Qd : Hp → Prop} (ha : SqL K H1 a xs) (hsl : ∀ H2, Same H1 H2 → SqL K H2 a xs) (nD : H1 D = none) (hl : xs.length = ys.length) (hz : xs.length < sizeLine) (hw : ∀ v, wipe ((wipe σ [j]).set j (some v)) [j] = wipe σ [j])
    (hs : ∀ (i : Nat) (x : V) (y : α) (H2 : Hp), xs[i]? = some x → ys[i]? = some y → Same H1 H2 → ∀ Q : VK, (∀ b H3, Same H2 H3 → R H3 b y → Q (.ref b) H3) → te ((wipe σ [j]).set j (some x)) H2 Q) (hd : ∀ H2 ps, Same H1 H2 → H2 D = some (.lst (ps.map V.ref)) → PySem.W.EachIs (R H2) ps ys → Qd H2) :
    ∃ W : Nat → Nat → Hp → Prop, (∃ m, W 0 m (upd H1 D (.lst []))) ∧ ∀ i m H, W i m H →
      ((Itl K a).stop i H ∧ Qd H) ∨ ((Itl K a).go i H ∧ ∃ Nx : Hp → Prop, (∀ H', Nx H' → ∃ m', m' < m ∧ W (i + 1) m' H') ∧ ∀ x H', (Itl K a).yld i H x H' → gName j x (wipe σ [j]) H' fun σ2 H2 => wipe σ2 [j] = wipe σ [j] ∧ tYes σ2 H2 fun b H3 =>
        if b = true then te σ2 H3 fun y H4 => ∃ acc, H4 D = some (.lst acc) ∧ acc.length < sizeLine ∧ Nx (upd H4 D (.lst (acc ++ [y]))) else Nx H3) := by
  refine lc_list (xs := xs) (fun i H2 => ∃ ps : List Addr, Same H1 H2 ∧ H2 D = some (.lst (ps.map V.ref)) ∧ PySem.W.EachIs (R H2) ps (ys.take i)) ⟨[], same_upd nD, upd_same, .nil⟩ (fun i H2 _ z => by obtain ⟨_, s, _⟩ := z; exact hsl _ s) ?_ ?_
  · rintro i x H2 hx ⟨ps, s2, e2, r2⟩
    have hi := (List.getElem?_eq_some_iff.mp hx).1
    have hy := List.getElem?_eq_getElem (l := ys) (i := i) (by omega)
    refine ⟨hw _, iteT (B := False) ?_⟩
    refine hs i x _ H2 hx hy s2 _ fun b H3 s3 hb => ⟨_, s3 _ _ e2, ?_, ps ++ [b], same_put (s2.trans s3) nD, ?_, ?_⟩
    · rw [List.length_map, r2.length, List.length_take]
      exact Nat.lt_of_le_of_lt (Nat.min_le_left _ _) (by omega)
    · rw [upd_same, List.map_append]
      rfl
    · have k : KT H2 (upd H3 D (.lst (ps.map V.ref ++ [V.ref b]))) := fun q xs e => by
        rw [upd_ne (fun z => by rw [z, e2] at e; cases e)]
        exact s3 _ _ e
      have k3 : KT H3 (upd H3 D (.lst (ps.map V.ref ++ [V.ref b]))) := fun q xs e => by
        rw [upd_ne (fun z => by rw [z, s3 _ _ e2] at e; cases e)]
        exact e
      rw [List.take_add_one, hy]
      exact each_app (PySem.W.EachIs.mono (fun _ _ h => hR _ _ _ _ k h) r2) (.cons (hR _ _ _ _ k3 hb) .nil)
  · rintro H2 ⟨ps, s2, e2, r2⟩
    rw [hl, List.take_of_length_le (Nat.le_refl _)] at r2
    exact hd H2 ps s2 e2 r2
end Lc

set_option Elab.async false
set_option linter.all false
set_option maxRecDepth 100000
set_option maxHeartbeats 3200000
/-! [f(v) for v in d.values()], d locked -/
namespace Lc
open PySem L2 Tx Tg Tm RZ
theorem lcVS {d : Addr} {o : Obj} {kvs : List (Key × V)} {j : Nat} {te : TE} {σ : L2.St} {H1 : Hp} {D : Addr} {Qd : Hp → Prop} {ys : List V} (ed : H1 d = some (.frz o (.dK kvs))) (nD : H1 D = none) (len : kvs.length = ys.length) (few : kvs.length < sizeLine)
    (hw : ∀ v, wipe ((wipe σ [j]).set j (some v)) [j] = wipe σ [j])
    (step : ∀ (i : Nat) (k : Key) (v y : V) (H2 : Hp), kvs[i]? = some (k, v) → ys[i]? = some y → Same H1 H2 → ∀ Q : VK, (∀ H3, Same H2 H3 → Q y H3) → te ((wipe σ [j]).set j (some v)) H2 Q) (done : ∀ H2, Same H1 H2 → H2 D = some (.lst ys) → Qd H2) :
    ∃ W : Nat → Nat → Hp → Prop, (∃ m, W 0 m (upd H1 D (.lst []))) ∧ ∀ i m H, W i m H →
      ((Itd d o kvs).stop i H ∧ Qd H) ∨ ((Itd d o kvs).go i H ∧ ∃ B : Hp → Prop, (∀ H', B H' → ∃ m', m' < m ∧ W (i + 1) m' H') ∧ ∀ x H', (Itd d o kvs).yld i H x H' → gName j x (wipe σ [j]) H' fun σ2 H2 => wipe σ2 [j] = wipe σ [j] ∧ tYes σ2 H2 fun b H3 =>
        if b = true then te σ2 H3 fun y H4 => ∃ acc, H4 D = some (.lst acc) ∧ acc.length < sizeLine ∧ B (upd H4 D (.lst (acc ++ [y]))) else B H3) := by
  refine ⟨fun i m H => m = kvs.length - i ∧ i ≤ kvs.length ∧ Same H1 H ∧ H D = some (.lst (ys.take i)), ⟨_, rfl, Nat.zero_le _, same_upd nD, upd_same⟩, ?_⟩
  rintro i m H ⟨rfl, le, s2, e2⟩
  rcases Nat.lt_or_eq_of_le le with lt | rfl
  · have hy := List.getElem?_eq_getElem (l := ys) (i := i) (by omega)
    refine .inr ⟨⟨s2 _ _ ed, lt⟩, fun H' => Same H1 H' ∧ H' D = some (.lst (ys.take (i + 1))), fun H' p => ⟨kvs.length - (i + 1), by omega, rfl, lt, p⟩, fun x H' y => ?_⟩
    obtain ⟨rfl, k, hk⟩ := y
    refine ⟨hw _, iteT (B := False) (step i k x _ _ hk hy s2 _ fun H3 s3 => ⟨_, s3 _ _ e2, ?_, same_put (s2.trans s3) nD, ?_⟩)⟩
    · rw [List.length_take]
      omega
    · rw [upd_same, List.take_add_one, hy]
      rfl
  · refine .inl ⟨⟨s2 _ _ ed, Nat.le_refl _⟩, done H s2 ?_⟩
    rwa [len, List.take_of_length_le (Nat.le_refl _)] at e2
/-- [f(k, v) for k, v in d.items() if ..], d locked -/
theorem lc_items {d : Addr} {o : Obj} {kvs : List (Key × V)} {g : TG} {tt : TT} {te : TE} {vs : List Nat} {σ : L2.St} {H1 : Hp} {D : Addr} {Qd : Hp → Prop} (Pv : Nat → Hp → Prop) (start : Pv 0 (upd H1 D (.lst []))) (lock : ∀ i H, Pv i H → H d = some (.frz o (.dK kvs)))
    (step : ∀ i k v T H, kvs[i]? = some (k, v) → Pv i H → H T = none → g (.ref T) (wipe σ vs) (upd H T (.tup [kV k, v])) fun σ2 H2 => wipe σ2 vs = wipe σ vs ∧ tt σ2 H2 fun b H3 =>
      if b = true then te σ2 H3 fun y H4 => ∃ acc, H4 D = some (.lst acc) ∧ acc.length < sizeLine ∧ Pv (i + 1) (upd H4 D (.lst (acc ++ [y]))) else Pv (i + 1) H3) (done : ∀ H, Pv kvs.length H → Qd H) :
    ∃ W : Nat → Nat → Hp → Prop, (∃ m, W 0 m (upd H1 D (.lst []))) ∧ ∀ i m H, W i m H →
      ((Iti d o kvs).stop i H ∧ Qd H) ∨ ((Iti d o kvs).go i H ∧ ∃ B : Hp → Prop, (∀ H', B H' → ∃ m', m' < m ∧ W (i + 1) m' H') ∧ ∀ x H', (Iti d o kvs).yld i H x H' → g x (wipe σ vs) H' fun σ2 H2 => wipe σ2 vs = wipe σ vs ∧ tt σ2 H2 fun b H3 =>
        if b = true then te σ2 H3 fun y H4 => ∃ acc, H4 D = some (.lst acc) ∧ acc.length < sizeLine ∧ B (upd H4 D (.lst (acc ++ [y]))) else B H3) := by
  refine ⟨fun i m H => m = kvs.length - i ∧ i ≤ kvs.length ∧ Pv i H, ⟨_, rfl, Nat.zero_le _, start⟩, ?_⟩
  rintro i m H ⟨rfl, le, p⟩
  rcases Nat.lt_or_eq_of_le le with lt | rfl
  · refine .inr ⟨⟨lock i H p, lt⟩, Pv (i + 1), fun H' p' => ⟨kvs.length - (i + 1), by omega, rfl, lt, p'⟩, fun x H' y => ?_⟩
    obtain ⟨T, k, v, hk, rfl, fresh, rfl⟩ := y
    exact step i k v T H hk p fresh
  · exact .inl ⟨⟨lock _ H p, Nat.le_refl _⟩, done H p⟩
end Lc

set_option Elab.async false
set_option linter.all false
set_option maxRecDepth 100000
set_option maxHeartbeats 12800000
namespace K24
open PySem L2 Tx Tg Tm Da RZ Ek
/-! ### the kinds of states -/
abbrev sKinds : Stmt := top 43
abbrev nKinds : List Str := ["reader", "states", "kinds", "many", "rows", "number", "state", "row"]
theorem scKinds : FnScope nKinds ["reader"] (defScope sKinds) := ⟨rfl, rfl, rfl, by decide +kernel, rfl, by decide +kernel, by decide +kernel⟩
def mk (ks : List Nat) : Nat → Nat := fun s => ks.getD s 0
section
variable {P : Program} {w : World} {K : PySem.W.Frag} {mg : Str → Option Value} {base : Heap} {CC : Addr}
/-- moves: a new dict -/
def spMovN (CC : Addr) : Sp := fun vs H Q _ => ∃ (p : Addr) (r : Rdr), vs = [.ref p] ∧ RdAt CC H p r ∧ ∀ d H' kvs, H d = none → Same H H' → H' d = some (.dK kvs) → WsAt H' kvs r.W → Q (.ref d) H'
theorem ok_movN {f : Addr} {fd : FuncData} (F : Fun K "moves" "Reader.moves" sMov f fd) (T : Txt K mg) (W0 : WR K mg CC) : FnOk P w K mg base CX0 1 f fd ["self"] (spMovN CC) := by
  refine F.ok scMov (fun vs H Q E h => ?_) (fun cdv A outer s H vs Q E hr h => ?_)
  · obtain ⟨p, r, rfl, _⟩ := h
    rfl
  · obtain ⟨p, r, rfl, ⟨dx, d, g, hp, ⟨kvs, ed, hw⟩, _⟩, q⟩ := h
    refine ⟨_, (pss_one (ps_ret (pe_callTy call_dictD (by rfl) T.dict (by decide +kernel) (pa_cons (pe_fld (pv 0) rfl) pa_nil)))), ?_⟩
    exact ⟨_, rfl, p, CC, dx, _, _, rfl, hp, W0.cl, W0.nM, rfl, d, kvs, rfl, .inl ed, fun d' nd => q d' _ kvs nd (same_upd nd) upd_same (hw.keep (.same (same_upd nd)))⟩
theorem cnt_ints {ks : List Nat} {u : List Int} (nd : u.Nodup) (mem : ∀ y, y ∈ u ↔ y ∈ ks.map fun (k : Nat) => (k : Int)) : Au.Cnt ks u.length := by
  have back : ∀ y ∈ u, ((y.toNat : Nat) : Int) = y := fun y hy => by
    obtain ⟨k, _, rfl⟩ := List.mem_map.mp ((mem y).mp hy)
    rfl
  refine ⟨u.map Int.toNat, ?_, fun x => ?_, List.length_map _⟩
  · rw [List.nodup_iff_pairwise_ne] at nd ⊢
    refine List.pairwise_map.mpr (List.Pairwise.imp_of_mem (fun {a b} ha hb ne e => ne ?_) nd)
    rw [← back a ha, ← back b hb, e]
  · constructor
    · intro hx
      obtain ⟨y, hy, rfl⟩ := List.mem_map.mp hx
      obtain ⟨k, hk, rfl⟩ := List.mem_map.mp ((mem y).mp hy)
      exact hk
    · intro hx
      exact List.mem_map.mpr ⟨(x : Int), (mem _).mpr (List.mem_map.mpr ⟨x, hx, rfl⟩), rfl⟩
theorem mk_range {ks : List Nat} {n : Nat} (h : ks.length = n) : (List.range n).map (mk ks) = ks := by
  refine List.ext_getElem (by simp [h]) fun i a b => ?_
  simp only [List.getElem_map, List.getElem_range, mk]
  rw [List.getD_eq_getElem?_getD, List.getElem?_eq_getElem b]
  rfl
theorem nodupLe {α : Type} [DecidableEq α] : ∀ {l r : List α}, l.Nodup → (∀ x ∈ l, x ∈ r) → l.length ≤ r.length
  | [], _, _, _ => Nat.zero_le _
  | a :: l, r, hn, hs => by
    have ha := hs a List.mem_cons_self
    have hn' := List.nodup_cons.mp hn
    have := nodupLe (l := l) (r := r.erase a) hn'.2 fun x hx => (List.mem_erase_of_ne (show x ≠ a from fun e => hn'.1 (e ▸ hx))).mpr (hs x (List.mem_cons_of_mem _ hx))
    rw [List.length_erase_of_mem ha] at this
    have := List.length_pos_of_mem ha
    simp only [List.length_cons]
    omega
/-- a state's row -/
def rowK (r : Rdr) (ks : List Nat) (s : Nat) : List Nat := mk ks s :: (cds r.sg).map fun c => mk ks (step r.W s c)
theorem rowK_eq {r : Rdr} {ks : List Nat} {s t : Nat} : rowK r ks s = rowK r ks t ↔ mk ks s = mk ks t ∧ ∀ c ∈ cds r.sg, mk ks (step r.W s c) = mk ks (step r.W t c) := by
  unfold rowK
  rw [List.cons.injEq, List.map_inj_left]
def spKinds (CC : Addr) : Sp := fun vs H Q _ => ∃ (p : Addr) (r : Rdr), vs = [.ref p] ∧ RdAt CC H p r ∧ ∀ L H' ks, Same H H' → H' L = some (.lst (natsV ks)) → ks.length = r.n → (∀ x ∈ ks, x < 62) → Au.Ner (cds r.sg) (aut r) (mk ks) → Q (.ref L) H'
theorem ok_kinds {f fN : Addr} {fd dN : FuncData} (F : Fun K "kinds_of_states" "kinds_of_states" sKinds f fd) (T : Txt K mg) (C : Cl P w K mg base CC) (DN : Df K mg "numbered" sNum ["states"] fN dN) (hE : mg "enumerate" = none) (GMoN : FnOk P w K mg base CX0 1 C.fMo C.dMo ["self"] (spMovN CC)) : FnOk P w K mg base CX0 3 f fd ["reader"] (spKinds CC) := by
  have GN := ok_numT (P := P) (w := w) (base := base) DN.F hE
  refine F.ok scKinds (fun vs H Q E h => ?_) (fun cdv A outer s0 H vs Q E hr h => ?_)
  · obtain ⟨p, r, rfl, _⟩ := h
    rfl
  · obtain ⟨p, r, rfl, hp, q⟩ := h
    have hu := hu_of hr
    refine ⟨_, (pss_cons (ps_set (i := 1) scKinds.nd rfl (Or.inl rfl) (pe_callTy cr_range1V (by rfl) T.range (by decide +kernel) (pa_cons (pe_callB (Ow.len_own C.gLn (hr.mono (by decide)) C.sLn C.fnLn C.bLn pass0) (by rfl) T.len PySem.boot_len (pa_cons (pv 0) pa_nil)) pa_nil)))
    (pss_cons (ps_set (i := 2) scKinds.nd rfl (Or.inr rfl) (pe_lc (own := [("state", 6)]) (g := (gName 6)) (tt := tYes) (te := tIf (tTest (tOp (rIn K false) (tVar 6) (tProp CC (spYesP CC) [] E0 (tVar 0)))) (tC (.int 1)) (tC (.int 0))) rfl scKinds.nd (pi_rngV (pv 1)) (blkOk_by (own := [("state", 6)]) (N := nKinds) (sc := defScope sKinds) (by decide +kernel)) (fun _ _ _ _ _ => (pg_name (i := 6) scKinds.nd rfl (by first | exact Or.inl rfl | exact Or.inr rfl))) (fun _ _ _ _ _ => pts_nil) (fun _ _ _ _ _ => (pe_ifExp (pt_cmpR op_in_seq (pv 6) (pe_prop (pv 0) C.MK.W.cl C.pYe C.gYe (hr.mono (by decide)) C.bYe .nil pass0 rfl) (by rfl)) pe_int pe_int))))
    (pss_cons (ps_set (i := 3) scKinds.nd rfl (Or.inl rfl) pe_int)
    (pss_cons (ps_while PassesOwn.never (pt_cmpR op_gt (pe_lenSetD rfl (by rfl) T.len (by rfl) T.set (pv 2)) (pv 3) (nomark _))
      (pss_cons (ps_set (i := 3) scKinds.nd rfl (Or.inl rfl) (pe_lenSetD rfl (by rfl) T.len (by rfl) T.set (pv 2)))
      (pss_cons (ps_setLc (i := 4) (own := [("state", 6)]) (g := (gName 6)) (tt := tYes) (te := tOp (rCatA K) (tTup (tCons (tOp (rIxL K) (tVar 2) (tVar 6)) tNil)) (tCB (rTupOf K) (tCons (tLc (iVals (Lc.tLockV (tProp CC (spMovN CC) [] E0 (tVar 0)))) (gName 7) tYes (tOp (rIxL K) (tVar 2) (tOp (rIxT K) (tVar 7) (tVar 6))) [7]) tNil))) (by rfl) scKinds.nd rfl rfl (sw_true rfl rfl rfl (by decide +kernel)) (pi_rngV (pv 1)) (blkOk_by (own := [("state", 6)]) (N := nKinds) (sc := defScope sKinds) (by decide +kernel)) (fun _ _ _ _ _ => (pg_name (i := 6) scKinds.nd rfl (by first | exact Or.inl rfl | exact Or.inr rfl))) (fun _ _ _ _ _ => pts_nil) (fun _ _ _ _ _ => (pe_op op_catA (pe_tup (pa_cons (pe_ix ix_list (pv 2) (pv 6) (fun _ _ => rfl)) pa_nil)) (pe_callTy call_tuple_of (by rfl) T.tuple (by decide +kernel) (pa_cons (pe_lc (own := [("row", 7)]) (g := (gName 7)) (tt := tYes) (te := tOp (rIxL K) (tVar 2) (tOp (rIxT K) (tVar 7) (tVar 6))) rfl scKinds.nd (pi_values (Lc.pe_lockV (pe_prop (pv 0) C.MK.W.cl C.pMo GMoN (hr.mono (by decide)) C.bMo .nil pass0 rfl))) (blkOk_by (own := [("row", 7)]) (N := nKinds) (by rfl)) (fun _ _ _ _ _ => (pg_name (i := 7) scKinds.nd rfl (Or.inl rfl))) (fun _ _ _ _ _ => pts_nil) (fun _ _ _ _ _ => (pe_ix ix_list (pv 2) (pe_ix ix_tup (pv 7) (pv 6) (fun _ _ => rfl)) (fun _ _ => rfl)))) pa_nil)))))
      (pss_cons (ps_set (i := 5) scKinds.nd rfl (Or.inr rfl) (pe_call GN (hr.mono (by decide)) (by rfl) DN.m DN.F.kp DN.b .nil pass0 (pa_cons (pe_callB (cr_sortedT rfl) (by rfl) T.sorted (by decide +kernel) (pa_cons (pe_callTy (cr_setOfT rfl hr.units) (by rfl) T.set (by decide +kernel) (pa_cons (pv 4) pa_nil)) pa_nil)) pa_nil)))
      (pss_one (ps_set (i := 2) scKinds.nd rfl (Or.inr rfl) (pe_lc (own := [("row", 7)]) (g := (gName 7)) (tt := tYes) (te := tDGet (tVar 5) (tVar 7)) rfl scKinds.nd (pi_list (pv 4)) (blkOk_by (own := [("row", 7)]) (N := nKinds) (sc := defScope sKinds) (by decide +kernel)) (fun _ _ _ _ _ => (pg_name (i := 7) scKinds.nd rfl (Or.inl rfl))) (fun _ _ _ _ _ => pts_nil) (fun _ _ _ _ _ => (pe_dget hu (pv 5) (pv 7) (fun _ _ => rfl))))))))))
    (pss_one (ps_ret (pv 2))))))), ?_⟩
    obtain ⟨dx, d, g, hpI, hM, hG, ok⟩ := id hp
    have n1 := ok.W.one
    have n60 := ok.W.most
    have fit := fit_of ok
    refine ⟨_, rfl, p, dx, _, rfl, hpI, p, r, rfl, hp, _, rfl, by omega, by omega, _, rfl, fun Rg nR => ?_⟩
    have s1 := same_upd (o := .rng 0 (r.n : Int)) nR
    have eR : (upd H Rg (.rng 0 (r.n : Int))) Rg = some (.rng 0 (r.n : Int)) := upd_same
    generalize upd H Rg (.rng 0 (r.n : Int)) = H1 at s1 eR ⊢
    dsimp only [gName]
    have tn : ((r.n : Nat) : Int).toNat = r.n := Int.toNat_natCast _
    refine ⟨_, rfl, Rg, (r.n : Int), rfl, eR, by omega, by omega, ?_⟩
    rw [tn]
    let k0 : List Nat := (List.range r.n).map fun s => if s ∈ r.G then 1 else 0
    have k0l : k0.length = r.n := by simp [k0]
    have k0g : ∀ s, s < r.n → mk k0 s = if s ∈ r.G then 1 else 0 := fun s hs => by
      unfold mk
      rw [List.getD_eq_getElem?_getD, List.getElem?_eq_getElem (by omega)]
      simp [k0]
    refine fun L nL => Lc.lcRS nL (ys := natsV k0) (by rw [List.length_map, k0l]) (Nat.lt_of_le_of_lt n60 (by decide)) (fun _ => rfl) (fun i y H2 hi hy s2 Q' q' => ?_) fun H2 s2 e2 => ?_
    · have hp2 := hp.same (s1.trans s2)
      obtain ⟨dx2, d2, g2, hpI2, _, _, _⟩ := id hp2
      refine ⟨_, rfl, _, rfl, p, dx2, _, rfl, hpI2, p, r, rfl, hp2, fun g' hg' => ⟨g', _, rfl, .inr (SqT.of hg'), rfl, ?_, _, rfl, ?_⟩⟩
      · rw [List.all_eq_true]
        exact flat_nats _
      · rw [Int.zero_add, inV_nats]
        have ey : y = .int ((if i ∈ r.G then 1 else 0 : Nat) : Int) := by
          have e : (natsV k0)[i]? = some (.int ((if i ∈ r.G then 1 else 0 : Nat) : Int)) := by
            rw [List.getElem?_map, List.getElem?_eq_getElem (by omega)]
            simp [k0]
          rw [e] at hy
          exact (Option.some.inj hy).symm
        by_cases hG2 : i ∈ r.G
        · rw [if_pos hG2] at ey
          rw [ey] at q'
          rw [decide_eq_true hG2]
          exact q' H2 (Same.refl _)
        · rw [if_neg hG2] at ey
          rw [ey] at q'
          rw [decide_eq_false hG2]
          exact q' H2 (Same.refl _)
    dsimp only [tSeq, gName]
    have mo0 : Au.Mo (cds r.sg) (aut r) (mk k0) := .zero fun s t hs ht => by
      rw [k0g s hs, k0g t ht]
      show _ ↔ decide (s ∈ r.G) = decide (t ∈ r.G)
      by_cases a : s ∈ r.G <;> by_cases b : t ∈ r.G <;> simp [a, b]
    have k0b : ∀ x ∈ k0, x < 62 := fun x hx => by
      obtain ⟨s, _, rfl⟩ := List.mem_map.mp hx
      split <;> decide
    let Lp : Nat → L2.St → Hp → Prop := fun m σ H' => ∃ (ks : List Nat) (Lk : Addr) (many : Nat) (o4 o5 o6 o7 : Option V), m = r.n + 1 - many ∧ σ = [some (.ref p), some (.ref Rg), some (.ref Lk), some (.int (many : Int)), o4, o5, o6, o7] ∧ Same H1 H' ∧ H' Lk = some (.lst (natsV ks)) ∧ ks.length = r.n ∧ (∀ x ∈ ks, x < 62) ∧ Au.Mo (cds r.sg) (aut r) (mk ks) ∧ many ≤ r.n ∧
      (many = 0 ∨ ∃ m0, Au.Mo (cds r.sg) (aut r) m0 ∧ Au.Next (cds r.sg) (aut r) m0 (mk ks) ∧ Au.Cnt ((List.range r.n).map m0) many)
    refine ⟨Lp, ⟨_, k0, L, 0, none, none, none, none, rfl, rfl, s2, e2, k0l, k0b, mo0, Nat.zero_le _, .inl rfl⟩, ?_⟩
    rintro m σ Hk ⟨ks, Lk, many, o4, o5, o6, o7, rfl, rfl, sk, eL, kl, kb, mo, hm, last⟩
    have isL : SqL K Hk Lk ((ks.map fun (k : Nat) => (k : Int)).map V.int) := by
      rw [List.map_map]
      exact SqL.of eL
    refine ⟨_, rfl, Lk, _, rfl, isL, by rw [List.length_map]; omega, fun u und umem => ⟨_, rfl, _, _, rfl, rfl, _, rfl, ?_⟩⟩
    have cu := cnt_ints und umem
    have cn := cu.le
    rw [← mk_range kl] at cu
    dsimp only
    by_cases more : many < u.length
    · rw [if_pos (decide_eq_true (by omega))]
      refine ⟨fun σ' H' => ∃ m', m' < r.n + 1 - many ∧ Lp m' σ' H', fun _ _ h => h, ?_⟩
      refine ⟨_, rfl, Lk, _, rfl, isL, by rw [List.length_map]; omega, fun u2 und2 umem2 => ?_⟩
      have cu2 := cnt_ints und2 umem2
      rw [← mk_range kl] at cu2
      have eu : u2.length = u.length := cu2.uniq cu
      rw [eu]
      dsimp only [tSeq, gName]
      let rows : List (List Nat) := (List.range r.n).map (rowK r ks)
      have rl : rows.length = r.n := by simp [rows]
      have ri : ∀ s, s < r.n → rows[s]? = some (rowK r ks s) := fun s hs => by
        rw [List.getElem?_map, List.getElem?_range hs]
        rfl
      have hks : ∀ (H2 : Hp), Same Hk H2 → ∀ s, s < r.n → (natsV ks)[s]? = some (.int (mk ks s : Int)) := fun H2 _ s hs => by
        rw [List.getElem?_map, List.getElem?_eq_getElem (by omega)]
        show some (V.int _) = some (V.int ((ks.getD s 0 : Nat) : Int))
        rw [List.getD_eq_getElem?_getD, List.getElem?_eq_getElem (by omega)]
        rfl
      have hc0 : (cds r.sg).length ≤ 3 := by rw [cds_len]; exact (sg_len ok.sg).2
      have hc1 : 1 ≤ (cds r.sg).length := by rw [cds_len]; exact (sg_len ok.sg).1
      refine ⟨_, rfl, Rg, (r.n : Int), rfl, sk _ _ eR, by omega, by omega, ?_⟩
      rw [tn]
      refine fun D nD => Lc.lcRR (R := fun H' b (y : List Nat) => RowAt H' b y) (fun H' H'' b y k h => k _ _ h) nD (ys := rows) rl.symm (Nat.lt_of_le_of_lt n60 (by decide)) (fun _ => rfl) (fun s y H2 hs hy s2 Q' q' => ?_) fun H2 ps s2 e2 each => ?_
      · rw [ri s hs] at hy
        obtain rfl := Option.some.inj hy
        rw [Int.zero_add]
        refine ⟨_, rfl, _, rfl, Lk, _, _, _, rfl, rfl, SqL.of (s2 _ _ eL), atI_nat (hks H2 s2 s hs), by show 1 ≤ sizeLine; decide, fun T1 nT1 => ?_⟩
        have s3 := same_upd (o := .tup [V.int (mk ks s : Int)]) nT1
        have eT1 : (upd H2 T1 (.tup [V.int (mk ks s : Int)])) T1 = some (.tup [V.int (mk ks s : Int)]) := upd_same
        generalize upd H2 T1 (.tup [V.int (mk ks s : Int)]) = H3 at s3 eT1 ⊢
        have hp3 := hp.same (((s1.trans sk).trans s2).trans s3)
        obtain ⟨dx3, d3, g3, hpI3, _, _, _⟩ := id hp3
        refine ⟨_, rfl, p, dx3, _, rfl, hpI3, p, r, rfl, hp3, fun d' H4 kvs nd' s4 ed' hw' => ⟨d', .dK kvs, rfl, ed', trivial, fun od => ⟨d', od, kvs, rfl, upd_same, fun D2 nD2 => ?_⟩⟩⟩
        have kW : kvs.length = (cds r.sg).length := by rw [ways_len hw', ← ok.ord, List.length_map]
        have s45 : Same H3 (upd H4 d' (.frz od (.dK kvs))) := same_put s4 nd'
        refine Lc.lcVS upd_same nD2 (ys := natsV ((cds r.sg).map fun c => mk ks (step r.W s c))) (by rw [List.length_map, List.length_map, kW]) (Nat.lt_of_le_of_lt (by omega : kvs.length ≤ 3) (by decide)) (fun _ => rfl) (fun i key v y2 H5 hkv hy2 s5 Q2 q2 => ?_) fun H6 s6 e6 => ?_
        · have ilt : i < kvs.length := (List.getElem?_eq_some_iff.mp hkv).1
          obtain ⟨c, hc⟩ : ∃ c, (cds r.sg)[i]? = some c := ⟨_, List.getElem?_eq_getElem (by omega)⟩
          have hWi : r.W[i]? = some (r.W[i]'(by rw [← ways_len hw']; exact ilt)) := List.getElem?_eq_getElem _
          obtain ⟨p0, ekv, row0⟩ : WayAt H4 (key, v) (r.W[i]'(by rw [← ways_len hw']; exact ilt)) := Lc.each_atP hw' hkv hWi
          have ec : (r.W[i]'(by rw [← ways_len hw']; exact ilt)).1 = c := by
            have : (r.W.map (·.1))[i]? = some (r.W[i]'(by rw [← ways_len hw']; exact ilt)).1 := by rw [List.getElem?_map, hWi]; rfl
            rw [ok.ord, hc] at this
            exact (Option.some.inj this).symm
          obtain ⟨rfl, rfl⟩ := Prod.mk.inj ekv
          have wm := List.mem_of_getElem? hWi
          generalize r.W[i]'(by rw [← ways_len hw']; exact ilt) = wy at row0 ec wm
          obtain ⟨c', l⟩ := wy
          subst ec
          obtain ⟨ll, lb⟩ := ok.W.rows _ wm
          have er : row r.W c' = l := row_eq (ok.W.nodup ok.sg) wm
          have sl : s < l.length := by rw [ll]; exact hs
          have st : step r.W s c' = l[s] := by
            unfold step
            rw [er, List.getD_eq_getElem?_getD, List.getElem?_eq_getElem sl]
            rfl
          have row5 : RowAt H5 p0 l := s5 _ _ (by rw [upd_ne (fun z => by unfold RowAt at row0; rw [z, ed'] at row0; cases row0)]; exact row0)
          have eL5 : H5 Lk = some (.lst (natsV ks)) := s5 _ _ (s45 _ _ (s3 _ _ (s2 _ _ eL)))
          have lt2 : step r.W s c' < r.n := by rw [st]; exact lb _ (List.getElem_mem sl)
          have ey : y2 = .int (mk ks (step r.W s c') : Int) := by
            have e : (natsV ((cds r.sg).map fun c => mk ks (step r.W s c)))[i]? = some (.int (mk ks (step r.W s c') : Int)) := by
              rw [List.getElem?_map, List.getElem?_map, hc]
              rfl
            rw [e] at hy2
            exact (Option.some.inj hy2).symm
          rw [ey] at q2
          refine ⟨_, rfl, _, rfl, _, rfl, p0, _, _, _, rfl, rfl, SqT.of row5, atI_nat (natsV_at sl), Lk, _, _, _, rfl, rfl, SqL.of eL5, atI_nat (j := l[s]) ?_, q2 H5 (Same.refl _)⟩
          rw [← st]
          exact hks H5 (((s2.trans s3).trans s45).trans s5) _ lt2
        · refine ⟨D2, _, rfl, .inl ⟨SqL.of e6, fun T2 nT2 => ?_⟩⟩
          have s7 := same_upd (o := .tup (natsV ((cds r.sg).map fun c => mk ks (step r.W s c)))) nT2
          refine ⟨T1, T2, _, _, rfl, rfl, SqT.of (s7 _ _ (s6 _ _ (s45 _ _ eT1))), SqT.of upd_same, ?_, (fun z => nomatch z), (fun _ z => ?_), fun _ _ b nb => q' b _ ((((s3.trans s45).trans s6).trans s7).trans (same_upd nb)) upd_same⟩
          · rw [List.length_map, List.length_map]
            exact Nat.le_trans (show 1 + (cds r.sg).length ≤ 4 by omega) (by decide)
          · have := congrArg List.length z
            rw [List.length_map, List.length_map] at this
            have this : (cds r.sg).length = 0 := this
            omega
      · dsimp only [gName]
        have lps : ps.length = r.n := by rw [each.length, rl]
        let iz : List (List Int) := rows.map fun l => l.map fun (k : Nat) => (k : Int)
        have izl : iz.length = r.n := by simp [iz, rl]
        let zs : List (Addr × List Int) := ps.zip iz
        have zl : zs.map (fun p => V.ref p.1) = ps.map V.ref := by
          have e : zs.map (fun p => V.ref p.1) = (zs.map Prod.fst).map V.ref := by
            rw [List.map_map]
            rfl
          rw [e, List.map_fst_zip (by omega)]
        have zlen : zs.length = r.n := by
          rw [List.length_zip, lps, izl, Nat.min_self]
        -- what stands at a place
        have zat : ∀ q ∈ zs, ∃ s, s < r.n ∧ q.2 = (rowK r ks s).map (fun (k : Nat) => (k : Int)) ∧ RowAt H2 q.1 (rowK r ks s) ∧ ps[s]? = some q.1 := fun q hq => by
          obtain ⟨s, hs, e⟩ := List.mem_iff_getElem.mp hq
          have hs2 : s < r.n := by rw [← zlen]; exact hs
          have e1 : ps[s]? = some q.1 := by
            rw [← e, List.getElem_zip, List.getElem?_eq_getElem (by omega)]
          have e2' : q.2 = (rowK r ks s).map (fun (k : Nat) => (k : Int)) := by
            rw [← e, List.getElem_zip]
            simp [iz, rows]
          exact ⟨s, hs2, e2', Lc.each_atP each e1 (ri s hs2), e1⟩
        have zhas : ∀ s, s < r.n → ∃ q ∈ zs, q.2 = (rowK r ks s).map (fun (k : Nat) => (k : Int)) := fun s hs => by
          refine ⟨zs[s]'(by rw [zlen]; exact hs), List.getElem_mem _, ?_⟩
          rw [List.getElem_zip]
          simp [iz, rows]
        have sqRow : ∀ {H' : Hp}, Same H2 H' → ∀ q ∈ zs, SqT K H' q.1 (q.2.map V.int) := fun {H'} s' q hq => by
          obtain ⟨s, _, e, ra, _⟩ := zat q hq
          rw [e, List.map_map]
          exact SqT.of (s' _ _ ra)
        have mkb : ∀ s, mk ks s < 62 := fun s => by
          unfold mk
          rw [List.getD_eq_getElem?_getD]
          cases q : ks[s]? with
          | none => decide
          | some x => exact kb x (List.mem_of_getElem? q)
        have toN : ∀ l : List Nat, (l.map fun (k : Nat) => (k : Int)).map Int.toNat = l := fun l => by
          rw [List.map_map]
          exact List.map_id' l
        refine ⟨_, rfl, D, zs, rfl, ?_, fun q hq => sqRow (Same.refl _) q hq, by omega, fun a L' na sub all => ?_⟩
        · rw [zl]
          exact SqL.of e2
        have s3 := same_upd (o := SetTO P w a L') na
        refine ⟨a, L', (cds r.sg).length + 1, 64, rfl, upd_same, fun q hq => sqRow s3 q (sub q hq), by omega, fun q hq => ?_, fun L'' pS perm nd2 few2 _ npS => ?_⟩
        · obtain ⟨s, _, e, _⟩ := zat q (sub q hq)
          rw [e]
          refine ⟨by simp [rowK], fun m hm => ?_⟩
          obtain ⟨k, hk, rfl⟩ := List.mem_map.mp hm
          have : k < 62 := by
            rcases List.mem_cons.mp hk with rfl | hk
            · exact mkb s
            · obtain ⟨c, _, rfl⟩ := List.mem_map.mp hk
              exact mkb _
          omega
        let H3 : Hp := upd (upd H2 a (SetTO P w a L')) pS (.lst (L''.map fun q => V.ref q.1))
        have s4 : Same H2 H3 := s3.trans (same_upd npS)
        have ePS : H3 pS = some (.lst (L''.map fun q => V.ref q.1)) := upd_same
        have subz : ∀ q ∈ L'', q ∈ zs := fun q hq => sub q (perm.mem_iff.mp hq)
        let ts : List (List Nat) := L''.map fun q => q.2.map Int.toNat
        have tups : Sr.Tups H3 (L''.map (·.1)) ts := by
          have go : ∀ M : List (Addr × List Int), (∀ q ∈ M, q ∈ zs) → Sr.Tups H3 (M.map (·.1)) (M.map fun q => q.2.map Int.toNat) := fun M => by
            induction M with
            | nil => exact fun _ => .nil
            | cons q M ih =>
              intro hM
              obtain ⟨s, _, e, ra, _⟩ := zat q (hM q List.mem_cons_self)
              refine .cons ?_ (ih fun q hq => hM q (List.mem_cons_of_mem _ hq))
              show H3 q.1 = some (.tup (Sr.nats (q.2.map Int.toNat)))
              rw [e, toN]
              exact s4 _ _ ra
          exact go L'' subz
        have tnd : ts.Nodup := by
          have := nd2
          rw [List.nodup_iff_pairwise_ne, List.pairwise_map] at this
          rw [List.nodup_iff_pairwise_ne]
          refine List.pairwise_map.mpr (List.Pairwise.imp_of_mem (fun {q q'} hq hq' ne z => ne ?_) this)
          obtain ⟨s, _, e, _⟩ := zat q (subz q hq)
          obtain ⟨s', _, e', _⟩ := zat q' (subz q' hq')
          rw [e, e', toN, toN] at z
          rw [e, e', z]
        have thas : ∀ s, s < r.n → rowK r ks s ∈ ts := fun s hs => by
          obtain ⟨q, hq, e⟩ := zhas s hs
          obtain ⟨q', hq', e'⟩ := List.mem_map.mp (all q hq)
          refine List.mem_map.mpr ⟨q', perm.mem_iff.mpr hq', ?_⟩
          rw [e', e, toN]
        have tlen : ts.length < 62 + 1 := by
          have : ts.length = L''.length := List.length_map _
          have h60 : L''.length ≤ zs.length := by
            have h1 : (L''.map (·.2)).Nodup := nd2
            have h2 := nodupLe h1 (fun y hy => by
              obtain ⟨q, hq, rfl⟩ := List.mem_map.mp hy
              exact List.mem_map_of_mem (f := Prod.snd) (subz q hq))
            rw [List.length_map, List.length_map] at h2
            exact h2
          omega
        have tlen60 : ts.length ≤ 60 := by
          have : ts.length = L''.length := List.length_map _
          have h60 : L''.length ≤ zs.length := by
            have h1 : (L''.map (·.2)).Nodup := nd2
            have h2 := nodupLe h1 (fun y hy => by
              obtain ⟨q, hq, rfl⟩ := List.mem_map.mp hy
              exact List.mem_map_of_mem (f := Prod.snd) (subz q hq))
            rw [List.length_map, List.length_map] at h2
            exact h2
          omega
        refine ⟨pS, List.map (fun (q : Addr × List Int) => q.1) L'', ts, rfl, ?_, tups, tnd, by omega, fun Dn H4 _ s5 eDn => ?_⟩
        · rw [List.map_map]
          exact SqL.of ePS
        let ks' : List Nat := rows.map fun t => ts.idxOf t
        have k'l : ks'.length = r.n := by simp [ks', rl]
        have k'g : ∀ s, s < r.n → mk ks' s = ts.idxOf (rowK r ks s) := fun s hs => by
          unfold mk
          rw [List.getD_eq_getElem?_getD, List.getElem?_map, ri s hs]
          rfl
        dsimp only [gName]
        have s24 := s4.trans s5
        refine ⟨_, rfl, D, rfl, ⟨_, SqL.of (s24 _ _ e2)⟩, fun D3 nD3 => Lc.lcLS (SqL.of (s24 _ _ e2)) (fun H5 s' => SqL.of (s' _ _ (s24 _ _ e2))) nD3 (ys := natsV ks') (by rw [List.length_map, List.length_map, lps, k'l]) (by rw [List.length_map, lps]; exact Nat.lt_of_le_of_lt n60 (by decide)) (fun _ => rfl) (fun s x y H5 hx hy s6 Q' q' => ?_) fun H5 s6 e5 => ?_⟩
        · have hs : s < r.n := by
            have := (List.getElem?_eq_some_iff.mp hx).1
            rwa [List.length_map, lps] at this
          have ex : x = .ref (ps[s]'(by omega)) := by
            rw [List.getElem?_map, List.getElem?_eq_getElem (by omega)] at hx
            exact (Option.some.inj hx).symm
          subst ex
          have ra : RowAt H5 (ps[s]'(by omega)) (rowK r ks s) := s6 _ _ (s24 _ _ (Lc.each_atP each (List.getElem?_eq_getElem (by omega)) (ri s hs)))
          have ey : y = .int (ts.idxOf (rowK r ks s) : Nat) := by
            have e : (natsV ks')[s]? = some (.int (ts.idxOf (rowK r ks s) : Nat)) := by
              rw [List.getElem?_map, List.getElem?_map, ri s hs]
              rfl
            rw [e] at hy
            exact (Option.some.inj hy).symm
          have G := DGet.t (k := Sr.tkey (rowK r ks s)) (s6 _ _ eDn) (by rw [Sr.kV_tkey]; exact ra)
          rw [placesT_get tnd (thas s hs)] at G
          rw [ey] at q'
          exact ⟨_, rfl, _, rfl, Dn, _, rfl, G, q' H5 (Same.refl _)⟩
        · refine ⟨r.n + 1 - u.length, by omega, ks', D3, u.length, _, _, _, _, rfl, rfl, ((sk.trans s2).trans s24).trans s6, e5, k'l, fun x hx => ?_, .succ mo ?_, by omega, .inr ⟨mk ks, mo, ?_, cu⟩⟩
          · obtain ⟨t, ht, rfl⟩ := List.mem_map.mp hx
            obtain ⟨s, hs, rfl⟩ := List.mem_map.mp ht
            have := List.idxOf_lt_length_of_mem (thas s (List.mem_range.mp hs))
            omega
          all_goals
            intro s t hs ht
            rw [k'g s hs, k'g t ht]
            refine Iff.trans ⟨fun e => ?_, fun e => by rw [e]⟩ (rowK_eq (r := r) (ks := ks) (s := s) (t := t))
            have e1 := List.getElem_idxOf (List.idxOf_lt_length_of_mem (thas s hs))
            have e2 := List.getElem_idxOf (List.idxOf_lt_length_of_mem (thas t ht))
            rw [← e1, ← e2]
            simp only [e]
    · rw [if_neg (by rw [decide_eq_false (by omega)]; exact Bool.false_ne_true)]
      have upos : 0 < u.length := cu.pos (by
        intro z
        have := congrArg List.length z
        simp at this
        omega)
      rcases last with z | ⟨m0, mo', nx, c0⟩
      · omega
      · refine ⟨_, rfl, q Lk Hk ks (s1.trans sk) eL kl kb (Au.ner_of fit mo' nx ?_)⟩
        rcases Au.cnt_fine c0 cu fun s t hs ht e => ((nx s t hs ht).mp e).1 with lt | ⟨_, same⟩
        · omega
        · exact same
end
end K24

set_option Elab.async false
set_option linter.all false
set_option maxRecDepth 100000
set_option maxHeartbeats 4000000
/-! d.setdefault(k, v) -/
namespace Ek
open PySem PySem.Spec PyProof.Rows L2
def tSetd (td ty tx : TE) : TE := fun σ H Q => td σ H fun x H1 => ∃ a, x = .ref a ∧ IsD H1 a ∧ ty σ H1 fun y H2 => tx σ H2 fun z H3 => ∃ kvs k, y = kV k ∧ H3 a = some (.dK kvs) ∧ kvs.length < sizeLine ∧ (∀ v, valV kvs k = some v → Q v H3) ∧ (valV kvs k = none → Q z (upd H3 a (.dK (putK kvs k z))))
section
variable {X : Cx} {o e f : Expr} {apos cpos : Pos} {td ty tx : TE}
theorem pe_setd (ho : PE X o td) (he : PE X e ty) (hf : PE X f tx) (m : M2 X o "setdefault" apos e f cpos) : PE X (.Call (.Attribute o "setdefault" apos) [e, f] [] cpos) (tSetd td ty tx) := by
  refine ⟨fun pins s σ H Q I h => wpAny_Call_method m.base m.few m.line PySem.F.plainAttrs_dict PySem.F.slot_dict_setdefault PySem.F.type_dict_setdefault (thn (ho.run pins s σ H _ I h) fun u z1 ⟨x, H1, J1, rx, a, ex, isD, next⟩ => ?_)⟩
  subst ex
  obtain rfl : u = Value.ref a := rx
  obtain ⟨t1, t2, _⟩ := isD_at J1 isD
  refine ⟨t1, t2, ?_⟩
  rw [m.trees]
  refine Calls.callWith_builtin rfl (Calls.evalArgs_plain (Calls.spliced_cons (thn (he.run pins z1 σ H1 _ J1 next) fun kv z2 ⟨y, H2, J2, ry, more⟩ => Calls.spliced_cons (thn (hf.run pins z2 σ H2 _ J2 more) fun dv z3 ⟨d, H3, J3, rd, kvs, k, ek, at_, few, there, new⟩ => Calls.spliced_nil ?_))))
  subst ek
  obtain ⟨short, notSys, vs, rel, dict⟩ := dk_of J3.hok at_
  have len : vs.length ≤ sizeLine := by rw [← rel.length]; exact short
  have look := rel.val k
  refine call_meetsIn PySem.F.slot_dict_setdefault dict.typeIs PySem.F.entry_dict_setdefault (PySem.F.args_dict_setdefault_3 _ _ _) (kt_meets_setdefault (mixKind X.prog X.w) _ (kV_is ry) notSys _) ⟨vs, dict, len, fun w hw => ?_, fun none_ h' dict' same => ?_⟩
  · rw [hw] at look
    cases q : valV kvs k with
    | none => rw [q] at look; exact False.elim look
    | some v =>
      rw [q] at look
      exact ⟨v, H3, J3.tok _, look, there v q⟩
  · rw [none_] at look
    cases q : valV kvs k with
    | some v => rw [q] at look; exact False.elim look
    | none =>
      have short2 : (putK kvs k d).length ≤ sizeLine := Nat.le_trans (length_putK kvs k d) few
      exact ⟨d, _, d_write (t' := z3.toks + 1) J3 (by rw [at_]; exact True.intro) same (let ⟨q, _, _, e, _⟩ := dict'; ⟨q, e⟩) (dk_new short2 notSys (rel.put k rd) dict'), rd, new q⟩
end
end Ek

set_option Elab.async false
set_option linter.all false
set_option maxRecDepth 100000
set_option maxHeartbeats 12800000
namespace K24
open PySem L2 Tx Tg Tm Da RZ Ek
/-! ### the least reader -/
abbrev sChk : Stmt := top 35
abbrev sLean : Stmt := top 42
abbrev nChk : List Str := ["value"]
theorem scChk : FnScope nChk ["value"] (defScope sChk) := ⟨rfl, rfl, rfl, by decide +kernel, rfl, by decide +kernel, by decide +kernel⟩
abbrev nLean : List Str := ["reader", "kinds", "first", "reached", "number", "moves", "yes", "letter", "row", "state", "kind"]
theorem scLean : FnScope nLean ["reader"] (defScope sLean) := ⟨rfl, rfl, rfl, by decide +kernel, rfl, by decide +kernel, by decide +kernel⟩
/-- the least reader out of marks and a walk -/
def leanOf (r : Rdr) (m : Nat → Nat) (l : List (Nat × List Nat)) : Rdr := ⟨r.sg, (cds r.sg).map fun c => (c, Au.wayOf m (aut r) (Au.dd m l) c), Au.goodOf (aut r) (Au.dd m l), (Au.dd m l).length⟩
def kd (m : Nat → Nat) (O : List (Nat × List Nat)) : List (Key × V) := O.map fun x => ((Sum.inl (m x.1 : Int) : Key), V.int (x.1 : Int))
theorem kd_keys (m : Nat → Nat) (O : List (Nat × List Nat)) : (kd m O).map (·.1) = (O.map fun x => m x.1).map fun (n : Nat) => (Sum.inl (n : Int) : Key) := by
  unfold kd
  rw [List.map_map, List.map_map]
  rfl
theorem kd_off {m : Nat → Nat} {O : List (Nat × List Nat)} {k : Nat} (h : k ∉ O.map fun x => m x.1) : valV (kd m O) (Sum.inl (k : Int) : Key) = none := by
  refine val_off fun z => h ?_
  rw [kd_keys] at z
  obtain ⟨a, ha, e⟩ := List.mem_map.mp z
  rw [← inl_inj e]
  exact ha
theorem idx_at {α : Type} [BEq α] [LawfulBEq α] {l : List α} (nd : l.Nodup) {i : Nat} (h : i < l.length) : l.idxOf (l[i]'h) = i := by
  have h1 := List.idxOf_lt_length_of_mem (List.getElem_mem h)
  have h2 : l[l.idxOf (l[i]'h)]? = l[i]? := by
    rw [List.getElem?_eq_getElem h1, List.getElem?_eq_getElem h]
    exact congrArg some (List.getElem_idxOf h1)
  exact (List.getElem?_inj h1 nd).mp h2
theorem val_some {κ : Type} [DecidableEq κ] {k : κ} : ∀ {kvs : List (κ × V)}, k ∈ kvs.map (·.1) → valV kvs k ≠ none
  | (j, v) :: r, h => by
    by_cases e : j = k
    · rw [valV_pos e]
      exact fun z => nomatch z
    · rw [valV_neg e]
      rcases List.mem_cons.mp h with z | z
      · exact absurd z.symm e
      · exact val_some z
theorem kd_on {m : Nat → Nat} {O : List (Nat × List Nat)} {k : Nat} (h : k ∈ O.map fun x => m x.1) : valV (kd m O) (Sum.inl (k : Int) : Key) ≠ none := by
  refine val_some ?_
  rw [kd_keys]
  exact List.mem_map.mpr ⟨k, h, rfl⟩
section
variable {P : Program} {w : World} {K : PySem.W.Frag} {mg : Str → Option Value} {base : Heap} {CC : Addr}
def spChk (CC : Addr) : Sp := fun vs H Q _ => ∃ (p : Addr) (r : Rdr), vs = [.ref p] ∧ RdAt CC H p r ∧ Q .non H
theorem ok_chk {f : Addr} {fd : FuncData} (F : Fun K "check_reader" "check_reader" sChk f fd) (T : Txt K mg) (C : Cl P w K mg base CC) : FnOk P w K mg base CX0 1 f fd ["value"] (spChk CC) := by
  refine F.ok scChk (fun vs H Q E h => ?_) (fun cdv A outer s0 H vs Q E hr h => ?_)
  · obtain ⟨p, r, rfl, _⟩ := h
    rfl
  · obtain ⟨p, r, rfl, hp, q⟩ := h
    obtain ⟨dx, d, g, hpI, hM, hG, ok⟩ := id hp
    refine ⟨_, (pss_one (ps_if (pt_not (pt_val (pe_callB call_isi (by rfl) T.isi (by decide +kernel) (pa_cons (pv 0) (pa_cons (pe_glob (v := .ref CC) (by rfl) C.MK.W.gR rfl) pa_nil))))) (pss_one ps_never) pss_nil)), ?_⟩
    refine ⟨_, rfl, _, _, _, _, _, rfl, .own CC, C.MK.W.tyR _ _ _ _ hpI, C.MK.W.iRR, true, rfl, iteF ?_⟩
    exact q
/-- least_reader -/
def spLean (CC : Addr) : Sp := fun vs H Q _ => ∃ (p : Addr) (r : Rdr), vs = [.ref p] ∧ RdAt CC H p r ∧ ∀ x H' m l, Same H H' → Au.Ner (cds r.sg) (aut r) m → Au.Full (cds r.sg) (aut r).to 0 l → RdAt CC H' x (leanOf r m l) → Q (.ref x) H'
theorem ok_lean {f fC fK fN fT : Addr} {fd dC dK dN dT : FuncData} (F : Fun K "least_reader" "least_reader" sLean f fd) (T : Txt K mg) (C : Cl P w K mg base CC) (DCk : Df K mg "check_reader" sChk ["value"] fC dC) (DK : Df K mg "kinds_of_states" sKinds ["reader"] fK dK) (DN : Df K mg "numbered" sNum ["states"] fN dN) (DFT : Df K mg "first_texts" sFT ["moves", "start"] fT dT)
    (hE : mg "enumerate" = none) (GMoN : FnOk P w K mg base CX0 1 C.fMo C.dMo ["self"] (spMovN CC)) : FnOk P w K mg base CX0 7 f fd ["reader"] (spLean CC) := by
  have GCk := ok_chk (P := P) (w := w) (base := base) DCk.F T C
  have GK := ok_kinds (P := P) (w := w) (base := base) DK.F T C DN hE GMoN
  have GN := ok_numK (P := P) (w := w) (base := base) DN.F hE
  have GFT := ok_ft (P := P) (w := w) (base := base) DFT.F T
  refine F.ok scLean (fun vs H Q E h => ?_) (fun cdv A outer s0 H vs Q E hr h => ?_)
  · obtain ⟨p, r, rfl, _⟩ := h
    rfl
  · obtain ⟨p, r, rfl, hp, q⟩ := h
    have hu := hu_of hr
    refine ⟨_, (pss_cons (ps_expr (pe_call GCk (hr.mono (by decide)) (by rfl) DCk.m DCk.F.kp DCk.b .nil pass0 (pa_cons (pv 0) pa_nil)))
    (pss_cons (ps_set (i := 1) scLean.nd rfl (Or.inr rfl) (pe_call GK (hr.mono (by decide)) (by rfl) DK.m DK.F.kp DK.b .nil pass0 (pa_cons (pv 0) pa_nil)))
    (pss_cons (ps_set (i := 2) scLean.nd rfl (Or.inr rfl) pe_dnewK)
    (pss_cons (ps_for PassesOwn.never rfl (pi_keys (Lc.pe_lockV (pe_call GFT (hr.mono (by decide)) (by rfl) DFT.m DFT.F.kp DFT.b .nil pass0 (pa_cons (pe_prop (pv 0) C.MK.W.cl C.pMo GMoN (hr.mono (by decide)) C.bMo .nil pass0 rfl) (pa_cons pe_int pa_nil))))) (pg_name (i := 3) scLean.nd rfl (by first | exact Or.inl rfl | exact Or.inr rfl))
      (pss_one (ps_expr (pe_setd (pv 2) (pe_ix ix_list (pv 1) (pv 3) (fun _ _ => rfl)) (pv 3) ⟨rfl, rfl, rfl, rfl⟩))))
    (pss_cons (ps_set (i := 4) scLean.nd rfl (Or.inr rfl) (pe_call GN (hr.mono (by decide)) (by rfl) DN.m DN.F.kp DN.b .nil pass0 (pa_cons (pv 2) pa_nil)))
    (pss_cons ((ps_lock (Lc.ps_setDc (i := 5) (own := [("letter", 7), ("row", 8)]) (g := (gTup K 2 (gCons (gName 7) (gCons (gName 8) gNil)))) (tt := tYes) (tk := (tVar 7)) (tv := tCB (rTupOf K) (tCons (tLc (iVals (tVar 2)) (gName 9) tYes (tDGet (tVar 4) (tOp (rIxL K) (tVar 1) (tOp (rIxT K) (tVar 8) (tVar 9)))) [9]) tNil)) rfl scLean.nd rfl rfl (Lc.sw_dict rfl rfl rfl (by decide +kernel)) (pi_items (Lc.pe_lockV (pe_prop (pv 0) C.MK.W.cl C.pMo GMoN (hr.mono (by decide)) C.bMo .nil pass0 rfl))) (blkOk_by (own := [("letter", 7), ("row", 8)]) (N := nLean) (sc := defScope sLean) (by decide +kernel)) (fun _ _ _ _ _ => (pg_tup rfl (pgs_cons (pg_name (i := 7) scLean.nd rfl (by first | exact Or.inl rfl | exact Or.inr rfl)) (pgs_cons (pg_name (i := 8) scLean.nd rfl (by first | exact Or.inl rfl | exact Or.inr rfl)) pgs_nil)))) (fun _ _ _ _ _ => pts_nil) (fun _ _ _ _ _ => (pv 7)) (fun _ _ _ _ _ => (pe_callTy call_tuple_of (by rfl) T.tuple (by decide +kernel) (pa_cons (pe_lc (own := [("state", 9)]) (g := (gName 9)) (tt := tYes) (te := (tDGet (tVar 4) (tOp (rIxL K) (tVar 1) (tOp (rIxT K) (tVar 8) (tVar 9))))) rfl scLean.nd (pi_values (pv 2)) (blkOk_by (own := [("state", 9)]) (N := nLean) (by rfl)) (fun _ _ _ _ _ => (pg_name (i := 9) scLean.nd rfl (by first | exact Or.inl rfl | exact Or.inr rfl))) (fun _ _ _ _ _ => pts_nil) (fun _ _ _ _ _ => (pe_dget hu (pv 4) (pe_ix ix_list (pv 1) (pe_ix ix_tup (pv 8) (pv 9) (fun _ _ => rfl)) (fun _ _ => rfl)) (fun _ _ => rfl)))) pa_nil))))))
    (pss_cons (ps_lock (ps_setLc (i := 6) (own := [("kind", 10), ("state", 9)]) (g := (gTup K 2 (gCons (gName 10) (gCons (gName 9) gNil))))  (tt := tTest (tOp (rIn K false) (tVar 9) (tProp CC (spYesP CC) [] E0 (tVar 0)))) (te := tDGet (tVar 4) (tVar 10)) (by rfl) scLean.nd rfl rfl (sw_true rfl rfl rfl (by decide +kernel)) (pi_items (pv 2)) (blkOk_by (own := [("kind", 10), ("state", 9)]) (N := nLean) (sc := defScope sLean) (by decide +kernel)) (fun _ _ _ _ _ => (pg_tup rfl (pgs_cons (pg_name (i := 10) scLean.nd rfl (by first | exact Or.inl rfl | exact Or.inr rfl)) (pgs_cons (pg_name (i := 9) scLean.nd rfl (by first | exact Or.inl rfl | exact Or.inr rfl)) pgs_nil)))) (fun _ _ _ _ _ => pts_one (pt_cmpR op_in_seq (pv 9) (pe_prop (pv 0) C.MK.W.cl C.pYe C.gYe (hr.mono (by decide)) C.bYe .nil pass0 rfl) (by rfl))) (fun _ _ _ _ _ => (pe_dget hu (pv 4) (pv 10) (fun _ _ => rfl)))))
    (pss_one (ps_ret (pe_make C.MK.M C.MK.gi (hr.mono (by decide)) (by rfl) C.MK.W.gR C.MK.bi .nil pass0 (pa_cons (pe_prop (pv 0) C.MK.W.cl C.pLe C.gLe (hr.mono (by decide)) C.bLe .nil pass0 rfl) (pa_cons (pv 5) (pa_cons (pe_callTy call_tuple_of (by rfl) T.tuple (by decide +kernel) (pa_cons (pv 6) pa_nil)) pa_nil))))))))))))), ?_⟩
    obtain ⟨dx, d, g, hpI, hM, hG, ok⟩ := id hp
    have n1 := ok.W.one
    have n60 := ok.W.most
    have fit := fit_of ok
    refine ⟨_, rfl, p, r, rfl, hp, ?_⟩
    refine ⟨_, rfl, p, r, rfl, hp, fun L H1 ks s1 eL kl kb ner => ?_⟩
    dsimp only [tSeq, gName]
    refine fun Fd nF => ?_
    have s2 := same_upd (o := .dK []) nF
    have eF2 : (upd H1 Fd (.dK [])) Fd = some (.dK []) := upd_same
    have eL2 := s2 _ _ eL
    have nFL : Fd ≠ L := fun z => by rw [z, eL] at nF; cases nF
    have hp1 := hp.same s1
    have nFp : ∀ {b u}, H1 b = some u → b ≠ Fd := fun e => ne_of_none e nF
    generalize hH2 : upd H1 Fd (.dK []) = H2 at s2 eF2 eL2 ⊢
    have hp2 := hp1.same s2
    obtain ⟨dx2, d2, g2, hpI2, _, _, _⟩ := id hp2
    refine ⟨_, rfl, p, dx2, _, rfl, hpI2, p, r, rfl, hp2, fun d' H3 kvs nd' s3 ed' hw' => ⟨d', 0, r.n, r.sg, r.W, rfl, ⟨kvs, ed', hw'⟩, ok.sg, ok.W, ok.ord, n1, fun D H4 l nD4 s4 full eD4 => ⟨D, _, rfl, eD4, trivial, fun od => ⟨D, od, rfl, .inl ⟨ftD l, upd_same, ?_⟩⟩⟩⟩⟩
    have full : Au.Full (cds r.sg) (aut r).to 0 l := full
    have lb := Au.full_lt fit full
    let m := mk ks
    let O := Au.dd m l
    have s14 : Same H1 H4 := s2.trans (s3.trans s4)
    have eF4 : H4 Fd = some (.dK []) := s4 _ _ (s3 _ _ eF2)
    have nFD : Fd ≠ D := fun z => by rw [z] at eF2; rw [s3 _ _ eF2] at nD4; cases nD4
    have hks : ∀ s, s < r.n → (natsV ks)[s]? = some (.int (m s : Int)) := fun s hs => by
      rw [List.getElem?_map, List.getElem?_eq_getElem (by omega)]
      show some (V.int _) = some (V.int ((ks.getD s 0 : Nat) : Int))
      rw [List.getD_eq_getElem?_getD, List.getElem?_eq_getElem (by omega)]
      rfl
    have llen : l.length ≤ r.n := by
      have := Pm.small_len full.nd fun x hx => by
        obtain ⟨y, hy, rfl⟩ := List.mem_map.mp hx
        exact lb y hy
      rwa [List.length_map] at this
    have dlen : ∀ i, (Au.dd m (l.take i)).length ≤ i := fun i => by
      have h1 : ((Au.dd m (l.take i)).map (·.1)).length ≤ ((l.take i).map (·.1)).length := by
        refine Pm.len_le ?_ fun x hx => ?_
        · have := Au.dd_nd (h := m) (l := l.take i)
          rw [List.nodup_iff_pairwise_ne, List.pairwise_map] at this
          rw [List.nodup_iff_pairwise_ne]
          exact List.pairwise_map.mpr (this.imp fun ne z => ne (by rw [z]))
        · obtain ⟨y, hy, rfl⟩ := List.mem_map.mp hx
          exact List.mem_map_of_mem (Au.dd_sub y hy)
      rw [List.length_map, List.length_map, List.length_take] at h1
      omega
    refine Lc.for_keys (fun i σ H5 => ∃ o3 : Option V, σ = [some (.ref p), some (.ref L), some (.ref Fd), o3, none, none, none, none, none, none, none] ∧ H5 D = some (.frz od (.dK (ftD l))) ∧ (∀ b u, b ≠ Fd → b ≠ D → H4 b = some u → H5 b = some u) ∧ H5 Fd = some (.dK (kd m (Au.dd m (l.take i))))) ⟨none, rfl, upd_same, fun b u _ nb e => by rw [upd_ne nb]; exact e, by rw [upd_ne nFD]; exact eF4⟩ (fun i σ H5 z => by obtain ⟨_, _, e, _⟩ := z; exact e) ?_ ?_
    · rintro i key v σ H5 hkv ⟨o3, rfl, eD5, sm5, eF5⟩
      unfold ftD at hkv
      rw [List.getElem?_map] at hkv
      cases hx : l[i]? with
      | none => rw [hx] at hkv; cases hkv
      | some x =>
        rw [hx] at hkv
        cases hkv
        have xlt := lb x (List.mem_of_getElem? hx)
        have eL5 : H5 L = some (.lst (natsV ks)) := sm5 _ _ nFL.symm (fun z => by rw [z] at eL2; rw [s3 _ _ eL2] at nD4; cases nD4) (s14 _ _ eL)
        have e1 : Au.dd m (l.take (i + 1)) = Au.putK m (Au.dd m (l.take i)) x := by
          rw [List.take_add_one, hx]
          exact Au.dd_snoc
        refine ⟨_, rfl, Fd, rfl, .inl ⟨_, .inl eF5⟩, _, rfl, _, rfl, L, _, _, _, rfl, rfl, SqL.of eL5, atI_nat (hks x.1 xlt), _, rfl, kd m (Au.dd m (l.take i)), Sum.inl (m x.1 : Int), rfl, eF5, ?_, fun v hv => ?_, fun none_ => ?_⟩
        · unfold kd
          rw [List.length_map]
          have := dlen i
          have := (List.getElem?_eq_some_iff.mp hx).1
          exact Nat.lt_of_le_of_lt (show _ ≤ 60 by omega) (by decide)
        · have old : m x.1 ∈ (Au.dd m (l.take i)).map fun y => m y.1 := by
            by_cases z : m x.1 ∈ (Au.dd m (l.take i)).map fun y => m y.1
            · exact z
            · rw [kd_off z] at hv
              cases hv
          refine ⟨_, rfl, eD5, sm5, ?_⟩
          rw [e1]
          unfold Au.putK
          rw [if_pos old]
          exact eF5
        · have new : m x.1 ∉ (Au.dd m (l.take i)).map fun y => m y.1 := fun z => kd_on z none_
          refine ⟨_, rfl, by rw [upd_ne nFD.symm]; exact eD5, fun b u nb nd e => by rw [upd_ne nb]; exact sm5 b u nb nd e, ?_⟩
          rw [upd_same, e1, L2.putK_new _ none_]
          unfold Au.putK
          rw [if_neg new]
          unfold kd
          rw [List.map_append]
          rfl
    · rintro σ H5 ⟨o3, rfl, eD5, sm5, eF5⟩
      have fl : (ftD l).length = l.length := by unfold ftD; rw [List.length_map]
      rw [fl, List.take_of_length_le (Nat.le_refl _)] at eF5
      have s15 : ∀ b u, H1 b = some u → H5 b = some u := fun b u e => sm5 b u (nFp e) (fun z => by have q := (s2.trans s3) _ _ e; rw [z, nD4] at q; cases q) (s14 _ _ e)
      have Olen : O.length ≤ r.n := by
        have := dlen l.length
        rw [List.take_of_length_le (Nat.le_refl _)] at this
        exact Nat.le_trans this llen
      have Ond : (O.map fun x => m x.1).Nodup := Au.dd_nd
      have O0 : O[0]? = some (0, []) := Au.dd_head full
      have O1 : 1 ≤ O.length := (List.getElem?_eq_some_iff.mp O0).1
      have Olt : ∀ x ∈ O, x.1 < r.n := fun x hx => lb x (Au.dd_sub x hx)
      have kdl : (kd m O).length = O.length := by unfold kd; rw [List.length_map]
      have knd : ((kd m O).map (·.1)).Nodup := by
        rw [kd_keys]
        exact List.Pairwise.map _ (fun a b ne z => ne (inl_inj z)) Ond
      have gN : ∀ k, k ∈ (O.map fun x => m x.1) → valV (places (kd m O)) (Sum.inl (k : Int) : Key) = some (.int ((O.map fun x => m x.1).idxOf k : Nat)) := fun k hk => places_get (kd_keys m O) Ond hk
      have hin : ∀ x ∈ O, ∀ c ∈ cds r.sg, m (step r.W x.1 c) ∈ O.map fun x => m x.1 := fun x hx c hc => by
        rw [Au.dd_kinds]
        obtain ⟨z, hz, e⟩ := List.mem_map.mp (full.closed (Au.dd_sub x hx) hc)
        exact List.mem_map.mpr ⟨z, hz, by rw [e]; rfl⟩
      refine ⟨_, rfl, Fd, kd m O, rfl, eF5, knd, by rw [kdl]; omega, fun Dn H6 nDn s6 eDn => ?_⟩
      dsimp only [tSeq, gName]
      have s16 : Same H1 H6 := fun b u e => s6 _ _ (s15 b u e)
      have eF6 := s6 _ _ eF5
      have nDnF : Dn ≠ Fd := (ne_of_none eF5 nDn).symm
      refine ⟨Fd, _, eF6, trivial, fun of => ?_⟩
      have s17 : Same H1 (upd H6 Fd (.frz of (.dK (kd m O)))) := fun b u e => by rw [upd_ne (nFp e)]; exact s16 b u e
      have eF7 : (upd H6 Fd (.frz of (.dK (kd m O)))) Fd = some (.frz of (.dK (kd m O))) := upd_same
      have eDn7 : (upd H6 Fd (.frz of (.dK (kd m O)))) Dn = some (.dK (places (kd m O))) := by rw [upd_ne nDnF]; exact eDn
      have back7 : ∀ b u, b ≠ Fd → H6 b = some u → (upd H6 Fd (.frz of (.dK (kd m O)))) b = some u := fun b u nb e => by rw [upd_ne nb]; exact e
      generalize upd H6 Fd (.frz of (.dK (kd m O))) = H7 at s17 eF7 eDn7 back7 ⊢
      have hp7 := hp1.same s17
      obtain ⟨dx7, d7, g7, hpI7, _, _, _⟩ := id hp7
      refine ⟨_, rfl, p, dx7, _, rfl, hpI7, p, r, rfl, hp7, fun e2 H8 kvs2 nd2 s8 ed2 hw2 => ⟨e2, _, rfl, ed2, trivial, fun od2 => ⟨e2, od2, kvs2, rfl, upd_same, fun Dm nDm => ?_⟩⟩⟩
      have kW : kvs2.length = (cds r.sg).length := by rw [ways_len hw2, ← ok.ord, List.length_map]
      have hc0 : (cds r.sg).length ≤ 3 := by rw [cds_len]; exact (sg_len ok.sg).2
      have s79 : Same H7 (upd H8 e2 (.frz od2 (.dK kvs2))) := same_put s8 nd2
      have e29 : (upd H8 e2 (.frz od2 (.dK kvs2))) e2 = some (.frz od2 (.dK kvs2)) := upd_same
      have hw9 : WsAt (upd H8 e2 (.frz od2 (.dK kvs2))) kvs2 r.W := hw2.keep fun b xs e => by rw [upd_ne (fun z => by rw [z, ed2] at e; cases e)]; exact e
      generalize upd H8 e2 (.frz od2 (.dK kvs2)) = H9 at s79 e29 hw9 nDm ⊢
      let Wl : List Way := (cds r.sg).map fun c => (c, Au.wayOf m (aut r) O c)
      have Wll : Wl.length = (cds r.sg).length := List.length_map _
      refine Lc.dc_items (fun i H' => H' e2 = some (.frz od2 (.dK kvs2)) ∧ Same H9 H' ∧ ∃ kv, H' Dm = some (.dK kv) ∧ WsAt H' kv (Wl.take i)) ⟨by rw [upd_ne (ne_of_none e29 nDm)]; exact e29, same_upd nDm, [], upd_same, .nil⟩ (fun i H' z => z.1) ?_ ?_
      · rintro i key v Ta Ha hkv ⟨ea, sa, kv, eDm, hkvW⟩ nTa
        have ilt : i < kvs2.length := (List.getElem?_eq_some_iff.mp hkv).1
        obtain ⟨c, hc⟩ : ∃ c, (cds r.sg)[i]? = some c := ⟨_, List.getElem?_eq_getElem (by omega)⟩
        have hWi : r.W[i]? = some (r.W[i]'(by rw [← ways_len hw2]; exact ilt)) := List.getElem?_eq_getElem _
        obtain ⟨p0, ekv, row0⟩ : WayAt H9 (key, v) (r.W[i]'(by rw [← ways_len hw2]; exact ilt)) := Lc.each_atP hw9 hkv hWi
        have ec : (r.W[i]'(by rw [← ways_len hw2]; exact ilt)).1 = c := by
          have : (r.W.map (·.1))[i]? = some (r.W[i]'(by rw [← ways_len hw2]; exact ilt)).1 := by rw [List.getElem?_map, hWi]; rfl
          rw [ok.ord, hc] at this
          exact (Option.some.inj this).symm
        obtain ⟨rfl, rfl⟩ := Prod.mk.inj ekv
        have wm := List.mem_of_getElem? hWi
        generalize r.W[i]'(by rw [← ways_len hw2]; exact ilt) = wy at row0 ec wm
        obtain ⟨c', lw⟩ := wy
        subst ec
        obtain ⟨ll, lbW⟩ := ok.W.rows _ wm
        have er : row r.W c' = lw := row_eq (ok.W.nodup ok.sg) wm
        have cm : c' ∈ cds r.sg := List.mem_of_getElem? hc
        have st1 := same_upd (o := .tup [kV (Sum.inr (one c') : Key), V.ref p0]) nTa
        have sab : Same H9 (upd Ha Ta (.tup [kV (Sum.inr (one c') : Key), V.ref p0])) := sa.trans st1
        have eF9 := sab _ _ (s79 _ _ eF7)
        refine ⟨Ta, _, rfl, SqT.of upd_same, rfl, _, _, rfl, _, _, rfl, rfl, rfl, iteT (B := False) ?_⟩
        refine ⟨_, rfl, _, rfl, Fd, of, kd m O, rfl, eF9, fun D2 nD2 => ?_⟩
        refine Lc.lcVS eF9 nD2 (ys := natsV (Au.wayOf m (aut r) O c')) (by rw [kdl, List.length_map]; unfold Au.wayOf; rw [List.length_map]) (by rw [kdl]; exact Nat.lt_of_le_of_lt (show O.length ≤ 60 by omega) (by decide)) (fun _ => rfl) (fun j key2 v2 y2 Hb hk2 hy2 sb Q2 q2 => ?_) fun Hc sc ec => ?_
        · unfold kd at hk2
          rw [List.getElem?_map] at hk2
          cases hx : O[j]? with
          | none => rw [hx] at hk2; cases hk2
          | some x =>
            rw [hx] at hk2
            cases hk2
            have xm := List.mem_of_getElem? hx
            have xlt := Olt x xm
            have sl : x.1 < lw.length := by rw [ll]; exact xlt
            have st : step r.W x.1 c' = lw[x.1] := by
              unfold step
              rw [er, List.getD_eq_getElem?_getD, List.getElem?_eq_getElem sl]
              rfl
            have lt2 : step r.W x.1 c' < r.n := by rw [st]; exact lbW _ (List.getElem_mem sl)
            have row5 : RowAt Hb p0 lw := sb _ _ (sab _ _ row0)
            have eL5 : Hb L = some (.lst (natsV ks)) := sb _ _ (sab _ _ (s79 _ _ (s17 _ _ eL)))
            have eDn5 : Hb Dn = some (.dK (places (kd m O))) := sb _ _ (sab _ _ (s79 _ _ eDn7))
            have G := DGet.k (k := (Sum.inl (m (step r.W x.1 c') : Int) : Key)) eDn5
            rw [gN _ (hin x xm c' cm)] at G
            have ey : y2 = .int ((O.map fun x => m x.1).idxOf (m (step r.W x.1 c')) : Nat) := by
              have e : (natsV (Au.wayOf m (aut r) O c'))[j]? = some (.int ((O.map fun x => m x.1).idxOf (m (step r.W x.1 c')) : Nat)) := by
                unfold natsV Au.wayOf
                rw [List.getElem?_map, List.getElem?_map, hx]
                rfl
              rw [e] at hy2
              exact (Option.some.inj hy2).symm
            rw [ey] at q2
            refine ⟨_, rfl, _, rfl, _, rfl, _, rfl, p0, _, _, _, rfl, rfl, SqT.of row5, atI_nat (natsV_at sl), L, _, _, _, rfl, rfl, SqL.of eL5, atI_nat (j := lw[x.1]) ?_, Dn, _, rfl, G, q2 Hb (Same.refl _)⟩
            rw [← st]
            exact hks _ lt2
        · refine ⟨D2, _, rfl, .inl ⟨SqL.of ec, fun T2 nT2 => ?_⟩⟩
          have s7 := same_upd (o := .tup (natsV (Au.wayOf m (aut r) O c'))) nT2
          have sac : Same Ha (upd Hc T2 (.tup (natsV (Au.wayOf m (aut r) O c')))) := (st1.trans sc).trans s7
          have hr2 : RowAt (upd Hc T2 (.tup (natsV (Au.wayOf m (aut r) O c')))) T2 (Au.wayOf m (aut r) O c') := upd_same
          generalize upd Hc T2 (.tup (natsV (Au.wayOf m (aut r) O c'))) = Hd at sac hr2 ⊢
          have eDm2 := sac _ _ eDm
          have kvl : kv.length = i := by
            rw [ways_len hkvW, List.length_take]
            omega
          have fresh : valV kv (Sum.inr (one c') : Key) = none := by
            refine ways_none hkvW fun z => ?_
            obtain ⟨w0, hw0, e0⟩ := List.mem_map.mp z
            obtain ⟨j, hj, ej⟩ := List.mem_iff_getElem.mp hw0
            rw [List.length_take] at hj
            have e1 : (cds r.sg)[j]? = some c' := by
              rw [List.getElem_take] at ej
              have : Wl[j]? = some w0 := by rw [List.getElem?_eq_getElem (by omega), ej]
              rw [List.getElem?_map] at this
              cases q : (cds r.sg)[j]? with
              | none => rw [q] at this; cases this
              | some c2 =>
                rw [q] at this
                cases this
                exact congrArg some e0
            have := (List.getElem?_inj (by omega) (sg_nodup ok.sg)).mp (e1.trans hc.symm)
            omega
          refine ⟨kv, Sum.inr (one c'), rfl, eDm2, by rw [kvl]; exact Nat.lt_of_lt_of_le (show i < 3 by omega) (by decide), ?_, ?_, kv ++ [(Sum.inr (one c'), V.ref T2)], ?_, ?_⟩
          · rw [upd_ne (ne_of_none e29 nDm)]
            exact sac _ _ ea
          · exact same_put (sa.trans sac) nDm
          · rw [upd_same, putK_new fresh]
          · have kT : KeepT Hd (upd Hd Dm (.dK (putK kv (Sum.inr (one c')) (V.ref T2)))) := fun b xs e => by rw [upd_ne (fun z => by rw [z, eDm2] at e; cases e)]; exact e
            have eW : Wl.take (i + 1) = Wl.take i ++ [(c', Au.wayOf m (aut r) O c')] := by
              rw [List.take_add_one, List.getElem?_map, hc]
              rfl
            rw [eW]
            exact each_app ((hkvW.keep (.same sac)).keep kT) (.cons ⟨T2, rfl, kT _ _ hr2⟩ .nil)
      · rintro Ha ⟨ea, sa, kv, eDm, hkvW⟩
        rw [kW, ← Wll, List.take_of_length_le (Nat.le_refl _)] at hkvW
        dsimp only [gName]
        have sm9 : Same H7 Ha := s79.trans sa
        have s20 : Same H1 (upd Ha Fd (.dK (kd m O))) := fun b u e => by rw [upd_ne (nFp e)]; exact sm9 _ _ (s17 _ _ e)
        have eF20 : (upd Ha Fd (.dK (kd m O))) Fd = some (.dK (kd m O)) := upd_same
        have DmF : Dm ≠ Fd := (ne_of_none (s79 _ _ eF7) nDm).symm
        have eDm20 : (upd Ha Fd (.dK (kd m O))) Dm = some (.dK kv) := by rw [upd_ne DmF]; exact eDm
        have eDn20 : (upd Ha Fd (.dK (kd m O))) Dn = some (.dK (places (kd m O))) := by rw [upd_ne nDnF]; exact sm9 _ _ eDn7
        have hkvW20 : WsAt (upd Ha Fd (.dK (kd m O))) kv Wl := hkvW.keep fun b xs e => by rw [upd_ne (fun z => by rw [z, sm9 _ _ eF7] at e; cases e)]; exact e
        refine ⟨sm9 _ _ eF7, ?_⟩
        dsimp only [tSeq, gName]
        show tLock _ _ _ (upd Ha Fd (.dK (kd m O)))
        generalize upd Ha Fd (.dK (kd m O)) = Hb at s20 eF20 eDm20 eDn20 hkvW20 ⊢
        refine ⟨Fd, _, eF20, trivial, fun o5 => ?_⟩
        have s21 : Same H1 (upd Hb Fd (.frz o5 (.dK (kd m O)))) := fun b u e => by rw [upd_ne (nFp e)]; exact s20 b u e
        have eF21 : (upd Hb Fd (.frz o5 (.dK (kd m O)))) Fd = some (.frz o5 (.dK (kd m O))) := upd_same
        have eDm21 : (upd Hb Fd (.frz o5 (.dK (kd m O)))) Dm = some (.dK kv) := by rw [upd_ne DmF]; exact eDm20
        have eDn21 : (upd Hb Fd (.frz o5 (.dK (kd m O)))) Dn = some (.dK (places (kd m O))) := by rw [upd_ne nDnF]; exact eDn20
        have hkvW21 : WsAt (upd Hb Fd (.frz o5 (.dK (kd m O)))) kv Wl := hkvW20.keep fun b xs e => by rw [upd_ne (fun z => by rw [z, eF20] at e; cases e)]; exact e
        generalize upd Hb Fd (.frz o5 (.dK (kd m O))) = Hc at s21 eF21 eDm21 eDn21 hkvW21 ⊢
        have hp21 := hp1.same s21
        refine ⟨_, rfl, Fd, o5, kd m O, rfl, eF21, fun Y nY => ?_⟩
        let tk : Nat → Bool := fun i => ((O[i]?).map fun x => (aut r).yes x.1).getD false
        refine Lc.lc_items (fun i H' => Same Hc H' ∧ H' Y = some (.lst (natsV ((List.range i).filter tk)))) ⟨same_upd nY, upd_same⟩ (fun i H' z => z.1 _ _ eF21) ?_ ?_
        · rintro i key v Ta H' hkv ⟨sc, eY⟩ nTa
          unfold kd at hkv
          rw [List.getElem?_map] at hkv
          cases hx : O[i]? with
          | none => rw [hx] at hkv; cases hkv
          | some x =>
            rw [hx] at hkv
            cases hkv
            have xm := List.mem_of_getElem? hx
            have xlt := Olt x xm
            have ilt := (List.getElem?_eq_some_iff.mp hx).1
            have st1 := same_upd (o := .tup [kV (Sum.inl (m x.1 : Int) : Key), V.int (x.1 : Int)]) nTa
            have eYT : Y ≠ Ta := fun z => by rw [← z, eY] at nTa; cases nTa
            have scT := sc.trans st1
            have eY1 := st1 _ _ eY
            refine ⟨Ta, _, rfl, SqT.of upd_same, rfl, _, _, rfl, _, _, rfl, rfl, rfl, ?_⟩
            generalize upd H' Ta (.tup [kV (Sum.inl (m x.1 : Int) : Key), V.int (x.1 : Int)]) = H'' at scT eY1 ⊢
            have tki : tk i = decide (x.1 ∈ r.G) := by
              show ((O[i]?).map _).getD false = _
              rw [hx]
              rfl
            have fs : (List.range (i + 1)).filter tk = (List.range i).filter tk ++ (if tk i = true then [i] else []) := by
              rw [List.range_succ, List.filter_append]
              congr 1
              cases q : tk i <;> simp [q]
            obtain ⟨dxa, da, ga, hpIa, _, _, _⟩ := id (hp21.same scT)
            refine ⟨_, rfl, _, rfl, p, dxa, _, rfl, hpIa, p, r, rfl, hp21.same scT, fun g' hg' => ⟨g', _, rfl, .inr (SqT.of hg'), rfl, ?_, _, rfl, ?_⟩⟩
            · rw [List.all_eq_true]
              exact flat_nats _
            · rw [inV_nats]
              dsimp only
              by_cases hG2 : x.1 ∈ r.G
              · rw [decide_eq_true hG2] at tki ⊢
                have G := DGet.k (k := (Sum.inl (m x.1 : Int) : Key)) (scT _ _ eDn21)
                rw [gN _ (List.mem_map_of_mem xm)] at G
                have ei : (O.map fun x => m x.1).idxOf (m x.1) = i := by
                  have e1 : (O.map fun x => m x.1)[i]? = some (m x.1) := by rw [List.getElem?_map, hx]; rfl
                  have hlt := (List.getElem?_eq_some_iff.mp e1).1
                  have e2 := (List.getElem?_eq_some_iff.mp e1).2
                  rw [← e2]
                  exact idx_at Ond hlt
                rw [ei] at G
                refine ⟨_, rfl, _, rfl, Dn, _, rfl, G, _, eY1, ?_, ?_⟩
                · rw [List.length_map]
                  refine Nat.lt_of_le_of_lt (List.length_filter_le _ _) ?_
                  rw [List.length_range]
                  exact Nat.lt_of_le_of_lt (show i ≤ 60 by omega) (by decide)
                · refine ⟨fun b u e => ?_, ?_⟩
                  · rw [upd_ne (ne_of_none e nY)]
                    exact scT b u e
                  · rw [upd_same, fs, tki, if_pos rfl]
                    unfold natsV
                    rw [List.map_append]
                    rfl
              · rw [decide_eq_false hG2] at tki ⊢
                refine ⟨scT, ?_⟩
                rw [fs, tki, if_neg Bool.false_ne_true, List.append_nil]
                exact eY1
        · rintro H' ⟨sc, eY⟩
          rw [kdl] at eY
          refine ⟨sc _ _ eF21, ?_⟩
          dsimp only [gName]
          have nFY : Y ≠ Fd := (ne_of_none eF21 nY).symm
          have s22 : Same H1 (upd H' Fd (.dK (kd m O))) := fun b u e => by rw [upd_ne (nFp e)]; exact sc _ _ (s21 _ _ e)
          have eY22 : (upd H' Fd (.dK (kd m O))) Y = some (.lst (natsV (Au.goodOf (aut r) O))) := by rw [upd_ne nFY]; exact eY
          have eDm22 : (upd H' Fd (.dK (kd m O))) Dm = some (.dK kv) := by rw [upd_ne DmF]; exact sc _ _ eDm21
          have hkvW22 : WsAt (upd H' Fd (.dK (kd m O))) kv Wl := (hkvW21.keep (.same sc)).keep fun b xs e => by rw [upd_ne (fun z => by rw [z, sc _ _ eF21] at e; cases e)]; exact e
          generalize upd H' Fd (.dK (kd m O)) = Hf at s22 eY22 eDm22 hkvW22 ⊢
          have gG : okG O.length (Au.goodOf (aut r) O) := ⟨fun i hi => List.mem_range.mp (List.mem_filter.mp hi).1, List.Pairwise.filter _ List.pairwise_lt_range⟩
          have gl : (Au.goodOf (aut r) O).length ≤ 60 := by
            refine Nat.le_trans (List.length_filter_le _ _) ?_
            rw [List.length_range]
            omega
          have wW : okW O.length r.sg Wl := ⟨by rw [show Wl.map (·.1) = cds r.sg from by rw [List.map_map]; exact List.map_id _], fun w0 hw0 => by
            obtain ⟨c, hc, rfl⟩ := List.mem_map.mp hw0
            refine ⟨by show (List.map _ _).length = _; rw [List.length_map], fun y hy => ?_⟩
            obtain ⟨x, hx, rfl⟩ := List.mem_map.mp hy
            have := List.idxOf_lt_length_of_mem (hin x hx c hc)
            rwa [List.length_map] at this, O1, by omega⟩
          obtain ⟨dxb, db, gb, hpIb, _, _, _⟩ := id (hp1.same s22)
          refine ⟨_, rfl, p, dxb, _, rfl, hpIb, p, r, rfl, hp1.same s22, _, rfl, _, rfl, Y, _, rfl, .inl ⟨SqL.of eY22, fun T2 nT2 => ?_⟩⟩
          have s23 := same_upd (o := .tup (natsV (Au.goodOf (aut r) O))) nT2
          refine made_tail ok.sg ⟨kv, s23 _ _ eDm22, hkvW22.keep (.same s23)⟩ wW upd_same gG gl fun x H'' s h => q x H'' m l ((s1.trans (s22.trans s23)).trans s) ner full ?_
          rw [ordW_self ok.sg (show Wl.map (·.1) = cds r.sg from by rw [List.map_map]; exact List.map_id _)] at h
          exact h
end
end K24

set_option Elab.async false
set_option linter.all false
set_option maxRecDepth 100000
set_option maxHeartbeats 4000000
/-! for .. in d.items(): a dict with tuples as keys -/
namespace It2
open PySem PySem.Spec PyProof.Rows L2 Tx Tg Tm
/-- the pairs of the locked dict at d, each a new tuple: the key's own tuple and the value -/
def ItiT (d : Addr) (o : Obj) (kvs : List (List Key × V)) : It :=
  ⟨fun i H => H d = some (.frz o (.dT kvs)) ∧ i < kvs.length, fun i H x H' => ∃ T k v b, kvs[i]? = some (k, v) ∧ x = .ref T ∧ H T = none ∧ H b = some (.tup (k.map kV)) ∧ H' = upd H T (.tup [.ref b, v]), fun i H => H d = some (.frz o (.dT kvs)) ∧ kvs.length ≤ i⟩
section
variable {X : Cx} {pins : List (Addr × Obj)} {σ : L2.St} {H : Hp} {s : Shared} {d : Addr} {o : Obj} {kvs : List (List Key × V)}
theorem all_of (I : L2.Inv X pins σ H s) (h : H d = some (.frz o (.dT kvs))) :
    ∃ (es : Array DictEntry) (ep : Nat), ((d == sysModules) = false ∧ s.heap.get? d = some o ∧ o.ExactDict) ∧ (o.data = .dict es ep ∧ es.size = kvs.length) ∧
      ∀ (i : Nat) (k : List Key) (v : V), kvs[i]? = some (k, v) → ∃ (en : DictEntry) (q : Addr), es[i]? = some en ∧ en.key = .ref q ∧ H q = some (.tup (k.map kV)) ∧ L2.RelV v en.val := by
  obtain ⟨there, room, notSys, xs, both, o2, es, ep, there2, plain, data, ents, _⟩ := I.hok d _ h
  rw [there] at there2
  cases there2
  have e1 : es.size = xs.length := size_of_entries ents
  have e2 : kvs.length = xs.length := Paired.length both
  refine ⟨es, ep, ⟨notSys, there, plain⟩, ⟨data, by omega⟩, fun i k v q => ?_⟩
  obtain ⟨x, hx, _, hb, hv⟩ := paired_get both q
  have := entry_at ents i
  rw [hx] at this
  exact ⟨_, x.2.1, this, rfl, hb, hv⟩
end
section
variable {P : Program} {w : World} {K : PySem.W.Frag} {elts : List Expr} {kk : Nat} {tpos : Pos} {o : Obj} {es : Array DictEntry} {ep : Nat} {kvs : List (List Key × V)}
theorem turn_itemsT (d it : Addr) (data : o.data = .dict es ep) :
    Turn P w K (.Tuple elts kk tpos) (ItiT d o kvs) [it] it (fun i h => ∃ ok ov, h.get? it = some (DVw.itmOb d .none i kvs.length ep ok ov)) where
  mem := by simp
  obj := fun i h st b hb => by
    obtain rfl : b = it := by simpa using hb
    obtain ⟨ok, ov, e⟩ := st
    exact ⟨DVw.itmOb d .none i kvs.length ep ok ov, e, fun v z => nomatch z⟩
  keep := fun i h h' st same => st.imp fun ok z => z.imp fun ov e => same it (by simp) _ e
  item := by
    intro X hP hw hK calm i pins s σ H E I free st go
    subst hP hw hK
    obtain ⟨lock, lt⟩ := go
    obtain ⟨es2, ep2, ⟨notSys, there, plain⟩, ⟨data2, size⟩, ent⟩ := all_of I lock
    rw [data] at data2
    cases data2
    obtain ⟨⟨k, v⟩, hk⟩ : ∃ p, kvs[i]? = some p := ⟨kvs[i], List.getElem?_eq_getElem lt⟩
    obtain ⟨en, q, hen, hkey, hq, hv⟩ := ent i k v hk
    obtain ⟨ok, ov, isI⟩ := st
    have small : it < s.heap.objs.size := Heap.lt_size isI
    refine DVw.itm_item isI there data size hen fun h' isI' pair grown kept => ?_
    refine ⟨_, rfl, wpAny_letOwnedTupleGo_items (s := { s with heap := h' }) (a := s.heap.objs.size) isI' fun h'' back same => ?_⟩
    have pair2 : h''.get? s.heap.objs.size = some { cls := .type "tuple", data := .seq #[en.key, en.val] } := (same.2 _ (Nat.ne_of_gt small)).trans pair
    have fresh : ObjOk X.prog X.w (upd H s.heap.objs.size (.tup [.ref q, v])) h'' s.heap.objs.size (.tup [.ref q, v]) :=
      ⟨by show 2 ≤ sizeLine; decide, [en.key, en.val], .cons hkey (.cons hv .nil), ⟨_, pair2, rfl, _, rfl⟩⟩
    have J : L2.Inv X pins σ (upd H s.heap.objs.size (.tup [.ref q, v])) { s with heap := h'' } :=
      I.turnedNew (t' := s.toks) (ch := [it]) (fun b ob hb e => (same.2 b (by simpa using hb)).trans (kept b ob (by simpa using hb) e)) free (Nat.le_refl _) fresh
    refine ⟨.ref s.heap.objs.size, _, J, rfl, ⟨_, k, v, q, hk, rfl, I.hok.fresh (Nat.le_refl _), hq, rfl⟩, ⟨en.key, en.val, back⟩, fun b hb => ?_⟩
    obtain rfl : b = it := by simpa using hb
    rw [upd_ne (Nat.ne_of_lt small)]
    exact (free b (by simp)).1
  done := by
    intro X hP hw hK calm i pins s σ H E I free st over
    subst hP hw hK
    obtain ⟨lock, le⟩ := over
    obtain ⟨f0, f1, f2, f3, f4, f5⟩ := free it (by simp)
    obtain ⟨es2, ep2, ⟨notSys, there, plain⟩, ⟨data2, size⟩, ent⟩ := all_of I lock
    rw [data] at data2
    cases data2
    obtain ⟨ok, ov, isI⟩ := st
    exact DVw.itm_end (I.ok.hd calm) isI there data size (Array.getElem?_eq_none (by omega)) fun h' eb => ⟨rfl, I.turned (t' := s.toks) (fun b ob hb e => eb b ob hb e) f0 f1 f3 f4 f5⟩
  self := fun A i s Q E st h => st.elim fun ok z => z.elim fun ov e => PySem.W.kcp_self e h
end
def iItemsT (td : TE) : TI := fun σ H R => td σ H fun x H1 => ∃ d o kvs, x = .ref d ∧ H1 d = some (.frz o (.dT kvs)) ∧ R (ItiT d o kvs) H1
theorem pi_itemsT {X : Cx} {e : Expr} {td : TE} {apos cpos : Pos} {elts : List Expr} {kk : Nat} {tpos : Pos} (he : PE X e td) (hbase : attributeBase e "items" X.env (eval e X.env) = eval e X.env := by rfl) (hline : (apos.endLine == cpos.line) = true := by rfl) :
    PI X (.Tuple elts kk tpos) (.Call (.Attribute e "items" apos) [] [] cpos) (iItemsT td) := by
  refine ⟨fun pins s σ H R I h => ?_⟩
  refine wpAny_Call_method (T := "dict") (id := "dict.items") hbase rfl hline F.plainAttrs_dict F.slot_dict_items F.type_dict_items (thn (he.run pins s σ H _ I h) fun u s1 ⟨x, H1, I1, rx, d, o, kvs, ex, lock, q⟩ => ?_)
  subst ex
  obtain rfl : u = Value.ref d := rx
  obtain ⟨es, ep, ⟨notSys, there, plain⟩, ⟨data, size⟩, ent⟩ := all_of I1 lock
  have raw : s1.heap.DictRaw d es ep := ⟨o, there, plain, data⟩
  refine ⟨raw.typeIs, fun a ea => ⟨o, by cases ea; exact there, plain.2.1⟩, ?_⟩
  have I2 : L2.Inv X pins σ H1 { s1 with heap := s1.heap.push { cls := .type "dict_items", data := .fields #[.ref d] } } := I1.kept (t' := s1.toks) fun b ob q => Heap.get?_push_of_some _ q
  have ends : wpAny (model X.prog X.w) X.A (pyIter (.ref s1.heap.objs.size)) (PIE X pins σ (.Tuple elts kk tpos) R) X.xe { s1 with heap := s1.heap.push { cls := .type "dict_items", data := .fields #[.ref d] } } := by
    refine wpAny_pyIter_items_raw (s := { s1 with heap := s1.heap.push { cls := .type "dict_items", data := .fields #[.ref d] } }) (d := d) (es := es) (ep := ep) ⟨_, Heap.get?_push_size _ rfl, rfl, rfl⟩ (raw.at fun _ e => Heap.get?_push_of_some _ e) (pi_one (tk := s1.toks) I2 _ (turn_itemsT d _ data) ⟨.none, .none, ?_⟩ q)
    rw [← size]
    exact Heap.get?_push_size _ rfl
  show wpAny _ _ (callWith cpos (.builtin "dict.items") [.ref d] [] []) _ X.xe s1
  exact method_meetsIn F.slot_dict_items F.entry_dict_items rfl (PySem.evalArgs_none ⟨rfl, raw.typeIs, F.args_dict_items_1 _, _, meets_dict_items_raw d notSys, ⟨es, ep, raw⟩, ends⟩)
theorem for_itemsT {d : Addr} {o : Obj} {kvs : List (List Key × V)} {g : TG} {tb : TS} {D : Ends} {σ : L2.St} {H : Hp} (Pv : Nat → L2.St → Hp → Prop) (start : Pv 0 σ H) (lock : ∀ i σ H, Pv i σ H → H d = some (.frz o (.dT kvs)))
    (turn : ∀ i k v b T σ H, kvs[i]? = some (k, v) → H b = some (.tup (k.map kV)) → Pv i σ H → H T = none → g (.ref T) σ (upd H T (.tup [.ref b, v])) fun σ2 H2 => tb { D with nx := Pv (i + 1), ct := Pv (i + 1), bk := D.nx } σ2 H2) (over : ∀ σ H, Pv kvs.length σ H → D.nx σ H) :
    ∃ W : Nat → Nat → L2.St → Hp → Prop, (∃ m, W 0 m σ H) ∧ ∀ i m σ H, W i m σ H →
      ((ItiT d o kvs).stop i H ∧ D.nx σ H) ∨ ((ItiT d o kvs).go i H ∧ ∃ N : L2.St → Hp → Prop, (∀ σ' H', N σ' H' → ∃ m', m' < m ∧ W (i + 1) m' σ' H') ∧ ∀ x H', (ItiT d o kvs).yld i H x H' → g x σ H' fun σ2 H2 => tb { D with nx := N, ct := N, bk := D.nx } σ2 H2) := by
  refine ⟨fun i left σ H => left = kvs.length - i ∧ i ≤ kvs.length ∧ Pv i σ H, ⟨_, rfl, Nat.zero_le _, start⟩, ?_⟩
  rintro i left σ H ⟨rfl, le, p⟩
  rcases Nat.lt_or_eq_of_le le with more | rfl
  · refine .inr ⟨⟨lock i σ H p, more⟩, Pv (i + 1), fun σ' H' p' => ⟨kvs.length - (i + 1), by omega, rfl, more, p'⟩, fun x H' y => ?_⟩
    obtain ⟨T, k, v, b, e, rfl, fresh, hb, rfl⟩ := y
    exact turn i k v b T σ H e hb p fresh
  · exact .inl ⟨⟨lock _ σ H p, Nat.le_refl _⟩, over σ H p⟩
end It2

set_option Elab.async false
set_option linter.all false
set_option maxRecDepth 100000
set_option maxHeartbeats 12800000
namespace K24
open PySem L2 Tx Tg Tm Da RZ Ek
/-! ### pairs of states that texts lead to -/
abbrev sFP : Stmt := top 25
abbrev nFP : List Str := ["one", "other", "most", "texts", "found", "at", "left", "right", "letter", "pair"]
theorem scFP : FnScope nFP ["one", "other", "most"] (defScope sFP) := ⟨rfl, rfl, rfl, by decide +kernel, rfl, by decide +kernel, by decide +kernel⟩
abbrev nxP (W W' : List Way) : Nat → Nat × Nat → Nat × Nat := fun c q => (step W q.1 c, step W' q.2 c)
abbrev two2 (q : Nat × Nat) : List Nat := [q.1, q.2]
theorem two2_inj {a b : Nat × Nat} (h : two2 a = two2 b) : a = b := by
  have h2 := List.cons.inj h
  exact Prod.ext h2.1 (List.cons.inj h2.2).1
def ptD (l : List ((Nat × Nat) × List Nat)) : List (List Key × V) := l.map fun x => (Sr.tkey (two2 x.1), V.str (tx x.2))
theorem ptD_keys (l : List ((Nat × Nat) × List Nat)) : (ptD l).map (·.1) = (l.map (·.1)).map fun q => Sr.tkey (two2 q) := by
  unfold ptD
  rw [List.map_map, List.map_map]
  rfl
theorem tk_inj {a b : Nat × Nat} (h : Sr.tkey (two2 a) = Sr.tkey (two2 b)) : a = b := two2_inj (Sr.tkey_inj h)
theorem ptD_get {l : List ((Nat × Nat) × List Nat)} (nd : (l.map (·.1)).Nodup) {x : (Nat × Nat) × List Nat} (h : x ∈ l) : valV (ptD l) (Sr.tkey (two2 x.1)) = some (.str (tx x.2)) := by
  refine val_in ?_ (List.mem_map.mpr ⟨x, h, rfl⟩)
  rw [ptD_keys]
  exact List.Pairwise.map _ (fun a b ne z => ne (tk_inj z)) nd
theorem ptD_off {l : List ((Nat × Nat) × List Nat)} {q : Nat × Nat} (h : q ∉ l.map (·.1)) : valV (ptD l) (Sr.tkey (two2 q)) = none := by
  refine val_off fun z => h ?_
  rw [ptD_keys] at z
  obtain ⟨a, ha, e⟩ := List.mem_map.mp z
  rw [← tk_inj e]
  exact ha
section
variable {P : Program} {w : World} {K : PySem.W.Frag} {mg : Str → Option Value} {base : Heap}
def spFP : Sp := fun vs H Q _ => ∃ (d d' : Addr) (n n' : Nat) (mo : Int) (sg : Str) (W W' : List Way), vs = [.ref d, .ref d', .int mo] ∧ (n : Int) * (n' : Int) ≤ mo ∧ MovAt H d W ∧ MovAt H d' W' ∧ Signs sg ∧ okW n sg W ∧ okW n' sg W' ∧ W.map (·.1) = cds sg ∧
  ∀ D H' l, H D = none → Same H H' → Au.Full (cds sg) (nxP W W') (0, 0) l → H' D = some (.dT (ptD l)) → Q (.ref D) H'
theorem unlock2 {H H2 : Hp} {d : Addr} {u : HO} (hd : H d = some u) (sm : ∀ b o, b ≠ d → H b = some o → H2 b = some o) : Same H (upd H2 d u) := fun b v e => by
  by_cases z : b = d
  · rw [z, hd] at e
    rw [z, upd_same]
    exact e
  · rw [upd_ne z]
    exact sm b v z e
theorem step_lt {n : Nat} {sg : Str} {W : List Way} (ok : okW n sg W) (hs : Signs sg) {s c : Nat} (lt : s < n) (hc : c ∈ cds sg) : step W s c < n := by
  obtain ⟨l, hl, h1, h2⟩ := ok.has hc
  have hq : s < l.length := by omega
  show (row W c).getD s 0 < n
  rw [row_eq (ok.nodup hs) hl, List.getD_eq_getElem?_getD, List.getElem?_eq_getElem hq]
  exact h2 _ (List.getElem_mem hq)
/-- all pairs of numbers below two numbers -/
def sqr (n n' : Nat) : List (Nat × Nat) := (List.range n).flatMap fun a => (List.range n').map fun b => (a, b)
theorem sqr_mem {n n' : Nat} {q : Nat × Nat} : q ∈ sqr n n' ↔ q.1 < n ∧ q.2 < n' := by
  unfold sqr
  rw [List.mem_flatMap]
  constructor
  · rintro ⟨a, ha, hb⟩
    obtain ⟨b, hb2, rfl⟩ := List.mem_map.mp hb
    exact ⟨List.mem_range.mp ha, List.mem_range.mp hb2⟩
  · rintro ⟨ha, hb⟩
    exact ⟨q.1, List.mem_range.mpr ha, List.mem_map.mpr ⟨q.2, List.mem_range.mpr hb, rfl⟩⟩
theorem sqr_len (n n' : Nat) : (sqr n n').length = n * n' := by
  unfold sqr
  rw [List.length_flatMap]
  simp only [List.length_map, List.length_range]
  induction n with
  | zero => simp
  | succ n ih => rw [List.range_succ, List.map_append, List.sum_append, ih, Nat.succ_mul]; simp
theorem pairs_lt {n n' : Nat} {sg : Str} {W W' : List Way} (ok : okW n sg W) (ok' : okW n' sg W') (hs : Signs sg) {k : Nat} : ∀ y ∈ Au.upTo (cds sg) (nxP W W') (0, 0) k, y.1.1 < n ∧ y.1.2 < n' := fun y hy => by
  obtain ⟨e, hw⟩ := Au.upTo_led (L := cds sg) (nx := nxP W W') (s := (0, 0)) (k := k) y hy
  rw [e]
  generalize y.2 = w at hw
  clear e hy
  have go : ∀ (w : List Nat) (q : Nat × Nat), q.1 < n → q.2 < n' → (∀ c ∈ w, c ∈ cds sg) → (Au.runs (nxP W W') q w).1 < n ∧ (Au.runs (nxP W W') q w).2 < n' := fun w => by
    induction w with
    | nil => exact fun q a b _ => ⟨a, b⟩
    | cons c w ih => exact fun q a b hw => ih _ (step_lt ok hs a (hw c List.mem_cons_self)) (step_lt ok' hs b (hw c List.mem_cons_self)) fun d hd => hw d (List.mem_cons_of_mem _ hd)
  exact go w _ ok.one ok'.one hw
theorem pairs_len {n n' : Nat} {sg : Str} {W W' : List Way} (ok : okW n sg W) (ok' : okW n' sg W') (hs : Signs sg) {k : Nat} : (Au.upTo (cds sg) (nxP W W') (0, 0) k).length ≤ n * n' := by
  have := nodupLe (Au.upTo_nd (L := cds sg) (nx := nxP W W') (s := (0, 0)) (k := k)) (r := sqr n n') fun x hx => by
    obtain ⟨y, hy, rfl⟩ := List.mem_map.mp hx
    exact sqr_mem.mpr (pairs_lt ok ok' hs y hy)
  rwa [List.length_map, sqr_len] at this
theorem upTo_txtP {α : Type} [DecidableEq α] (L : List Nat) (nx : Nat → α → α) (s : α) : ∀ {k : Nat}, ∀ y ∈ Au.upTo L nx s k, y.2.length ≤ k := by
  intro k
  induction k with
  | zero =>
    intro y hy
    rw [List.mem_singleton.mp hy]
    exact Nat.le_refl _
  | succ k ih =>
    cases hk : (Au.upTo L nx s k)[k]? with
    | none =>
      rw [Au.upTo_none hk]
      exact fun y hy => Nat.le_succ_of_le (ih y hy)
    | some x =>
      rw [Au.upTo_some hk]
      have hx := ih x (List.mem_of_getElem? hk)
      have go : ∀ (M : List Nat) (f : List (α × List Nat)), (∀ y ∈ f, y.2.length ≤ k + 1) → ∀ y ∈ Au.turn M nx x f, y.2.length ≤ k + 1 := fun M => by
        induction M with
        | nil => exact fun f h => h
        | cons c M ihM =>
          refine fun f h => ihM (Au.visit nx x f c) fun y hy => ?_
          unfold Au.visit at hy
          split at hy
          · exact h y hy
          · rcases List.mem_append.mp hy with hy | hy
            · exact h y hy
            · rw [List.mem_singleton.mp hy]
              show (x.2 ++ [c]).length ≤ k + 1
              rw [List.length_append]
              exact Nat.succ_le_succ hx
      exact go L _ fun y hy => Nat.le_succ_of_le (ih y hy)
theorem ok_fp {f : Addr} {fd : FuncData} (F : Fun K "first_pair_texts" "first_pair_texts" sFP f fd) (T : Txt K mg) : FnOk P w K mg base CX0 1 f fd ["one", "other", "most"] spFP := by
  refine F.ok scFP (fun vs H Q E h => ?_) (fun cdv A outer s0 H vs Q E hr h => ?_)
  · obtain ⟨d, d', n, n', mo, sg, W, W', rfl, _⟩ := h
    rfl
  · obtain ⟨d, d', n, n', mo, sg, W, W', rfl, hmo, hM, hM', hs, ok, ok', eW, q⟩ := h
    have hu := hu_of hr
    refine ⟨_, (pss_cons (ps_set (i := 3) scFP.nd rfl (Or.inl rfl) (Sr.pe_dispT hu (pe_tup (pa_cons pe_int (pa_cons pe_int pa_nil))) pe_str))
    (pss_cons (ps_set (i := 4) scFP.nd rfl (Or.inl rfl) (pe_lst (pa_cons (pe_tup (pa_cons pe_int (pa_cons pe_int pa_nil))) pa_nil)))
    (pss_cons (ps_set (i := 5) scFP.nd rfl (Or.inl rfl) pe_int)
    (pss_cons (ps_while PassesOwn.never (PW.pt (pw_and (pt_cmpR op_lt (pv 5) (pe_callB call_len_seq (by rfl) T.len PySem.boot_len (pa_cons (pv 4) pa_nil)) (nomark _)) (pw_and1 (pt_cmpR op_le (pe_callB call_len_seq (by rfl) T.len PySem.boot_len (pa_cons (pv 4) pa_nil)) (pv 2) (nomark _)))))
      (pss_cons (ps_asg (pe_ix ix_list (pv 4) (pv 5) (fun _ _ => rfl)) (pg_tup rfl (pgs_cons (pg_name (i := 6) scFP.nd rfl (Or.inl rfl)) (pgs_cons (pg_name (i := 7) scFP.nd rfl (Or.inl rfl)) pgs_nil))))
      (pss_cons (ps_lock (ps_for PassesOwn.never rfl (pi_keys (pv 0)) (pg_name (i := 8) scFP.nd rfl (Or.inl rfl))
        (pss_cons (ps_set (i := 9) scFP.nd rfl (Or.inl rfl) (pe_tup (pa_cons (pe_ix ix_tup (pe_dget hu (pv 0) (pv 8) (fun _ _ => rfl)) (pv 6) (fun _ _ => rfl)) (pa_cons (pe_ix ix_tup (pe_dget hu (pv 1) (pv 8) (fun _ _ => rfl)) (pv 7) (fun _ _ => rfl)) pa_nil))))
        (pss_one (ps_if (pt_cmp (pc_dnotin hu (pv 9) (pv 3))) (pss_cons (ps_dput hu (pv 3) (pv 9) (pe_op op_add_str (pe_dget hu (pv 3) (pe_tup (pa_cons (pv 6) (pa_cons (pv 7) pa_nil))) (fun _ _ => rfl)) (pv 8)) rfl)
          (pss_one (ps_expr (pe_bm PySem.F.plainAttrs_list PySem.F.slot_list_append PySem.F.type_list_append mt_append (pv 4) (pa_cons (pv 9) pa_nil))))) pss_nil)))))
      (pss_one (ps_set (i := 5) scFP.nd rfl (Or.inl rfl) (pe_op op_add (pv 5) pe_int))))))
    (pss_one (ps_ret (pv 3))))))), ?_⟩
    have n1 := ok.one
    have n60 := ok.most
    have n60' := ok'.most
    have small : n * n' ≤ 3600 := Nat.mul_le_mul n60 n60'
    obtain ⟨mk, ed, hw⟩ := hM
    obtain ⟨mk', ed', hw'⟩ := hM'
    have kN : mk.length = (cds sg).length := by
      rw [ways_len hw, ← eW, List.length_map]
    have hc0 : (cds sg).length ≤ 3 := by rw [cds_len]; exact (sg_len hs).2
    refine fun D nD => ⟨by show 2 ≤ sizeLine; decide, fun T0 nT0 => ?_⟩
    have s1 : Same H (upd H D (.dT [])) := same_upd nD
    have nT0D : T0 ≠ D := fun z => by rw [z, upd_same] at nT0; cases nT0
    refine ⟨by rw [upd_ne nT0D.symm]; exact upd_same, T0, Sr.tkey (two2 (0, 0)), rfl, by rw [Sr.kV_tkey]; exact upd_same, ?_⟩
    have s2 : Same H (upd (upd (upd H D (.dT [])) T0 (.tup [.int 0, .int 0])) D (.dT (ptD [((0, 0), [])]))) := fun b u e => by
      rw [upd_ne (ne_of_none e nD)]
      exact same_upd nT0 b u (s1 b u e)
    have eD2 : (upd (upd (upd H D (.dT [])) T0 (.tup [.int 0, .int 0])) D (.dT (ptD [((0, 0), [])]))) D = some (.dT (ptD [((0, 0), [])])) := upd_same
    dsimp only [gName]
    show tSeq _ _ _ _ (upd (upd (upd H D (.dT [])) T0 (.tup [.int 0, .int 0])) D (.dT (ptD [((0, 0), [])])))
    generalize upd (upd (upd H D (.dT [])) T0 (.tup [.int 0, .int 0])) D (.dT (ptD [((0, 0), [])])) = H2 at s2 eD2 ⊢
    refine ⟨by show 2 ≤ sizeLine; decide, fun T1 nT1 => ⟨by show 1 ≤ sizeLine; decide, fun Fd nF => ?_⟩⟩
    have s3 := same_upd (o := .tup [.int 0, .int 0]) nT1
    have eT1 : (upd H2 T1 (.tup [.int 0, .int 0])) T1 = some (.tup (Sr.nats (two2 (0, 0)))) := upd_same
    have s4 := same_upd (o := .lst [.ref T1]) nF
    have eF4 : (upd (upd H2 T1 (.tup [.int 0, .int 0])) Fd (.lst [.ref T1])) Fd = some (.lst [.ref T1]) := upd_same
    have s24 := s3.trans s4
    have eT4 := s4 _ _ eT1
    have nFD : Fd ≠ D := (ne_of_none (s3 _ _ eD2) nF).symm
    have nF0 : H Fd = none := by
      cases e : H Fd with
      | none => rfl
      | some u => exact absurd rfl (ne_of_none (s3 _ _ (s2 _ _ e)) nF)
    dsimp only [gName]
    generalize upd (upd H2 T1 (.tup [.int 0, .int 0])) Fd (.lst [.ref T1]) = H4 at s24 eF4 eT4 ⊢
    have s04 := s2.trans s24
    have eD4 := s24 _ _ eD2
    have ndD : d ≠ D := ne_of_none ed nD
    have ndF : d ≠ Fd := ne_of_none ed nF0
    let S := Au.upTo (cds sg) (nxP W W') (0, 0)
    have lenS : ∀ k, (S k).length ≤ n * n' := fun k => pairs_len ok ok' hs
    let Lp : Nat → L2.St → Hp → Prop := fun m σ H' => ∃ (k : Nat) (ps : List Addr) (o6 o7 o8 o9 : Option V), m = n * n' - k ∧ k ≤ (S k).length ∧ σ = [some (.ref d), some (.ref d'), some (.int mo), some (.ref D), some (.ref Fd), some (.int (k : Int)), o6, o7, o8, o9] ∧ Same H H' ∧ H' D = some (.dT (ptD (S k))) ∧ H' Fd = some (.lst (ps.map V.ref)) ∧ Sr.Tups H' ps ((S k).map fun x => two2 x.1)
    refine ⟨Lp, ⟨n * n', 0, [T1], none, none, none, none, rfl, Nat.zero_le _, rfl, s04, eD4, eF4, .cons eT4 .nil⟩, ?_⟩
    rintro m σ Hk ⟨k, ps, o6, o7, o8, o9, rfl, hk, rfl, sk, eD, eF, tk⟩
    have pl : ps.length = (S k).length := by rw [Sr.tups_len tk, List.length_map]
    refine ⟨_, rfl, _, rfl, Fd, _, rfl, .inl (SqL.of eF), _, _, rfl, rfl, _, rfl, ?_⟩
    rw [List.length_map, pl]
    dsimp only
    by_cases more : k < (S k).length
    · rw [if_pos (decide_eq_true (by omega))]
      refine ⟨_, rfl, Fd, _, rfl, .inl (SqL.of eF), _, rfl, _, _, rfl, rfl, _, rfl, ?_⟩
      have le2 : (((S k).length : Nat) : Int) ≤ mo := by
        have h1 := lenS k
        have h2 : (((S k).length : Nat) : Int) ≤ (n : Int) * (n' : Int) := by exact_mod_cast h1
        exact Int.le_trans h2 hmo
      rw [List.length_map, pl]
      dsimp only
      rw [if_pos (decide_eq_true le2)]
      refine ⟨fun σ' H' => ∃ m', m' < n * n' - k ∧ Lp m' σ' H', fun _ _ h => h, ?_⟩
      have edk := sk _ _ ed
      obtain ⟨x, hx⟩ : ∃ x, (S k)[k]? = some x := ⟨_, List.getElem?_eq_getElem more⟩
      have xm := List.mem_of_getElem? hx
      obtain ⟨xlt, xlt'⟩ := pairs_lt ok ok' hs x xm
      obtain ⟨p0, hp0⟩ : ∃ p0, ps[k]? = some p0 := ⟨_, List.getElem?_eq_getElem (by omega)⟩
      have t0 : Sr.Tup Hk p0 (two2 x.1) := Lc.each_atP tk hp0 (by rw [List.getElem?_map, hx]; rfl)
      refine ⟨_, rfl, _, rfl, Fd, _, _, _, rfl, rfl, SqL.of eF, atI_nat (by rw [List.getElem?_map, hp0]; rfl), p0, _, rfl, SqT.of t0, rfl, _, _, rfl, _, _, rfl, rfl, ?_⟩
      dsimp only [gName]
      refine ⟨d, .dK mk, edk, trivial, fun od => ?_⟩
      have e1 : S (k + 1) = Au.turn (cds sg) (nxP W W') x (S k) := Au.upTo_some hx
      let fi : Nat → List ((Nat × Nat) × List Nat) := fun i => Au.turn ((cds sg).take i) (nxP W W') x (S k)
      have fz : fi mk.length = S (k + 1) := by
        show Au.turn ((cds sg).take mk.length) _ _ _ = _
        rw [List.take_of_length_le (by omega), e1]
      have fs : ∀ i c, (cds sg)[i]? = some c → fi (i + 1) = Au.visit (nxP W W') x (fi i) c := fun i c hc => by
        show ((cds sg).take (i + 1)).foldl _ _ = _
        rw [List.take_add_one, hc, List.foldl_append]
        rfl
      have fpre : ∀ i, fi i <+: S (k + 1) := fun i => by
        rw [e1]
        have : Au.turn (cds sg) (nxP W W') x (S k) = Au.turn ((cds sg).drop i) (nxP W W') x (fi i) := by
          show (cds sg).foldl _ _ = _
          conv => lhs; rw [← List.take_append_drop i (cds sg)]
          rw [List.foldl_append]
          rfl
        rw [this]
        exact Au.turn_pre
      have fnd : ∀ i, ((fi i).map (·.1)).Nodup := fun i => Au.turn_nd Au.upTo_nd
      have fx : ∀ i, x ∈ fi i := fun i => by
        obtain ⟨t, ht⟩ := Au.turn_pre (L := (cds sg).take i) (nx := nxP W W') (x := x) (f := S k)
        have e : fi i = S k ++ t := ht.symm
        rw [e]
        exact List.mem_append_left _ xm
      have lent : x.2.length ≤ 3600 := by
        have := upTo_txtP _ _ _ x xm
        have := lenS k
        omega
      let Pv : Nat → L2.St → Hp → Prop := fun i σ H3 => i ≤ mk.length ∧ ∃ (ps : List Addr) (o8 o9 : Option V), σ = [some (.ref d), some (.ref d'), some (.int mo), some (.ref D), some (.ref Fd), some (.int (k : Int)), some (.int (x.1.1 : Int)), some (.int (x.1.2 : Int)), o8, o9] ∧ H3 d = some (.frz od (.dK mk)) ∧ (∀ b o, b ≠ d → H b = some o → H3 b = some o) ∧ H3 D = some (.dT (ptD (fi i))) ∧ H3 Fd = some (.lst (ps.map V.ref)) ∧ Sr.Tups H3 ps ((fi i).map fun x => two2 x.1)
      refine ⟨_, rfl, d, od, rfl, .inl ⟨mk, upd_same, Lc.for_keys Pv ⟨Nat.zero_le _, ps, o8, o9, rfl, upd_same, fun b o ne e => by rw [upd_ne ne]; exact sk _ _ e, by rw [upd_ne ndD.symm]; exact eD, by rw [upd_ne ndF.symm]; exact eF, tk.mono fun p t ht => by unfold Sr.Tup at ht ⊢; rw [upd_ne (fun z => by rw [z, edk] at ht; cases ht)]; exact ht⟩ (fun i σ H3 p => by obtain ⟨_, _, _, _, _, e, _⟩ := p; exact e) ?_ ?_⟩⟩
      · rintro i key v σ H3 hkv ⟨hi, ps, o8, o9, rfl, e3, sm, eD3, eF3, tk3⟩
        have hlt : i < mk.length := (List.getElem?_eq_some_iff.mp hkv).1
        obtain ⟨c, hc⟩ : ∃ c, (cds sg)[i]? = some c := ⟨_, List.getElem?_eq_getElem (by omega)⟩
        have hWi : W[i]? = some (W[i]'(by rw [← ways_len hw]; exact hlt)) := List.getElem?_eq_getElem _
        obtain ⟨pw, ekv, _⟩ : WayAt H (key, v) (W[i]'(by rw [← ways_len hw]; exact hlt)) := Lc.each_atP hw hkv hWi
        have ec : (W[i]'(by rw [← ways_len hw]; exact hlt)).1 = c := by
          have : (W.map (·.1))[i]? = some (W[i]'(by rw [← ways_len hw]; exact hlt)).1 := by rw [List.getElem?_map, hWi]; rfl
          rw [eW, hc] at this
          exact (Option.some.inj this).symm
        rw [ec] at ekv
        obtain ⟨rfl, rfl⟩ := Prod.mk.inj ekv
        have cm : c ∈ cds sg := List.mem_of_getElem? hc
        have hw3 : WsAt H3 mk W := hw.keep fun p xs e => sm p _ (fun z => by rw [z, ed] at e; cases e) e
        have hw3' : WsAt H3 mk' W' := hw'.keep fun p xs e => sm p _ (fun z => by rw [z, ed] at e; cases e) e
        obtain ⟨p1, l1, g1, r1, a1, b1⟩ := step_at ok hs hw3 cm xlt
        obtain ⟨p2, l2, g2, r2, a2, b2⟩ := step_at ok' hs hw3' cm xlt'
        have G1 : DGet H3 d (.str (one c)) (some (.ref p1)) := .inl ⟨mk, Sum.inr (one c), .inr ⟨od, e3⟩, rfl, g1.symm⟩
        have G2 : DGet H3 d' (.str (one c)) (some (.ref p2)) := by
          by_cases z : d' = d
          · have em : mk' = mk := by
              rw [z, ed] at ed'
              cases ed'
              rfl
            rw [z]
            exact .inl ⟨mk, Sum.inr (one c), .inr ⟨od, e3⟩, rfl, em ▸ g2.symm⟩
          · exact .inl ⟨mk', Sum.inr (one c), .inl (sm _ _ z ed'), rfl, g2.symm⟩
        refine ⟨_, rfl, _, rfl, d, _, rfl, G1, _, rfl, p1, _, _, _, rfl, rfl, SqT.of r1, atI_nat a1, _, rfl, _, rfl, d', _, rfl, G2, _, rfl, p2, _, _, _, rfl, rfl, SqT.of r2, atI_nat a2, by show 2 ≤ sizeLine; decide, fun Tp nTp => ?_⟩
        dsimp only [gName]
        let y : Nat × Nat := (step W x.1.1 c, step W' x.1.2 c)
        have sT := same_upd (o := .tup [.int (step W x.1.1 c : Int), .int (step W' x.1.2 c : Int)]) nTp
        have eTp : (upd H3 Tp (.tup [.int (step W x.1.1 c : Int), .int (step W' x.1.2 c : Int)])) Tp = some (.tup (Sr.nats (two2 y))) := upd_same
        have eD4 := sT _ _ eD3
        have eF4 := sT _ _ eF3
        have e34 := sT _ _ e3
        have sm4 : ∀ b o, b ≠ d → H b = some o → (upd H3 Tp (.tup [.int (step W x.1.1 c : Int), .int (step W' x.1.2 c : Int)])) b = some o := fun b o ne e => sT _ _ (sm b o ne e)
        have tk4 := tk3.mono (H' := upd H3 Tp (.tup [.int (step W x.1.1 c : Int), .int (step W' x.1.2 c : Int)])) fun p t ht => sT _ _ ht
        generalize upd H3 Tp (.tup [.int (step W x.1.1 c : Int), .int (step W' x.1.2 c : Int)]) = H4 at eTp eD4 eF4 e34 sm4 tk4 ⊢
        have e4 := fs i c hc
        have K3 : (Sr.tkey (two2 y)).map kV = Sr.nats (two2 y) := Sr.kV_tkey _
        by_cases old : y ∈ (fi i).map (·.1)
        · obtain ⟨z, hz, ez⟩ := List.mem_map.mp old
          have G3 := ptD_get (fnd i) hz
          rw [ez] at G3
          have G4 := DGet.t (k := Sr.tkey (two2 y)) eD4 (by rw [K3]; exact eTp)
          rw [G3] at G4
          refine ⟨_, rfl, _, rfl, D, _, rfl, G4, _, rfl, iteF ?_⟩
          have e5 : fi (i + 1) = fi i := by
            rw [e4]
            unfold Au.visit
            rw [if_pos old]
          exact ⟨hlt, ps, _, _, rfl, e34, sm4, by rw [e5]; exact eD4, eF4, by rw [e5]; exact tk4⟩
        · have G4 := DGet.t (k := Sr.tkey (two2 y)) eD4 (by rw [K3]; exact eTp)
          rw [ptD_off old] at G4
          have e5 : fi (i + 1) = fi i ++ [(y, x.2 ++ [c])] := by
            rw [e4]
            unfold Au.visit
            rw [if_neg old]
          have lenf : (fi i).length ≤ n * n' := Nat.le_trans (fpre i).length_le (lenS (k + 1))
          have pl3 : ps.length = (fi i).length := by rw [Sr.tups_len tk4, List.length_map]
          refine ⟨_, rfl, _, rfl, D, _, rfl, G4, _, rfl, iteT ?_⟩
          refine ⟨_, rfl, _, rfl, _, rfl, by show 2 ≤ sizeLine; decide, fun Tk nTk => ?_⟩
          have sK := same_upd (o := .tup [.int (x.1.1 : Int), .int (x.1.2 : Int)]) nTk
          have eTk : (upd H4 Tk (.tup [.int (x.1.1 : Int), .int (x.1.2 : Int)])) Tk = some (.tup (Sr.nats (two2 x.1))) := upd_same
          have eTp5 := sK _ _ eTp
          have eD5 := sK _ _ eD4
          have eF5 := sK _ _ eF4
          have e35 := sK _ _ e34
          have sm5 : ∀ b o, b ≠ d → H b = some o → (upd H4 Tk (.tup [.int (x.1.1 : Int), .int (x.1.2 : Int)])) b = some o := fun b o ne e => sK _ _ (sm4 b o ne e)
          have tk5 := tk4.mono (H' := upd H4 Tk (.tup [.int (x.1.1 : Int), .int (x.1.2 : Int)])) fun p t ht => sK _ _ ht
          generalize upd H4 Tk (.tup [.int (x.1.1 : Int), .int (x.1.2 : Int)]) = H5 at eTk eTp5 eD5 eF5 e35 sm5 tk5 ⊢
          have G5 := DGet.t (k := Sr.tkey (two2 x.1)) eD5 (by rw [Sr.kV_tkey]; exact eTk)
          rw [ptD_get (fnd i) (fx i)] at G5
          refine ⟨D, _, rfl, G5, _, rfl, tx x.2, one c, rfl, rfl, ?_, _, rfl, _, rfl, D, _, rfl, DPut.t (k := Sr.tkey (two2 y)) eD5 (by rw [K3]; exact eTp5) ?_, ?_⟩
          · rw [tx_len]
            show x.2.length + 1 ≤ sizeLine
            exact Nat.le_trans (Nat.succ_le_succ lent) (by decide)
          · unfold ptD
            rw [List.length_map]
            exact Nat.lt_of_le_of_lt (Nat.le_trans lenf small) (by decide)
          · have e6 : putK (ptD (fi i)) (Sr.tkey (two2 y)) (.str (tx x.2 ++ one c)) = ptD (fi (i + 1)) := by
              rw [L2.putK_new _ (ptD_off old), e5, one_tx, tx_app]
              unfold ptD
              rw [List.map_append]
              rfl
            rw [e6]
            have eF6 : upd H5 D (.dT (ptD (fi (i + 1)))) Fd = some (.lst (ps.map V.ref)) := by rw [upd_ne nFD]; exact eF5
            have eTp6 : upd H5 D (.dT (ptD (fi (i + 1)))) Tp = some (.tup (Sr.nats (two2 y))) := by rw [upd_ne (fun z => by rw [z, eD5] at eTp5; cases eTp5)]; exact eTp5
            refine ⟨_, rfl, .inl ⟨rfl, _, SqL.of eF6⟩, _, rfl, Fd, _, _, rfl, rfl, eF6, ?_, ?_⟩
            · rw [List.length_map, pl3]
              exact Nat.lt_of_le_of_lt (Nat.le_trans lenf small) (by decide)
            · refine ⟨hlt, ps ++ [Tp], _, _, rfl, by rw [upd_ne ndF, upd_ne ndD]; exact e35, fun b o ne e => ?_, by rw [upd_ne nFD.symm, upd_same], ?_, ?_⟩
              · rw [upd_ne (ne_of_none e nF0), upd_ne (ne_of_none e nD)]
                exact sm5 b o ne e
              · rw [upd_same, List.map_append]
                rfl
              · have keep : ∀ p t, Sr.Tup H5 p t → Sr.Tup (upd (upd H5 D (.dT (ptD (fi (i + 1))))) Fd (.lst (ps.map V.ref ++ [.ref Tp]))) p t := fun p t ht => by
                  unfold Sr.Tup at ht ⊢
                  rw [upd_ne (fun z => by rw [z, eF5] at ht; cases ht), upd_ne (fun z => by rw [z, eD5] at ht; cases ht)]
                  exact ht
                have e7 : ((fi (i + 1)).map fun x => two2 x.1) = ((fi i).map fun x => two2 x.1) ++ [two2 y] := by rw [e5, List.map_append]; rfl
                rw [e7]
                exact each_app (tk5.mono keep) (.cons (keep _ _ eTp5) .nil)
      · rintro σ H3 ⟨_, ps, o8, o9, rfl, e3, sm, eD3, eF3, tk3⟩
        rw [fz] at eD3 tk3
        refine ⟨e3, _, rfl, _, _, rfl, rfl, n * n' - (k + 1), ?_, k + 1, ps, some (.int (x.1.1 : Int)), some (.int (x.1.2 : Int)), o8, o9, rfl, ?_, ?_, ?_, by rw [upd_ne ndD.symm]; exact eD3, by rw [upd_ne ndF.symm]; exact eF3, tk3.mono fun p t ht => by unfold Sr.Tup at ht ⊢; rw [upd_ne (fun z => by rw [z, e3] at ht; cases ht)]; exact ht⟩
        · have := lenS k
          omega
        · exact Nat.le_trans more ((Au.upTo_pre (L := cds sg) (nx := nxP W W') (s := (0, 0)) (k := k)).length_le)
        · rfl
        · exact unlock2 ed sm
    · rw [if_neg (by rw [decide_eq_false (by omega)]; exact Bool.false_ne_true)]
      exact ⟨_, rfl, q D Hk (S k) nD sk ⟨k, rfl, by omega⟩ eD⟩
end
end K24

set_option Elab.async false
set_option linter.all false
set_option maxRecDepth 100000
set_option maxHeartbeats 12800000
namespace K24
open PySem L2 Tx Tg Tm Da RZ Ek It2
/-! ### parting -/
abbrev nPar : List Str := ["one", "other", "texts", "left", "right", "text"]
/-- whether a pair of states has unlike answers -/
def un2 (r r' : Rdr) (x : (Nat × Nat) × List Nat) : Bool := decide (x.1.1 ∈ r.G) != decide (x.1.2 ∈ r'.G)
def parV (r r' : Rdr) (l : List ((Nat × Nat) × List Nat)) : V := match l.find? (un2 r r') with
  | some x => .str (tx x.2)
  | none => .non
theorem iteF' {b : Bool} {A B : Prop} (h : ¬ b = true) (q : B) : if b = true then A else B := by rw [if_neg h]; exact q
theorem iteT' {b : Bool} {A B : Prop} (h : b = true) (q : A) : if b = true then A else B := by rw [if_pos h]; exact q
theorem bl_ne (a b : Bool) : (!decide (V.bl a = V.bl b)) = (a != b) := by cases a <;> cases b <;> decide
section
variable {P : Program} {w : World} {K : PySem.W.Frag} {mg : Str → Option Value} {base : Heap} {CC : Addr}
def spPar (CC : Addr) : Sp := fun vs H Q _ => ∃ (p p' : Addr) (r r' : Rdr), vs = [.ref p, .ref p'] ∧ RdAt CC H p r ∧ RdAt CC H p' r' ∧ r.sg = r'.sg ∧ ∀ H' l, Same H H' → Au.Full (cds r.sg) (nxP r.W r'.W) (0, 0) l → Q (parV r r' l) H'
end
end K24

set_option Elab.async false
set_option linter.all false
set_option maxRecDepth 100000
set_option maxHeartbeats 12800000
namespace K24
open PySem L2 Tx Tg Tm Da RZ Ek It2
/-! ### the law's own lines, first to each state -/
abbrev sFL : Stmt := top 48
abbrev nFL : List Str := ["_law_plain", "_law_found", "_law_seen", "_law_layer", "_law_longer", "_law_state", "_law_line_here", "_law_sign", "_law_later"]
theorem scFL : FnScope nFL ["_law_plain"] (defScope sFL) := ⟨rfl, rfl, rfl, by decide +kernel, rfl, by decide +kernel, by decide +kernel⟩
/-- states with lines, in tuples -/
def Ln (H : Hp) (p : Addr) (x : Nat × List Nat) : Prop := H p = some (.tup [.int (x.1 : Int), .str (tx x.2)])
def Lns (H : Hp) : List Addr → List (Nat × List Nat) → Prop := PySem.W.EachIs (Ln H)
theorem Lns.mono {H H' : Hp} {ps : List Addr} {l : List (Nat × List Nat)} (s : ∀ p x, Ln H p x → Ln H' p x) (h : Lns H ps l) : Lns H' ps l := PySem.W.EachIs.mono (fun p x e => s p x e) h
def lnD (x : Nat × List Nat) : PyData := .tuple [.int (x.1 : Int), .str (tx x.2)]
section
variable {P : Program} {w : World} {K : PySem.W.Frag} {mg : Str → Option Value} {base : Heap} {CC : Addr}
theorem Lns.dp {H : Hp} : ∀ {ps : List Addr} {l : List (Nat × List Nat)}, Lns H ps l → DpAll K H (ps.map V.ref) (l.map lnD)
  | _, _, .nil => .nil
  | _, _, .cons h t => .cons (.tup (SqT.of h) (.cons (.int _) (.cons (.str _) .nil))) (Lns.dp t)
theorem lnD_lay (l : List (Nat × List Nat)) (h : ∀ x ∈ l, ∀ c ∈ x.2, c < 128) : PyData.canLayAll0 (l.map lnD) = true := by
  induction l with
  | nil => rfl
  | cons x l ih =>
    have hx := h x List.mem_cons_self
    have e1 : PyData.canLay0 (.str (tx x.2)) = true := lay_str (z := tx x.2) hx
    show ((true && (PyData.canLay0 (.str (tx x.2)) && true)) && PyData.canLayAll0 (l.map lnD)) = true
    rw [ih fun y hy => h y (List.mem_cons_of_mem _ hy), e1]
    rfl
theorem lnD_deep (l : List (Nat × List Nat)) : PyData.depthAll (l.map lnD) ≤ 1 := by
  induction l with
  | nil => decide
  | cons x l ih =>
    show max (max 0 (max 0 0) + 1) (PyData.depthAll (l.map lnD)) ≤ 1
    exact Nat.max_le.mpr ⟨by decide, ih⟩
theorem lnD_shaped (l : List (Nat × List Nat)) (h : ∀ x ∈ l, ∀ c ∈ x.2, c < 128) : SeqAt.shaped (.list (l.map lnD)) = true := by
  unfold SeqAt.shaped
  rw [Bool.and_eq_true]
  refine ⟨lnD_lay l h, decide_eq_true ?_⟩
  show PyData.depthAll (l.map lnD) + 1 ≤ 64
  have := lnD_deep l
  omega
theorem eqv_nil : ∀ l : List PyData, PyData.eqv (.list l) (.list []) = decide (l = [])
  | [] => rfl
  | x :: l => by
    rw [decide_eq_false (fun z => nomatch z)]
    rfl
theorem each_drop {α β : Type} {R : α → β → Prop} : ∀ {ps : List α} {l : List β} (n : Nat), PySem.W.EachIs R ps l → PySem.W.EachIs R (ps.drop n) (l.drop n)
  | _, _, 0, h => h
  | _, _, n + 1, .nil => .nil
  | _, _, n + 1, .cons h t => each_drop n t
def seenD (l : List (Nat × List Nat)) : List (Key × V) := l.map fun x => ((Sum.inl (x.1 : Int) : Key), V.bl true)
theorem seenD_keys (l : List (Nat × List Nat)) : (seenD l).map (·.1) = (l.map (·.1)).map fun (n : Nat) => (Sum.inl (n : Int) : Key) := by
  unfold seenD
  rw [List.map_map, List.map_map]
  rfl
theorem seenD_off {l : List (Nat × List Nat)} {q : Nat} (h : q ∉ l.map (·.1)) : valV (seenD l) (Sum.inl (q : Int) : Key) = none := by
  refine val_off fun z => h ?_
  rw [seenD_keys] at z
  obtain ⟨a, ha, e⟩ := List.mem_map.mp z
  rw [← inl_inj e]
  exact ha
theorem seenD_on {l : List (Nat × List Nat)} (nd : (l.map (·.1)).Nodup) {q : Nat} (h : q ∈ l.map (·.1)) : valV (seenD l) (Sum.inl (q : Int) : Key) = some (.bl true) := by
  obtain ⟨x, hx, rfl⟩ := List.mem_map.mp h
  refine val_in ?_ (List.mem_map.mpr ⟨x, hx, rfl⟩)
  rw [seenD_keys]
  exact List.Pairwise.map _ (fun a b ne z => ne (inl_inj z)) nd
def spFL : Sp := fun vs H Q _ => ∃ (p : Addr) (r : Rdr), vs = [.ref p] ∧ PlainAt H p r ∧ ∀ L H' l ps, Same H H' → Au.Full (cds r.sg) (aut r).to 0 l → H' L = some (.lst (ps.map V.ref)) → Lns H' ps l → Q (.ref L) H'
theorem ok_fl {f : Addr} {fd : FuncData} (F : Fun K "_law_first_lines" "_law_first_lines" sFL f fd) (T : Txt K mg) : FnOk P w K mg base CX0 1 f fd ["_law_plain"] spFL := by
  refine F.ok scFL (fun vs H Q E h => ?_) (fun cdv A outer s0 H vs Q E hr h => ?_)
  · obtain ⟨p, r, rfl, _⟩ := h
    rfl
  · obtain ⟨p, r, rfl, hp, q⟩ := h
    have hu := hu_of hr
    refine ⟨_, (pss_cons (ps_par (i := 1) (j := 2) (by rfl) scFL.nd rfl rfl (by decide) rfl rfl (pa_cons (pe_lst (pa_cons (pe_tup (pa_cons pe_int (pa_cons pe_str pa_nil))) pa_nil)) (pa_cons (pe_disp (pps_cons pe_int pe_bl pps_nil) (by rfl) (by rfl) (fun z => by cases z) (by decide)) pa_nil)) (by rfl))
    (pss_cons (ps_set (i := 3) scFL.nd rfl (Or.inl rfl) (pe_callTy call_list_of (by rfl) T.list (by decide +kernel) (pa_cons (pv 1) pa_nil)))
    (pss_cons (ps_while PassesOwn.never (pt_cmpR (op_neD hr.units) (pv 3) (pe_lst pa_nil) (nomark _))
      (pss_cons (ps_set (i := 4) scFL.nd rfl (Or.inl rfl) (pe_lst pa_nil))
      (pss_cons (ps_for PassesOwn.never rfl (pi_list (pv 3)) (pg_tup rfl (pgs_cons (pg_name (i := 5) scFL.nd rfl (Or.inl rfl)) (pgs_cons (pg_name (i := 6) scFL.nd rfl (Or.inl rfl)) pgs_nil)))
        (pss_one (ps_for PassesOwn.never rfl (pi_str (pe_dget hu (pv 0) pe_str (fun _ _ => rfl))) (pg_name (i := 7) scFL.nd rfl (Or.inl rfl))
          (pss_cons (ps_set (i := 8) scFL.nd rfl (Or.inl rfl) (pe_ix ix_tup (pe_dget hu (pe_dget hu (pv 0) pe_str (fun _ _ => rfl)) (pv 7) (fun _ _ => rfl)) (pv 5) (fun _ _ => rfl)))
          (pss_one (ps_if (pt_cmp (pc_dnotin hu (pv 8) (pv 2))) (pss_cons (ps_dput hu (pv 2) (pv 8) pe_bl rfl)
            (pss_one (ps_expr (pe_bm PySem.F.plainAttrs_list PySem.F.slot_list_append PySem.F.type_list_append mt_append (pv 4) (pa_cons (pe_tup (pa_cons (pv 8) (pa_cons (pe_op op_add_str (pv 6) (pv 7)) pa_nil))) pa_nil))))) pss_nil))))))
      (pss_one (ps_par (i := 1) (j := 3) (by rfl) scFL.nd rfl rfl (by decide) rfl rfl (pa_cons (pe_op op_cat (pv 1) (pv 4)) (pa_cons (pe_callTy call_list_of (by rfl) T.list (by decide +kernel) (pa_cons (pv 4) pa_nil)) pa_nil)) (by rfl))))))
    (pss_one (ps_ret (pv 1)))))), ?_⟩
    have ok := hp.ok
    have n1 := ok.W.one
    have n60 := ok.W.most
    obtain ⟨d, g, g1, g2, g3, hM, hg⟩ := hp.get
    let S := Au.upTo (cds r.sg) (aut r).to 0
    have lenS : ∀ k, (S k).length ≤ r.n := fun k => upTo_len ok.W ok.sg n1
    have hc0 : (cds r.sg).length ≤ 3 := by rw [cds_len]; exact (sg_len ok.sg).2
    refine ⟨by show 2 ≤ sizeLine; decide, fun T0 nT0 => ⟨by show 1 ≤ sizeLine; decide, fun Fd nF D nD => ⟨upd_same, [((Sum.inl 0 : Key), V.bl true)], rfl, by show 1 ≤ 15; decide, ?_⟩⟩⟩
    have nT0 : H T0 = none := nT0
    have sT := same_upd (o := .tup [.int 0, .str (tx [])]) nT0
    have eT : (upd H T0 (.tup [.int 0, .str (tx [])])) T0 = some (.tup [.int 0, .str (tx [])]) := upd_same
    have nF : (upd H T0 (.tup [.int 0, .str (tx [])])) Fd = none := nF
    have sF := same_upd (o := .lst [.ref T0]) nF
    have eF : (upd (upd H T0 (.tup [.int 0, .str (tx [])])) Fd (.lst [.ref T0])) Fd = some (.lst [.ref T0]) := upd_same
    have nD : (upd (upd H T0 (.tup [.int 0, .str (tx [])])) Fd (.lst [.ref T0])) D = none := nD
    refine ⟨_, _, rfl, ?_⟩
    have s1 := sT.trans sF
    have eT1 := sF _ _ eT
    generalize hHa : upd (upd H T0 (.tup [.int 0, .str (tx [])])) Fd (.lst [.ref T0]) = Ha at s1 eF nD eT1
    have sD : Same Ha (upd (upd Ha D (.dK [])) D (.dK (seenD [(0, [])]))) := fun b u e => by rw [upd_ne (ne_of_none e nD), upd_ne (ne_of_none e nD)]; exact e
    have eD : (upd (upd Ha D (.dK [])) D (.dK (seenD [(0, [])]))) D = some (.dK (seenD [(0, [])])) := upd_same
    have eq : upd (upd (upd (upd H T0 (.tup [.int 0, .str (tx [])])) Fd (.lst [.ref T0])) D (.dK [])) D (.dK (mergeK [] [((Sum.inl 0 : Key), V.bl true)])) = upd (upd Ha D (.dK [])) D (.dK (seenD [(0, [])])) := by rw [← hHa]; rfl
    show tSeq _ _ _ _ (upd (upd (upd (upd H T0 (.tup [.int 0, .str (tx [])])) Fd (.lst [.ref T0])) D (.dK [])) D (.dK (mergeK [] [((Sum.inl 0 : Key), V.bl true)])))
    rw [eq]
    generalize upd (upd Ha D (.dK [])) D (.dK (seenD [(0, [])])) = H1 at sD eD ⊢
    have s01 := s1.trans sD
    have eF1 := sD _ _ eF
    have eT2 := sD _ _ eT1
    have nD0 : H D = none := by
      cases e : H D with
      | none => rfl
      | some u => exact absurd rfl (ne_of_none (s1 _ _ e) nD)
    refine ⟨_, rfl, Fd, _, rfl, .inl (SqL.of eF1), fun La nLa => ?_⟩
    dsimp only [tSeq, gName]
    have sL := same_upd (o := .lst [.ref T0]) nLa
    have eLa : (upd H1 La (.lst [.ref T0])) La = some (.lst [.ref T0]) := upd_same
    have eF2 := sL _ _ eF1
    have eD2 := sL _ _ eD
    have eT3 := sL _ _ eT2
    have s02 := s01.trans sL
    generalize upd H1 La (.lst [.ref T0]) = H2 at eLa eF2 eD2 eT3 s02 ⊢
    let Lp : Nat → L2.St → Hp → Prop := fun m σ H' => ∃ (a : Nat) (Fd La : Addr) (ps : List Addr) (o4 o5 o6 o7 o8 : Option V), m = r.n + 1 - a ∧ a ≤ (S a).length ∧ σ = [some (.ref p), some (.ref Fd), some (.ref D), some (.ref La), o4, o5, o6, o7, o8] ∧ Same H H' ∧ H' D = some (.dK (seenD (S a))) ∧ H' Fd = some (.lst (ps.map V.ref)) ∧ Lns H' ps (S a) ∧ H' La = some (.lst ((ps.drop a).map V.ref))
    refine ⟨Lp, ⟨r.n + 1, 0, Fd, La, [T0], none, none, none, none, none, rfl, Nat.zero_le _, rfl, s02, eD2, eF2, .cons eT3 .nil, eLa⟩, ?_⟩
    rintro m σ Hk ⟨a, Fd, La, ps, o4, o5, o6, o7, o8, rfl, ha, rfl, sk, eD, eF, each, eL⟩
    have pl : ps.length = (S a).length := each.length
    have txt : ∀ x ∈ (S a), ∀ c ∈ x.2, c < 128 := fun x hx c hc => by
      have := sg_range ok.sg c ((Au.upTo_led (L := cds r.sg) (nx := (aut r).to) (s := 0) (k := a) x hx).2 c hc)
      omega
    refine ⟨_, rfl, by show 0 ≤ sizeLine; decide, fun Ee nE => ?_⟩
    have sE := same_upd (o := .lst []) nE
    refine ⟨.list (((S a).drop a).map lnD), .list [], .lst (SqL.of (sE _ _ eL)) (Lns.dp (each_drop a (each.mono fun p x e => sE _ _ e))), .lst (SqL.of upd_same) .nil, lnD_shaped _ fun x hx => txt x (List.mem_of_mem_drop hx), rfl, _, rfl, ?_⟩
    rw [eqv_nil]
    have sk2 := sk.trans sE
    have eD2 := sE _ _ eD
    have eF2 := sE _ _ eF
    have eL2 := sE _ _ eL
    have each2 : Lns (upd Hk Ee (.lst [])) ps (S a) := each.mono fun p x e => sE _ _ e
    generalize upd Hk Ee (.lst []) = Hm at sk2 eD2 eF2 eL2 each2 ⊢
    by_cases more : a < (S a).length
    · have dne : (((S a).drop a).map lnD) ≠ [] := fun z => by
        have := congrArg List.length z
        rw [List.length_map, List.length_drop] at this
        simp at this
        omega
      refine iteT' (by rw [decide_eq_false dne]; rfl) ?_
      refine ⟨fun σ' H' => ∃ m', m' < r.n + 1 - a ∧ Lp m' σ' H', fun _ _ h => h, ?_⟩
      refine ⟨by show 0 ≤ sizeLine; decide, fun Lo nLo => ?_⟩
      dsimp only [tSeq, gName]
      have sLo := same_upd (o := .lst []) nLo
      have sk3 := sk2.trans sLo
      have eD3 := sLo _ _ eD2
      have eF3 := sLo _ _ eF2
      have eL3 := sLo _ _ eL2
      have each3 : Lns (upd Hm Lo (.lst [])) ps (S a) := each2.mono fun p x e => sLo _ _ e
      have eLo : (upd Hm Lo (.lst [])) Lo = some (.lst []) := upd_same
      have LoD : Lo ≠ D := (ne_of_none eD2 nLo).symm
      have LoF : Lo ≠ Fd := (ne_of_none eF2 nLo).symm
      have LoL : Lo ≠ La := (ne_of_none eL2 nLo).symm
      have nLo0 : H Lo = none := by
        cases e : H Lo with
        | none => rfl
        | some u => exact absurd rfl (ne_of_none (sk2 _ _ e) nLo)
      generalize upd Hm Lo (.lst []) = Hn at sk3 eD3 eF3 eL3 each3 eLo ⊢
      let a' := (S a).length
      /- what holds while C has been found -/
      let Pc : List (Nat × List Nat) → Hp → Prop := fun C H3 => Same H H3 ∧ H3 D = some (.dK (seenD C)) ∧ H3 Fd = some (.lst (ps.map V.ref)) ∧ Lns H3 ps (S a) ∧ H3 La = some (.lst ((ps.drop a).map V.ref)) ∧ ∃ ks : List Addr, H3 Lo = some (.lst (ks.map V.ref)) ∧ Lns H3 ks (C.drop a')
      let Pj : Nat → L2.St → Hp → Prop := fun j σ H3 => ∃ o5 o6 o7 o8 : Option V, σ = [some (.ref p), some (.ref Fd), some (.ref D), some (.ref La), some (.ref Lo), o5, o6, o7, o8] ∧ Pc (S (a + j)) H3
      have pd : (ps.drop a).length = a' - a := by rw [List.length_drop, pl]
      refine ⟨_, rfl, La, rfl, ⟨_, SqL.of eL3⟩, for_list (xs := (ps.drop a).map V.ref) Pj ⟨o5, o6, o7, o8, rfl, sk3, eD3, eF3, each3, eL3, [], eLo, by rw [Nat.add_zero, List.drop_eq_nil_of_le (Nat.le_refl _)]; exact .nil⟩ (fun j σ H3 _ z => by obtain ⟨_, _, _, _, _, _, _, _, _, e, _⟩ := z; exact SqL.of e) ?_ ?_⟩
      · rintro j v σ H3 hv ⟨o5, o6, o7, o8, rfl, s3, d3, f3, l3, la3, ks, lo3, k3⟩
        rw [List.getElem?_map, List.getElem?_drop] at hv
        cases hpj : ps[a + j]? with
        | none => rw [hpj] at hv; cases hv
        | some pj =>
          rw [hpj] at hv
          cases hv
          have jlt : a + j < a' := by rw [show a' = ps.length from pl.symm]; exact (List.getElem?_eq_some_iff.mp hpj).1
          obtain ⟨x, hx⟩ : ∃ x, (S a)[a + j]? = some x := ⟨_, List.getElem?_eq_getElem jlt⟩
          have tx0 : Ln H3 pj x := Lc.each_atP l3 hpj hx
          have pre : S a <+: S (a + j) := Au.upTo_le (Nat.le_add_right _ _)
          have hx2 : (S (a + j))[a + j]? = some x := by
            obtain ⟨t, ht⟩ := pre
            rw [← ht, List.getElem?_append_left jlt]
            exact hx
          have xm := List.mem_of_getElem? hx
          have xlt := upTo_lt ok.W ok.sg n1 x xm
          have lent : x.2.length ≤ 60 := by
            have := upTo_txt _ _ _ x xm
            have := lenS a
            omega
          have e1 : S (a + j + 1) = Au.turn (cds r.sg) (aut r).to x (S (a + j)) := Au.upTo_some hx2
          let fi : Nat → List (Nat × List Nat) := fun i => Au.turn ((cds r.sg).take i) (aut r).to x (S (a + j))
          have fs : ∀ i c, (cds r.sg)[i]? = some c → fi (i + 1) = Au.visit (aut r).to x (fi i) c := fun i c hc => by
            show ((cds r.sg).take (i + 1)).foldl _ _ = _
            rw [List.take_add_one, hc, List.foldl_append]
            rfl
          have fpre : ∀ i, fi i <+: S (a + j + 1) := fun i => by
            rw [e1]
            have : Au.turn (cds r.sg) (aut r).to x (S (a + j)) = Au.turn ((cds r.sg).drop i) (aut r).to x (fi i) := by
              show (cds r.sg).foldl _ _ = _
              conv => lhs; rw [← List.take_append_drop i (cds r.sg)]
              rw [List.foldl_append]
              rfl
            rw [this]
            exact Au.turn_pre
          have fnd : ∀ i, ((fi i).map (·.1)).Nodup := fun i => Au.turn_nd Au.upTo_nd
          have fle : ∀ i, a' ≤ (fi i).length := fun i => by
            have : S (a + j) <+: fi i := Au.turn_pre
            exact (pre.trans this).length_le
          refine ⟨pj, _, rfl, SqT.of tx0, rfl, _, _, rfl, _, _, rfl, rfl, ?_⟩
          dsimp only [gName]
          obtain ⟨dq, gq, gq1, gq2, gq3, _, _⟩ := (hp.same s3).get
          refine ⟨_, rfl, p, _, rfl, gq1, _, rfl, ?_⟩
          refine Lc.for_text (x := r.sg) (fun i σ H4 => ∃ o7 o8 : Option V, σ = [some (.ref p), some (.ref Fd), some (.ref D), some (.ref La), some (.ref Lo), some (.int (x.1 : Int)), some (.str (tx x.2)), o7, o8] ∧ Pc (fi i) H4) ⟨o7, o8, rfl, s3, d3, f3, l3, la3, ks, lo3, k3⟩ ?_ ?_
          · rintro i c σ H4 hc ⟨o7, o8, rfl, s4, d4, f4, l4, la4, ks, lo4, k4⟩
            have cm : c ∈ cds r.sg := List.mem_of_getElem? hc
            obtain ⟨dw, gw, gw1, gw2, gw3, ⟨mk, ed, hw⟩, _⟩ := (hp.same s4).get
            obtain ⟨p1, l1, g1, r1, a1, b1⟩ := step_at ok.W ok.sg hw cm xlt
            have G1 : DGet H4 dw (.str (one c)) (some (.ref p1)) := .inl ⟨mk, Sum.inr (one c), .inl ed, rfl, g1.symm⟩
            refine ⟨_, rfl, p, _, rfl, gw2, _, rfl, dw, _, rfl, G1, _, rfl, p1, _, _, _, rfl, rfl, SqT.of r1, atI_nat a1, ?_⟩
            dsimp only [gName]
            have e4 := fs i c hc
            have G3 := DGet.k (k := (Sum.inl (step r.W x.1 c : Int) : Key)) d4
            by_cases old : step r.W x.1 c ∈ (fi i).map (·.1)
            · rw [seenD_on (fnd i) old] at G3
              refine ⟨_, rfl, _, rfl, D, _, rfl, G3, _, rfl, iteF ?_⟩
              have e5 : fi (i + 1) = fi i := by
                rw [e4]
                unfold Au.visit
                exact if_pos old
              exact ⟨_, _, rfl, by rw [e5]; exact ⟨s4, d4, f4, l4, la4, ks, lo4, k4⟩⟩
            · rw [seenD_off old] at G3
              have e5 : fi (i + 1) = fi i ++ [(step r.W x.1 c, x.2 ++ [c])] := by
                rw [e4]
                unfold Au.visit
                exact if_neg old
              have lenf : (fi i).length ≤ 60 := Nat.le_trans (Nat.le_trans (fpre i).length_le (lenS (a + j + 1))) n60
              refine ⟨_, rfl, _, rfl, D, _, rfl, G3, _, rfl, iteT ?_⟩
              refine ⟨_, rfl, _, rfl, D, _, rfl, DPut.k (k := (Sum.inl (step r.W x.1 c : Int) : Key)) d4 ?_, ?_⟩
              · unfold seenD
                rw [List.length_map]
                exact Nat.lt_of_le_of_lt lenf (by decide)
              · have e6 : putK (seenD (fi i)) (Sum.inl (step r.W x.1 c : Int) : Key) (.bl true) = seenD (fi (i + 1)) := by
                  rw [L2.putK_new _ (seenD_off old), e5]
                  unfold seenD
                  rw [List.map_append]
                  rfl
                rw [e6]
                have kp : ∀ b u, b ≠ D → H4 b = some u → (upd H4 D (.dK (seenD (fi (i + 1))))) b = some u := fun b u ne e => by rw [upd_ne ne]; exact e
                have s5 : Same H (upd H4 D (.dK (seenD (fi (i + 1))))) := fun b u e => kp b u (ne_of_none e nD0) (s4 b u e)
                have d5 : (upd H4 D (.dK (seenD (fi (i + 1))))) D = some (.dK (seenD (fi (i + 1)))) := upd_same
                have f5 := kp Fd _ (fun z => by rw [z, d4] at f4; cases f4) f4
                have la5 := kp La _ (fun z => by rw [z, d4] at la4; cases la4) la4
                have lo5 := kp Lo _ LoD lo4
                have kln : ∀ q y, Ln H4 q y → Ln (upd H4 D (.dK (seenD (fi (i + 1))))) q y := fun q y e => kp q _ (fun z => by unfold Ln at e; rw [z, d4] at e; cases e) e
                have l5 := l4.mono kln
                have k5 := Lns.mono kln k4
                generalize upd H4 D (.dK (seenD (fi (i + 1)))) = H5 at s5 d5 f5 la5 lo5 l5 k5 ⊢
                have kl : ks.length = (fi i).length - a' := by rw [k4.length, List.length_drop]
                refine ⟨_, rfl, .inl ⟨rfl, _, SqL.of lo5⟩, _, rfl, _, rfl, _, rfl, tx x.2, one c, rfl, rfl, ?_, by show 2 ≤ sizeLine; decide, fun Tn nTn => ⟨Lo, ks.map V.ref, _, rfl, rfl, ?_, ?_, ?_⟩⟩
                · rw [tx_len]
                  show x.2.length + 1 ≤ sizeLine
                  exact Nat.le_trans (Nat.succ_le_succ lent) (by decide)
                · exact same_upd nTn _ _ lo5
                · rw [List.length_map, kl]
                  exact Nat.lt_of_le_of_lt (show _ ≤ 60 by omega) (by decide)
                · have sTn := same_upd (o := .tup [.int (step r.W x.1 c : Int), .str (tx x.2 ++ one c)]) nTn
                  have eTn : (upd H5 Tn (.tup [.int (step r.W x.1 c : Int), .str (tx x.2 ++ one c)])) Tn = some (.tup [.int (step r.W x.1 c : Int), .str (tx x.2 ++ one c)]) := upd_same
                  have s6 := s5.trans sTn
                  have d6 := sTn _ _ d5
                  have f6 := sTn _ _ f5
                  have la6 := sTn _ _ la5
                  have lo6 := sTn _ _ lo5
                  have l6 := l5.mono fun q y e => sTn _ _ e
                  have k6 := Lns.mono (fun q y e => sTn _ _ e) k5
                  generalize upd H5 Tn (.tup [.int (step r.W x.1 c : Int), .str (tx x.2 ++ one c)]) = H6 at eTn s6 d6 f6 la6 lo6 l6 k6 ⊢
                  have kp2 : ∀ b u, b ≠ Lo → H6 b = some u → (upd H6 Lo (.lst (ks.map V.ref ++ [.ref Tn]))) b = some u := fun b u ne e => by rw [upd_ne ne]; exact e
                  have kln2 : ∀ q y, Ln H6 q y → Ln (upd H6 Lo (.lst (ks.map V.ref ++ [.ref Tn]))) q y := fun q y e => kp2 q _ (fun z => by unfold Ln at e; rw [z, lo6] at e; cases e) e
                  refine ⟨_, _, rfl, fun b u e => kp2 b u (ne_of_none e nLo0) (s6 b u e), kp2 _ _ LoD.symm d6, kp2 _ _ LoF.symm f6, l6.mono kln2, kp2 _ _ LoL.symm la6, ks ++ [Tn], by rw [upd_same, List.map_append]; rfl, ?_⟩
                  rw [e5, List.drop_append_of_le_length (fle i)]
                  refine each_app (Lns.mono kln2 k6) (.cons (kln2 _ _ ?_) .nil)
                  unfold Ln
                  rw [eTn, one_tx, tx_app]
          · rintro σ H4 ⟨o7, o8, rfl, z⟩
            refine ⟨_, _, _, _, rfl, ?_⟩
            have ez : fi (cds r.sg).length = S (a + (j + 1)) := by
              show Au.turn ((cds r.sg).take (cds r.sg).length) _ _ _ = _
              rw [List.take_length, show a + (j + 1) = a + j + 1 from rfl, e1]
            rw [← ez]
            exact z
      · rintro σ H3 ⟨o5, o6, o7, o8, rfl, s3, d3, f3, l3, la3, ks, lo3, k3⟩
        have ea : a + (List.map V.ref (ps.drop a)).length = a' := by
          rw [List.length_map, pd]
          omega
        rw [ea] at d3 k3
        have kl : ks.length = (S a').length - a' := by rw [k3.length, List.length_drop]
        have lenA := lenS a'
        have lenA2 := lenS a
        refine ⟨_, rfl, _, rfl, Fd, Lo, _, _, rfl, rfl, f3, lo3, ?_, fun Fn nFn => ?_⟩
        · rw [List.length_map, List.length_map, pl, kl]
          exact Nat.le_trans (show _ ≤ 200 by omega) (by decide)
        · have sFn := same_upd (o := .lst (ps.map V.ref ++ ks.map V.ref)) nFn
          have eFn : (upd H3 Fn (.lst (ps.map V.ref ++ ks.map V.ref))) Fn = some (.lst (ps.map V.ref ++ ks.map V.ref)) := upd_same
          have s6 := s3.trans sFn
          have d6 := sFn _ _ d3
          have lo6 := sFn _ _ lo3
          have l6 := l3.mono fun q y e => sFn _ _ e
          have k6 := Lns.mono (fun q y e => sFn _ _ e) k3
          refine ⟨_, rfl, Lo, _, rfl, .inl (SqL.of lo6), fun Ln nLn => ?_⟩
          generalize upd H3 Fn (.lst (ps.map V.ref ++ ks.map V.ref)) = H6 at eFn s6 d6 lo6 l6 k6 nLn ⊢
          have sLn := same_upd (o := .lst (ks.map V.ref)) nLn
          refine ⟨_, _, rfl, ?_⟩
          have pre : S a <+: S a' := Au.upTo_le ha
          have eS : S a' = S a ++ (S a').drop a' := by
            obtain ⟨t, ht⟩ := pre
            rw [← ht, List.drop_append_of_le_length (Nat.le_refl _), List.drop_length]
            rfl
          refine ⟨r.n + 1 - a', by omega, a', Fn, Ln, ps ++ ks, _, _, _, _, _, rfl, pre.length_le, rfl, s6.trans sLn, sLn _ _ d6, by rw [List.map_append]; exact sLn _ _ eFn, ?_, ?_⟩
          · rw [eS]
            exact each_app (l6.mono fun q y e => sLn _ _ e) (Lns.mono (fun q y e => sLn _ _ e) k6)
          · rw [List.drop_append_of_le_length (show a' ≤ ps.length by rw [pl]; exact Nat.le_refl _), List.drop_eq_nil_of_le (show ps.length ≤ a' by rw [pl]; exact Nat.le_refl _)]
            exact upd_same
    · have dn : (S a).drop a = [] := List.drop_eq_nil_of_le (by omega)
      refine iteF' (by rw [dn]; exact Bool.false_ne_true) ?_
      exact ⟨_, rfl, q Fd Hm (S a) ps sk2 ⟨a, rfl, by omega⟩ eF2 each2⟩
end
end K24

set_option Elab.async false
set_option linter.all false
set_option maxRecDepth 100000
set_option maxHeartbeats 3200000
/-! [f(c) for c in a text] -/
namespace Lc
open PySem L2 Tx Tg Tm RZ
theorem lcXS {x : Str} {j : Nat} {te : TE} {σ : L2.St} {H1 : Hp} {D : Addr} {Qd : Hp → Prop} {ys : List V} (nD : H1 D = none) (len : (cds x).length = ys.length) (few : (cds x).length < sizeLine)
    (hw : ∀ v, wipe ((wipe σ [j]).set j (some v)) [j] = wipe σ [j])
    (step : ∀ (i c : Nat) (y : V) (H2 : Hp), (cds x)[i]? = some c → ys[i]? = some y → Same H1 H2 → ∀ Q : VK, (∀ H3, Same H2 H3 → Q y H3) → te ((wipe σ [j]).set j (some (.str (one c)))) H2 Q) (done : ∀ H2, Same H1 H2 → H2 D = some (.lst ys) → Qd H2) :
    ∃ W : Nat → Nat → Hp → Prop, (∃ m, W 0 m (upd H1 D (.lst []))) ∧ ∀ i m H, W i m H →
      ((Its x).stop i H ∧ Qd H) ∨ ((Its x).go i H ∧ ∃ B : Hp → Prop, (∀ H', B H' → ∃ m', m' < m ∧ W (i + 1) m' H') ∧ ∀ v H', (Its x).yld i H v H' → gName j v (wipe σ [j]) H' fun σ2 H2 => wipe σ2 [j] = wipe σ [j] ∧ tYes σ2 H2 fun b H3 =>
        if b = true then te σ2 H3 fun y H4 => ∃ acc, H4 D = some (.lst acc) ∧ acc.length < sizeLine ∧ B (upd H4 D (.lst (acc ++ [y]))) else B H3) := by
  refine lc_text (fun i H => Same H1 H ∧ H D = some (.lst (ys.take i))) ⟨same_upd nD, upd_same⟩ ?_ ?_
  · rintro i c H hc ⟨s2, e2⟩
    have lt := (List.getElem?_eq_some_iff.mp hc).1
    have hy := List.getElem?_eq_getElem (l := ys) (i := i) (by omega)
    refine ⟨hw _, iteT (B := False) (step i c _ _ hc hy s2 _ fun H3 s3 => ⟨_, s3 _ _ e2, ?_, same_put (s2.trans s3) nD, ?_⟩)⟩
    · rw [List.length_take]
      omega
    · rw [upd_same, List.take_add_one, hy]
      rfl
  · rintro H ⟨s2, e2⟩
    refine done H s2 ?_
    rwa [len, List.take_of_length_le (Nat.le_refl _)] at e2
end Lc

set_option Elab.async false
set_option linter.all false
set_option maxRecDepth 100000
set_option maxHeartbeats 12800000
namespace K24
open PySem L2 Tx Tg Tm Da RZ Ek It2
/-! ### the law's own marks -/
abbrev sKin : Stmt := top 49
abbrev nKin : List Str := ["_law_plain", "_law_many", "_law_marks", "_law_last", "_law_rows", "_law_known", "_law_at", "_law_sign", "_law_row"]
theorem scKin : FnScope nKin ["_law_plain"] (defScope sKin) := ⟨rfl, rfl, rfl, by decide +kernel, rfl, by decide +kernel, by decide +kernel⟩
theorem dp_nats {K : PySem.W.Frag} {H : Hp} : ∀ l : List Nat, DpAll K H (natsV l) (Sr.natsD l)
  | [] => .nil
  | n :: l => .cons (.int _) (dp_nats l)
theorem eqv_tup (t u : List Nat) : PyData.eqv (Sr.tupD t) (Sr.tupD u) = decide (t = u) := Sr.eqvN t u
theorem shaped_tup (t : List Nat) : SeqAt.shaped (Sr.tupD t) = true := by
  unfold SeqAt.shaped
  rw [Bool.and_eq_true]
  refine ⟨Sr.canLay t, decide_eq_true ?_⟩
  rw [Sr.depth_tup]
  decide
theorem shaped_tups (ts : List (List Nat)) : SeqAt.shaped (.list (ts.map fun t => Sr.tupD t)) = true := by
  unfold SeqAt.shaped
  rw [Bool.and_eq_true]
  constructor
  · induction ts with
    | nil => rfl
    | cons t ts ih =>
      show (PyData.canLay0 (Sr.tupD t) && PyData.canLayAll0 (ts.map fun t => Sr.tupD t)) = true
      rw [show PyData.canLay0 (Sr.tupD t) = true from Sr.canLay t]
      exact ih
  · refine decide_eq_true ?_
    have : PyData.depthAll (ts.map fun t => Sr.tupD t) ≤ 1 := by
      induction ts with
      | nil => decide
      | cons t ts ih =>
        show max _ (PyData.depthAll (ts.map fun t => Sr.tupD t)) ≤ 1
        exact Nat.max_le.mpr ⟨Nat.le_of_eq (Sr.depth_tup t), ih⟩
    show PyData.depthAll (ts.map fun t => Sr.tupD t) + 1 ≤ 64
    omega
section
variable {P : Program} {w : World} {K : PySem.W.Frag} {mg : Str → Option Value} {base : Heap} {CC : Addr}
def spKin : Sp := fun vs H Q _ => ∃ (p : Addr) (r : Rdr), vs = [.ref p] ∧ PlainAt H p r ∧ ∀ L H' ks, Same H H' → H' L = some (.lst (natsV ks)) → ks.length = r.n → (∀ x ∈ ks, x < 62) → Au.Ner (cds r.sg) (aut r) (mk ks) → Q (.ref L) H'
theorem ok_kin {f : Addr} {fd : FuncData} (F : Fun K "_law_kin" "_law_kin" sKin f fd) (T : Txt K mg) : FnOk P w K mg base CX0 1 f fd ["_law_plain"] spKin := by
  refine F.ok scKin (fun vs H Q E h => ?_) (fun cdv A outer s0 H vs Q E hr h => ?_)
  · obtain ⟨p, r, rfl, _⟩ := h
    rfl
  · obtain ⟨p, r, rfl, hp, q⟩ := h
    have hu := hu_of hr
    have hu65 : (A.deeper (PyProof.Rows.envOfC "_law_kin" (defScope sKin) s0.heap.objs.size f cdv)).units + 65 < cLine := by
      have := hr.un
      omega
    refine ⟨_, (pss_cons (ps_set (i := 1) scKin.nd rfl (Or.inl rfl) (pe_callB call_len_seq (by rfl) T.len PySem.boot_len (pa_cons (pe_dget hu (pe_dget hu (pv 0) pe_str (fun _ _ => rfl)) (pe_ix ix_str (pe_dget hu (pv 0) pe_str (fun _ _ => rfl)) pe_int (fun _ _ => rfl)) (fun _ _ => rfl)) pa_nil)))
    (pss_cons (ps_asg (pe_tup (pa_cons (pe_lc (own := [("_law_at", 6)]) (g := (gName 6)) (tt := tYes) (te := tCB _ (tCons (tOp (rIn K false) (tVar 6) (tDGet (tVar 0) (tC (V.str "good")))) tNil)) rfl scKin.nd (pi_range1 rfl T.range (pa_cons (pv 1) pa_nil)) (blkOk_by (own := [("_law_at", 6)]) (N := nKin) (sc := defScope sKin) (by decide +kernel)) (fun _ _ _ _ _ => (pg_name (i := 6) scKin.nd rfl (by first | exact Or.inl rfl | exact Or.inr rfl))) (fun _ _ _ _ _ => pts_nil) (fun _ _ _ _ _ => (pe_callTy call_int1 (by rfl) T.int (by decide +kernel) (pa_cons (pe_cmpR op_in_seq (pv 6) (pe_dget hu (pv 0) pe_str (fun _ _ => rfl)) (by rfl)) pa_nil)))) (pa_cons pe_int pa_nil))) (pg_tup rfl (pgs_cons (pg_name (i := 2) scKin.nd rfl (by first | exact Or.inl rfl | exact Or.inr rfl)) (pgs_cons (pg_name (i := 3) scKin.nd rfl (by first | exact Or.inl rfl | exact Or.inr rfl)) pgs_nil))))
    (pss_cons (ps_while PassesOwn.never (pt_cmpR op_gt (pe_lenSetD rfl (by rfl) T.len (by rfl) T.set (pv 2)) (pv 3) (nomark _))
      (pss_cons (ps_set (i := 3) scKin.nd rfl (Or.inl rfl) (pe_lenSetD rfl (by rfl) T.len (by rfl) T.set (pv 2)))
      (pss_cons (ps_setLc (i := 4) (own := [("_law_at", 6)]) (g := (gName 6)) (tt := tYes) (te := tOp (rCatA K) (tTup (tCons (tOp (rIxL K) (tVar 2) (tVar 6)) tNil)) (tCB (rTupOf K) (tCons (tLc (iStr (tDGet (tVar 0) (tC (V.str "signs")))) (gName 7) tYes (tOp (rIxL K) (tVar 2) (tOp (rIxT K) (tDGet (tDGet (tVar 0) (tC (V.str "ways"))) (tVar 7)) (tVar 6))) [7]) tNil))) (by rfl) scKin.nd rfl rfl (sw_true rfl rfl rfl (by decide +kernel)) (pi_range1 rfl T.range (pa_cons (pv 1) pa_nil)) (blkOk_by (own := [("_law_at", 6)]) (N := nKin) (sc := defScope sKin) (by decide +kernel)) (fun _ _ _ _ _ => (pg_name (i := 6) scKin.nd rfl (by first | exact Or.inl rfl | exact Or.inr rfl))) (fun _ _ _ _ _ => pts_nil) (fun _ _ _ _ _ => (pe_op op_catA (pe_tup (pa_cons (pe_ix ix_list (pv 2) (pv 6) (fun _ _ => rfl)) pa_nil)) (pe_callTy call_tuple_of (by rfl) T.tuple (by decide +kernel) (pa_cons (pe_lc (own := [("_law_sign", 7)]) (g := (gName 7)) (tt := tYes) (te := tOp (rIxL K) (tVar 2) (tOp (rIxT K) (tDGet (tDGet (tVar 0) (tC (V.str "ways"))) (tVar 7)) (tVar 6))) rfl scKin.nd (pi_str (pe_dget hu (pv 0) pe_str (fun _ _ => rfl))) (blkOk_by (own := [("_law_sign", 7)]) (N := nKin) (by rfl)) (fun _ _ _ _ _ => (pg_name (i := 7) scKin.nd rfl (by first | exact Or.inl rfl | exact Or.inr rfl))) (fun _ _ _ _ _ => pts_nil) (fun _ _ _ _ _ => (pe_ix ix_list (pv 2) (pe_ix ix_tup (pe_dget hu (pe_dget hu (pv 0) pe_str (fun _ _ => rfl)) (pv 7) (fun _ _ => rfl)) (pv 6) (fun _ _ => rfl)) (fun _ _ => rfl)))) pa_nil)))))
      (pss_cons (ps_set (i := 5) scKin.nd rfl (Or.inr rfl) (pe_callB (cr_sortedT rfl) (by rfl) T.sorted (by decide +kernel) (pa_cons (pe_callTy (cr_setOfT rfl hr.units) (by rfl) T.set (by decide +kernel) (pa_cons (pv 4) pa_nil)) pa_nil)))
      (pss_one (ps_set (i := 2) scKin.nd rfl (Or.inr rfl) (pe_lc (own := [("_law_row", 8)]) (g := (gName 8)) (tt := tYes) (te := tBM K "list" (rIndexD K) (tVar 5) (tCons (tVar 8) tNil)) rfl scKin.nd (pi_list (pv 4)) (blkOk_by (own := [("_law_row", 8)]) (N := nKin) (sc := defScope sKin) (by decide +kernel)) (fun _ _ _ _ _ => (pg_name (i := 8) scKin.nd rfl (by first | exact Or.inl rfl | exact Or.inr rfl))) (fun _ _ _ _ _ => pts_nil) (fun _ _ _ _ _ => (pe_bm PySem.F.plainAttrs_list PySem.F.slot_list_index PySem.F.type_list_index (mt_indexD hu65) (pv 5) (pa_cons (pv 8) pa_nil))))))))))
    (pss_one (ps_ret (pv 2)))))), ?_⟩
    have ok := hp.ok
    obtain ⟨d, g, g1, g2, g3, ⟨kvs, ed, hw⟩, hg⟩ := hp.get
    have n1 := ok.W.one
    have n60 := ok.W.most
    have fit := fit_of ok
    have sgl : r.sg.length ≤ sizeLine := Nat.le_trans (sg_len ok.sg).2 (by decide)
    obtain ⟨x0, hx0, mx0⟩ := sg_head ok.sg
    obtain ⟨l0, hl0, ll0, lq0⟩ := ok.W.has mx0
    obtain ⟨p0, g0, r0⟩ := ways_get hw (ok.W.nodup ok.sg) hl0
    have G0 : DGet H d (.str (one x0)) (some (.ref p0)) := by
      have := DGet.k (k := (Sum.inr (one x0) : Key)) ed
      rw [g0] at this
      exact this
    refine ⟨_, rfl, p, _, rfl, g2, _, rfl, p, _, rfl, g1, r.sg, 0, x0, rfl, rfl, sgl, atI_nat (j := 0) hx0, d, _, rfl, G0, p0, _, rfl, .inr (SqT.of r0), ?_⟩
    rw [List.length_map, ll0]
    have tn : ((r.n : Nat) : Int).toNat = r.n := Int.toNat_natCast _
    dsimp only [gName]
    let k0 : List Nat := (List.range r.n).map fun s => if s ∈ r.G then 1 else 0
    have k0l : k0.length = r.n := by simp [k0]
    have k0g : ∀ s, s < r.n → mk k0 s = if s ∈ r.G then 1 else 0 := fun s hs => by
      unfold mk
      rw [List.getD_eq_getElem?_getD, List.getElem?_eq_getElem (by omega)]
      simp [k0]
    refine ⟨_, rfl, _, rfl, by omega, by omega, fun L nL => ?_⟩
    rw [tn]
    refine Lc.lcRS nL (ys := natsV k0) (by rw [List.length_map, k0l]) (Nat.lt_of_le_of_lt n60 (by decide)) (fun _ => rfl) (fun i y H2 hi hy s2 Q' q' => ?_) fun H2 s2 e2 => ?_
    · obtain ⟨d2, gg2, h21, h22, h23, _, hg2⟩ := (hp.same s2).get
      refine ⟨_, rfl, _, rfl, p, _, rfl, h23, gg2, _, rfl, .inr (SqT.of hg2), rfl, List.all_eq_true.mpr (flat_nats _), .inr ⟨_, rfl, ?_⟩⟩
      rw [Int.zero_add, inV_nats]
      have ey : y = .int ((if i ∈ r.G then 1 else 0 : Nat) : Int) := by
        have e : (natsV k0)[i]? = some (.int ((if i ∈ r.G then 1 else 0 : Nat) : Int)) := by
          rw [List.getElem?_map, List.getElem?_eq_getElem (by omega)]
          simp [k0]
        rw [e] at hy
        exact (Option.some.inj hy).symm
      by_cases hG2 : i ∈ r.G
      · rw [if_pos hG2] at ey
        rw [ey] at q'
        rw [decide_eq_true hG2]
        exact q' H2 (Same.refl _)
      · rw [if_neg hG2] at ey
        rw [ey] at q'
        rw [decide_eq_false hG2]
        exact q' H2 (Same.refl _)
    refine ⟨by show 2 ≤ sizeLine; decide, fun T0 nT0 => ?_⟩
    have sT0 := same_upd (o := .tup [.ref L, .int 0]) nT0
    have eL0 := sT0 _ _ e2
    have sT1 := s2.trans sT0
    refine ⟨T0, _, rfl, SqT.of upd_same, rfl, _, _, rfl, _, _, rfl, rfl, ?_⟩
    dsimp only [tSeq, gName]
    generalize upd H2 T0 (.tup [.ref L, .int 0]) = H1 at eL0 sT1 ⊢
    have s1 : Same H H1 := sT1
    have sT : Same H1 H1 := Same.refl _
    have mo0 : Au.Mo (cds r.sg) (aut r) (mk k0) := .zero fun s t hs ht => by
      rw [k0g s hs, k0g t ht]
      show _ ↔ decide (s ∈ r.G) = decide (t ∈ r.G)
      by_cases a : s ∈ r.G <;> by_cases b : t ∈ r.G <;> simp [a, b]
    have k0b : ∀ x ∈ k0, x < 62 := fun x hx => by
      obtain ⟨s, _, rfl⟩ := List.mem_map.mp hx
      split <;> decide
    let Lp : Nat → L2.St → Hp → Prop := fun m σ H' => ∃ (ks : List Nat) (Lk : Addr) (many : Nat) (o4 o5 : Option V), m = r.n + 1 - many ∧ σ = [some (.ref p), some (.int (r.n : Int)), some (.ref Lk), some (.int (many : Int)), o4, o5, none, none, none] ∧ Same H1 H' ∧ H' Lk = some (.lst (natsV ks)) ∧ ks.length = r.n ∧ (∀ x ∈ ks, x < 62) ∧ Au.Mo (cds r.sg) (aut r) (mk ks) ∧ many ≤ r.n ∧
      (many = 0 ∨ ∃ m0, Au.Mo (cds r.sg) (aut r) m0 ∧ Au.Next (cds r.sg) (aut r) m0 (mk ks) ∧ Au.Cnt ((List.range r.n).map m0) many)
    refine ⟨Lp, ⟨_, k0, L, 0, none, none, rfl, rfl, sT, eL0, k0l, k0b, mo0, Nat.zero_le _, .inl rfl⟩, ?_⟩
    rintro m σ Hk ⟨ks, Lk, many, o4, o5, rfl, rfl, sk, eL, kl, kb, mo, hm, last⟩
    have isL : SqL K Hk Lk ((ks.map fun (k : Nat) => (k : Int)).map V.int) := by
      rw [List.map_map]
      exact SqL.of eL
    refine ⟨_, rfl, Lk, _, rfl, isL, by rw [List.length_map]; omega, fun u und umem => ⟨_, rfl, _, _, rfl, rfl, _, rfl, ?_⟩⟩
    have cu := cnt_ints und umem
    have cn := cu.le
    rw [← mk_range kl] at cu
    dsimp only
    by_cases more : many < u.length
    · rw [if_pos (decide_eq_true (by omega))]
      refine ⟨fun σ' H' => ∃ m', m' < r.n + 1 - many ∧ Lp m' σ' H', fun _ _ h => h, ?_⟩
      refine ⟨_, rfl, Lk, _, rfl, isL, by rw [List.length_map]; omega, fun u2 und2 umem2 => ?_⟩
      have cu2 := cnt_ints und2 umem2
      rw [← mk_range kl] at cu2
      have eu : u2.length = u.length := cu2.uniq cu
      rw [eu]
      dsimp only [tSeq, gName]
      let rows : List (List Nat) := (List.range r.n).map (rowK r ks)
      have rl : rows.length = r.n := by simp [rows]
      have ri : ∀ s, s < r.n → rows[s]? = some (rowK r ks s) := fun s hs => by
        rw [List.getElem?_map, List.getElem?_range hs]
        rfl
      have hks : ∀ (H2 : Hp), Same Hk H2 → ∀ s, s < r.n → (natsV ks)[s]? = some (.int (mk ks s : Int)) := fun H2 _ s hs => by
        rw [List.getElem?_map, List.getElem?_eq_getElem (by omega)]
        show some (V.int _) = some (V.int ((ks.getD s 0 : Nat) : Int))
        rw [List.getD_eq_getElem?_getD, List.getElem?_eq_getElem (by omega)]
        rfl
      have hc0 : (cds r.sg).length ≤ 3 := by rw [cds_len]; exact (sg_len ok.sg).2
      have hc1 : 1 ≤ (cds r.sg).length := by rw [cds_len]; exact (sg_len ok.sg).1
      refine ⟨_, rfl, _, rfl, by omega, by omega, fun D nD => ?_⟩
      rw [tn]
      refine Lc.lcRR (R := fun H' b (y : List Nat) => RowAt H' b y) (fun H' H'' b y k h => k _ _ h) nD (ys := rows) rl.symm (Nat.lt_of_le_of_lt n60 (by decide)) (fun _ => rfl) (fun s y H2 hs hy s2 Q' q' => ?_) fun H2 ps s2 e2 each => ?_
      · rw [ri s hs] at hy
        obtain rfl := Option.some.inj hy
        rw [Int.zero_add]
        refine ⟨_, rfl, _, rfl, Lk, _, _, _, rfl, rfl, SqL.of (s2 _ _ eL), atI_nat (hks H2 s2 s hs), by show 1 ≤ sizeLine; decide, fun T1 nT1 => ?_⟩
        have s3 := same_upd (o := .tup [V.int (mk ks s : Int)]) nT1
        have eT1 : (upd H2 T1 (.tup [V.int (mk ks s : Int)])) T1 = some (.tup [V.int (mk ks s : Int)]) := upd_same
        generalize upd H2 T1 (.tup [V.int (mk ks s : Int)]) = H3 at s3 eT1 ⊢
        have hp3 := hp.same (((s1.trans sk).trans s2).trans s3)
        obtain ⟨d3, gg3, h31, h32, h33, ⟨mk3, ed3, hw3⟩, _⟩ := hp3.get
        refine ⟨_, rfl, p, _, rfl, h31, _, rfl, fun D2 nD2 => ?_⟩
        refine Lc.lcXS nD2 (ys := natsV ((cds r.sg).map fun c => mk ks (step r.W s c))) (by rw [List.length_map, List.length_map]) (Nat.lt_of_le_of_lt hc0 (by decide)) (fun _ => rfl) (fun i c y2 H5 hc hy2 s5 Q2 q2 => ?_) fun H6 s6 e6 => ?_
        · have cm : c ∈ cds r.sg := List.mem_of_getElem? hc
          obtain ⟨d5, gg5, h51, h52, h53, ⟨mk5, ed5, hw5⟩, _⟩ := (hp3.same s5).get
          obtain ⟨p1, l1, gp1, r1, a1, b1⟩ := step_at ok.W ok.sg hw5 cm hs
          have G1 : DGet H5 d5 (.str (one c)) (some (.ref p1)) := .inl ⟨mk5, Sum.inr (one c), .inl ed5, rfl, gp1.symm⟩
          have eL5 : H5 Lk = some (.lst (natsV ks)) := s5 _ _ (s3 _ _ (s2 _ _ eL))
          have ey : y2 = .int (mk ks (step r.W s c) : Int) := by
            have e : (natsV ((cds r.sg).map fun c => mk ks (step r.W s c)))[i]? = some (.int (mk ks (step r.W s c) : Int)) := by
              rw [List.getElem?_map, List.getElem?_map, hc]
              rfl
            rw [e] at hy2
            exact (Option.some.inj hy2).symm
          rw [ey] at q2
          exact ⟨_, rfl, _, rfl, p, _, rfl, h52, _, rfl, d5, _, rfl, G1, _, rfl, p1, _, _, _, rfl, rfl, SqT.of r1, atI_nat a1, Lk, _, _, _, rfl, rfl, SqL.of eL5, atI_nat (hks H5 ((s2.trans s3).trans s5) _ b1), q2 H5 (Same.refl _)⟩
        · refine ⟨D2, _, rfl, .inl ⟨SqL.of e6, fun T2 nT2 => ?_⟩⟩
          have s7 := same_upd (o := .tup (natsV ((cds r.sg).map fun c => mk ks (step r.W s c)))) nT2
          refine ⟨T1, T2, _, _, rfl, rfl, SqT.of (s7 _ _ (s6 _ _ eT1)), SqT.of upd_same, ?_, (fun z => nomatch z), (fun _ z => ?_), fun _ _ b nb => q' b _ (((s3.trans s6).trans s7).trans (same_upd nb)) upd_same⟩
          · rw [List.length_map, List.length_map]
            exact Nat.le_trans (show 1 + (cds r.sg).length ≤ 4 by omega) (by decide)
          · have := congrArg List.length z
            rw [List.length_map, List.length_map] at this
            have this : (cds r.sg).length = 0 := this
            omega
      · dsimp only [gName]
        have lps : ps.length = r.n := by rw [each.length, rl]
        let iz : List (List Int) := rows.map fun l => l.map fun (k : Nat) => (k : Int)
        have izl : iz.length = r.n := by simp [iz, rl]
        let zs : List (Addr × List Int) := ps.zip iz
        have zl : zs.map (fun p => V.ref p.1) = ps.map V.ref := by
          have e : zs.map (fun p => V.ref p.1) = (zs.map Prod.fst).map V.ref := by
            rw [List.map_map]
            rfl
          rw [e, List.map_fst_zip (by omega)]
        have zlen : zs.length = r.n := by
          rw [List.length_zip, lps, izl, Nat.min_self]
        -- what stands at a place
        have zat : ∀ q ∈ zs, ∃ s, s < r.n ∧ q.2 = (rowK r ks s).map (fun (k : Nat) => (k : Int)) ∧ RowAt H2 q.1 (rowK r ks s) ∧ ps[s]? = some q.1 := fun q hq => by
          obtain ⟨s, hs, e⟩ := List.mem_iff_getElem.mp hq
          have hs2 : s < r.n := by rw [← zlen]; exact hs
          have e1 : ps[s]? = some q.1 := by
            rw [← e, List.getElem_zip, List.getElem?_eq_getElem (by omega)]
          have e2' : q.2 = (rowK r ks s).map (fun (k : Nat) => (k : Int)) := by
            rw [← e, List.getElem_zip]
            simp [iz, rows]
          exact ⟨s, hs2, e2', Lc.each_atP each e1 (ri s hs2), e1⟩
        have zhas : ∀ s, s < r.n → ∃ q ∈ zs, q.2 = (rowK r ks s).map (fun (k : Nat) => (k : Int)) := fun s hs => by
          refine ⟨zs[s]'(by rw [zlen]; exact hs), List.getElem_mem _, ?_⟩
          rw [List.getElem_zip]
          simp [iz, rows]
        have sqRow : ∀ {H' : Hp}, Same H2 H' → ∀ q ∈ zs, SqT K H' q.1 (q.2.map V.int) := fun {H'} s' q hq => by
          obtain ⟨s, _, e, ra, _⟩ := zat q hq
          rw [e, List.map_map]
          exact SqT.of (s' _ _ ra)
        have mkb : ∀ s, mk ks s < 62 := fun s => by
          unfold mk
          rw [List.getD_eq_getElem?_getD]
          cases q : ks[s]? with
          | none => decide
          | some x => exact kb x (List.mem_of_getElem? q)
        have toN : ∀ l : List Nat, (l.map fun (k : Nat) => (k : Int)).map Int.toNat = l := fun l => by
          rw [List.map_map]
          exact List.map_id' l
        refine ⟨_, rfl, D, zs, rfl, ?_, fun q hq => sqRow (Same.refl _) q hq, by omega, fun a L' na sub all => ?_⟩
        · rw [zl]
          exact SqL.of e2
        have s3 := same_upd (o := SetTO P w a L') na
        refine ⟨a, L', (cds r.sg).length + 1, 64, rfl, upd_same, fun q hq => sqRow s3 q (sub q hq), by omega, fun q hq => ?_, fun L'' pS perm nd2 few2 _ npS => ?_⟩
        · obtain ⟨s, _, e, _⟩ := zat q (sub q hq)
          rw [e]
          refine ⟨by simp [rowK], fun m hm => ?_⟩
          obtain ⟨k, hk, rfl⟩ := List.mem_map.mp hm
          have : k < 62 := by
            rcases List.mem_cons.mp hk with rfl | hk
            · exact mkb s
            · obtain ⟨c, _, rfl⟩ := List.mem_map.mp hk
              exact mkb _
          omega
        let H3 : Hp := upd (upd H2 a (SetTO P w a L')) pS (.lst (L''.map fun q => V.ref q.1))
        have s4 : Same H2 H3 := s3.trans (same_upd npS)
        have ePS : H3 pS = some (.lst (L''.map fun q => V.ref q.1)) := upd_same
        have subz : ∀ q ∈ L'', q ∈ zs := fun q hq => sub q (perm.mem_iff.mp hq)
        let ts : List (List Nat) := L''.map fun q => q.2.map Int.toNat
        have tups : Sr.Tups H3 (L''.map (·.1)) ts := by
          have go : ∀ M : List (Addr × List Int), (∀ q ∈ M, q ∈ zs) → Sr.Tups H3 (M.map (·.1)) (M.map fun q => q.2.map Int.toNat) := fun M => by
            induction M with
            | nil => exact fun _ => .nil
            | cons q M ih =>
              intro hM
              obtain ⟨s, _, e, ra, _⟩ := zat q (hM q List.mem_cons_self)
              refine .cons ?_ (ih fun q hq => hM q (List.mem_cons_of_mem _ hq))
              show H3 q.1 = some (.tup (Sr.nats (q.2.map Int.toNat)))
              rw [e, toN]
              exact s4 _ _ ra
          exact go L'' subz
        have tnd : ts.Nodup := by
          have := nd2
          rw [List.nodup_iff_pairwise_ne, List.pairwise_map] at this
          rw [List.nodup_iff_pairwise_ne]
          refine List.pairwise_map.mpr (List.Pairwise.imp_of_mem (fun {q q'} hq hq' ne z => ne ?_) this)
          obtain ⟨s, _, e, _⟩ := zat q (subz q hq)
          obtain ⟨s', _, e', _⟩ := zat q' (subz q' hq')
          rw [e, e', toN, toN] at z
          rw [e, e', z]
        have thas : ∀ s, s < r.n → rowK r ks s ∈ ts := fun s hs => by
          obtain ⟨q, hq, e⟩ := zhas s hs
          obtain ⟨q', hq', e'⟩ := List.mem_map.mp (all q hq)
          refine List.mem_map.mpr ⟨q', perm.mem_iff.mpr hq', ?_⟩
          rw [e', e, toN]
        have tlen : ts.length < 62 + 1 := by
          have : ts.length = L''.length := List.length_map _
          have h60 : L''.length ≤ zs.length := by
            have h1 : (L''.map (·.2)).Nodup := nd2
            have h2 := nodupLe h1 (fun y hy => by
              obtain ⟨q, hq, rfl⟩ := List.mem_map.mp hy
              exact List.mem_map_of_mem (f := Prod.snd) (subz q hq))
            rw [List.length_map, List.length_map] at h2
            exact h2
          omega
        have tlen60 : ts.length ≤ 60 := by
          have : ts.length = L''.length := List.length_map _
          have h60 : L''.length ≤ zs.length := by
            have h1 : (L''.map (·.2)).Nodup := nd2
            have h2 := nodupLe h1 (fun y hy => by
              obtain ⟨q, hq, rfl⟩ := List.mem_map.mp hy
              exact List.mem_map_of_mem (f := Prod.snd) (subz q hq))
            rw [List.length_map, List.length_map] at h2
            exact h2
          omega
        let ks' : List Nat := rows.map fun t => ts.idxOf t
        have k'l : ks'.length = r.n := by simp [ks', rl]
        have k'g : ∀ s, s < r.n → mk ks' s = ts.idxOf (rowK r ks s) := fun s hs => by
          unfold mk
          rw [List.getD_eq_getElem?_getD, List.getElem?_map, ri s hs]
          rfl
        dsimp only [gName]
        show tAsg _ _ _ _ H3
        have ePS2 : ∀ {H' : Hp}, Same H3 H' → Dp K H' (.ref pS) (.list (ts.map fun t => Sr.tupD t)) := fun {H'} s' => by
          refine .lst (SqL.of (s' _ _ ePS)) ?_
          have go : ∀ {as : List Addr} {us : List (List Nat)}, Sr.Tups H3 as us → DpAll K H' (as.map V.ref) (us.map fun t => Sr.tupD t) := fun {as us} h => by
            induction h with
            | nil => exact .nil
            | cons h _ ih => exact .cons (.tup (SqT.of (s' _ _ h)) (dp_nats _)) ih
          have := go tups
          rwa [List.map_map] at this
        refine ⟨_, rfl, D, rfl, ⟨_, SqL.of (s4 _ _ e2)⟩, fun D3 nD3 => Lc.lcLS (SqL.of (s4 _ _ e2)) (fun H5 s' => SqL.of (s' _ _ (s4 _ _ e2))) nD3 (ys := natsV ks') (by rw [List.length_map, List.length_map, lps, k'l]) (by rw [List.length_map, lps]; exact Nat.lt_of_le_of_lt n60 (by decide)) (fun _ => rfl) (fun s x y H5 hx hy s6 Q' q' => ?_) fun H5 s6 e5 => ?_⟩
        · have hs : s < r.n := by
            have := (List.getElem?_eq_some_iff.mp hx).1
            rwa [List.length_map, lps] at this
          have ex : x = .ref (ps[s]'(by omega)) := by
            rw [List.getElem?_map, List.getElem?_eq_getElem (by omega)] at hx
            exact (Option.some.inj hx).symm
          subst ex
          have ra : RowAt H5 (ps[s]'(by omega)) (rowK r ks s) := s6 _ _ (s4 _ _ (Lc.each_atP each (List.getElem?_eq_getElem (by omega)) (ri s hs)))
          have ey : y = .int (ts.idxOf (rowK r ks s) : Nat) := by
            have e : (natsV ks')[s]? = some (.int (ts.idxOf (rowK r ks s) : Nat)) := by
              rw [List.getElem?_map, List.getElem?_map, ri s hs]
              rfl
            rw [e] at hy
            exact (Option.some.inj hy).symm
          rw [ey] at q'
          have im := List.idxOf_lt_length_of_mem (thas s hs)
          have ig := List.getElem_idxOf im
          refine ⟨_, rfl, .inl ⟨rfl, _, SqL.of (s6 _ _ ePS)⟩, _, rfl, pS, _, Sr.tupD (rowK r ks s), ts.map fun t => Sr.tupD t, ts.idxOf (rowK r ks s), Sr.tupD (rowK r ks s), rfl, rfl, ePS2 s6, .tup (SqT.of ra) (dp_nats _), shaped_tups _, shaped_tup _, ?_, ?_, fun m z hm hz => ?_, q' H5 (Same.refl _)⟩
          · rw [List.getElem?_map, List.getElem?_eq_getElem im, ig]
            rfl
          · rw [eqv_tup, decide_eq_true rfl]
          · rw [List.getElem?_map] at hz
            cases q2 : ts[m]? with
            | none => rw [q2] at hz; cases hz
            | some t =>
              rw [q2] at hz
              cases hz
              rw [eqv_tup]
              refine decide_eq_false fun z => ?_
              have mlt := (List.getElem?_eq_some_iff.mp q2).1
              have := idx_at tnd mlt
              rw [(List.getElem?_eq_some_iff.mp q2).2, z] at this
              omega
        · refine ⟨r.n + 1 - u.length, by omega, ks', D3, u.length, _, _, rfl, rfl, ((sk.trans s2).trans s4).trans s6, e5, k'l, fun x hx => ?_, .succ mo ?_, by omega, .inr ⟨mk ks, mo, ?_, cu⟩⟩
          · obtain ⟨t, ht, rfl⟩ := List.mem_map.mp hx
            obtain ⟨s, hs, rfl⟩ := List.mem_map.mp ht
            have := List.idxOf_lt_length_of_mem (thas s (List.mem_range.mp hs))
            omega
          all_goals
            intro s t hs ht
            rw [k'g s hs, k'g t ht]
            refine Iff.trans ⟨fun e => ?_, fun e => by rw [e]⟩ (rowK_eq (r := r) (ks := ks) (s := s) (t := t))
            have e1 := List.getElem_idxOf (List.idxOf_lt_length_of_mem (thas s hs))
            have e2 := List.getElem_idxOf (List.idxOf_lt_length_of_mem (thas t ht))
            rw [← e1, ← e2]
            simp only [e]
    · rw [if_neg (by rw [decide_eq_false (by omega)]; exact Bool.false_ne_true)]
      have upos : 0 < u.length := cu.pos (by
        intro z
        have := congrArg List.length z
        simp at this
        omega)
      rcases last with z | ⟨m0, mo', nx, c0⟩
      · omega
      · refine ⟨_, rfl, q Lk Hk ks (s1.trans sk) eL kl kb (Au.ner_of fit mo' nx ?_)⟩
        rcases Au.cnt_fine c0 cu fun s t hs ht e => ((nx s t hs ht).mp e).1 with lt | ⟨_, same⟩
        · omega
        · exact same
end
end K24

set_option Elab.async false
set_option linter.all false
set_option maxRecDepth 100000
set_option maxHeartbeats 3200000
/-! comprehensions over enumerate(a list) -/
namespace Lc
open PySem L2 Tx Tg Tm RZ
theorem lc_enumL {K : PySem.W.Frag} {a : Addr} {xs : List V} {g : TG} {tt : TT} {te : TE} {vs : List Nat} {σ : L2.St} {H1 : Hp} {D : Addr} {Qd : Hp → Prop} (Pv : Nat → Hp → Prop) (start : Pv 0 (upd H1 D (.lst []))) (lies : ∀ i H, Pv i H → SqL K H a xs)
    (step : ∀ i x T H, xs[i]? = some x → Pv i H → H T = none → g (.ref T) (wipe σ vs) (upd H T (.tup [.int (i : Nat), x])) fun σ2 H2 => wipe σ2 vs = wipe σ vs ∧ tt σ2 H2 fun b H3 =>
      if b = true then te σ2 H3 fun y H4 => ∃ acc, H4 D = some (.lst acc) ∧ acc.length < sizeLine ∧ Pv (i + 1) (upd H4 D (.lst (acc ++ [y]))) else Pv (i + 1) H3) (done : ∀ H, Pv xs.length H → Qd H) :
    ∃ W : Nat → Nat → Hp → Prop, (∃ m, W 0 m (upd H1 D (.lst []))) ∧ ∀ i m H, W i m H →
      ((Ite K a).stop i H ∧ Qd H) ∨ ((Ite K a).go i H ∧ ∃ B : Hp → Prop, (∀ H', B H' → ∃ m', m' < m ∧ W (i + 1) m' H') ∧ ∀ x H', (Ite K a).yld i H x H' → g x (wipe σ vs) H' fun σ2 H2 => wipe σ2 vs = wipe σ vs ∧ tt σ2 H2 fun b H3 =>
        if b = true then te σ2 H3 fun y H4 => ∃ acc, H4 D = some (.lst acc) ∧ acc.length < sizeLine ∧ B (upd H4 D (.lst (acc ++ [y]))) else B H3) := by
  refine ⟨fun i left H => left = xs.length - i ∧ i ≤ xs.length ∧ Pv i H, ⟨_, rfl, Nat.zero_le _, start⟩, ?_⟩
  rintro i left H ⟨rfl, le, p⟩
  have there := lies i H p
  rcases Nat.lt_or_eq_of_le le with lt | rfl
  · refine .inr ⟨⟨xs, xs[i], there, List.getElem?_eq_getElem lt⟩, Pv (i + 1), fun H' p' => ⟨xs.length - (i + 1), by omega, rfl, lt, p'⟩, fun x H' y => ?_⟩
    obtain ⟨T, x, rfl, fresh, rfl, hx⟩ := y
    exact step i x T H (hx xs there) p fresh
  · exact .inl ⟨⟨xs, there, Nat.le_refl _⟩, done H p⟩
end Lc

set_option Elab.async false
set_option linter.all false
set_option maxRecDepth 100000
set_option maxHeartbeats 12800000
namespace K24
open PySem L2 Tx Tg Tm Da RZ Ek It2
/-! ### the law's own least reader -/
abbrev sLL : Stmt := top 50
abbrev nLL : List Str := ["_law_plain", "_law_marks", "_law_order", "_law_lines", "_law_state", "_law_line_here", "_law_place", "_law_ways", "_law_good", "_law_one", "_law_at", "_law_sign"]
theorem scLL : FnScope nLL ["_law_plain"] (defScope sLL) := ⟨rfl, rfl, rfl, by decide +kernel, rfl, by decide +kernel, by decide +kernel⟩
def KvAt (H : Hp) (p : Addr) (kv : Key × V) : Prop := H p = some (.tup [kV kv.1, kv.2])
theorem paired_kv {K : PySem.W.Frag} {H : Hp} : ∀ {ps : List Addr} {kvs : List (Key × V)}, PySem.W.EachIs (KvAt H) ps kvs → Paired (fun p (kv : Key × V) => SqT K H p [kV kv.1, kv.2]) ps kvs
  | _, _, .nil => .nil
  | _, _, .cons h t => .cons (SqT.of h) (paired_kv t)
section
variable {P : Program} {w : World} {K : PySem.W.Frag} {mg : Str → Option Value} {base : Heap} {CC : Addr}
def kvL (sg : Str) (d g l : Addr) : List (Key × V) := [(Sum.inr "signs", .str sg), (Sum.inr "ways", .ref d), (Sum.inr "good", .ref g), (Sum.inr "lines", .ref l)]
def spLL : Sp := fun vs H Q _ => ∃ (p : Addr) (r : Rdr), vs = [.ref p] ∧ PlainAt H p r ∧ ∀ L d g ln H' m l, Same H H' → Au.Ner (cds r.sg) (aut r) m → Au.Full (cds r.sg) (aut r).to 0 l → H' L = some (.dK (kvL r.sg d g ln)) → MovAt H' d (leanOf r m l).W → RowAt H' g (leanOf r m l).G → H' ln = some (.lst ((Au.dd m l).map fun x => V.str (tx x.2))) → Q (.ref L) H'
theorem ok_ll {f fK fL : Addr} {fd dK dL : FuncData} (F : Fun K "_law_lean" "_law_lean" sLL f fd) (T : Txt K mg) (DKn : Df K mg "_law_kin" sKin ["_law_plain"] fK dK) (DFL : Df K mg "_law_first_lines" sFL ["_law_plain"] fL dL) (hE : mg "enumerate" = none) : FnOk P w K mg base CX0 2 f fd ["_law_plain"] spLL := by
  have GKn := ok_kin (P := P) (w := w) (base := base) DKn.F T
  have GFL := ok_fl (P := P) (w := w) (base := base) DFL.F T
  refine F.ok scLL (fun vs H Q E h => ?_) (fun cdv A outer s0 H vs Q E hr h => ?_)
  · obtain ⟨p, r, rfl, _⟩ := h
    rfl
  · obtain ⟨p, r, rfl, hp, q⟩ := h
    have hu := hu_of hr
    refine ⟨_, (pss_cons (ps_asg (pe_tup (pa_cons (pe_call GKn (hr.mono (by decide)) (by rfl) DKn.m DKn.F.kp DKn.b .nil pass0 (pa_cons (pv 0) pa_nil)) (pa_cons (pe_lst pa_nil) (pa_cons (pe_lst pa_nil) pa_nil)))) (pg_tup rfl (pgs_cons (pg_name (i := 1) scLL.nd rfl (by first | exact Or.inl rfl | exact Or.inr rfl)) (pgs_cons (pg_name (i := 2) scLL.nd rfl (by first | exact Or.inl rfl | exact Or.inr rfl)) (pgs_cons (pg_name (i := 3) scLL.nd rfl (by first | exact Or.inl rfl | exact Or.inr rfl)) pgs_nil)))))
    (pss_cons (ps_for PassesOwn.never rfl (pi_list (pe_call GFL (hr.mono (by decide)) (by rfl) DFL.m DFL.F.kp DFL.b .nil pass0 (pa_cons (pv 0) pa_nil))) (pg_tup rfl (pgs_cons (pg_name (i := 4) scLL.nd rfl (by first | exact Or.inl rfl | exact Or.inr rfl)) (pgs_cons (pg_name (i := 5) scLL.nd rfl (by first | exact Or.inl rfl | exact Or.inr rfl)) pgs_nil)))
      (pss_one (ps_if (pt_cmpR op_notIn_seq (pe_ix ix_list (pv 1) (pv 4) (fun _ _ => rfl)) (pe_lc (own := [("_law_one", 9)]) (g := (gName 9)) (tt := tYes) (te := tOp (rIxL K) (tVar 1) (tVar 9)) rfl scLL.nd (pi_list (pv 2)) (blkOk_by (own := [("_law_one", 9)]) (N := nLL) (sc := defScope sLL) (by decide +kernel)) (fun _ _ _ _ _ => (pg_name (i := 9) scLL.nd rfl (by first | exact Or.inl rfl | exact Or.inr rfl))) (fun _ _ _ _ _ => pts_nil) (fun _ _ _ _ _ => (pe_ix ix_list (pv 1) (pv 9) (fun _ _ => rfl)))) (by rfl)) (pss_one (ps_asg (pe_tup (pa_cons (pe_op op_cat (pv 2) (pe_lst (pa_cons (pv 4) pa_nil))) (pa_cons (pe_op op_cat (pv 3) (pe_lst (pa_cons (pv 5) pa_nil))) pa_nil))) (pg_tup rfl (pgs_cons (pg_name (i := 2) scLL.nd rfl (by first | exact Or.inl rfl | exact Or.inr rfl)) (pgs_cons (pg_name (i := 3) scLL.nd rfl (by first | exact Or.inl rfl | exact Or.inr rfl)) pgs_nil))))) pss_nil)))
    (pss_cons (ps_set (i := 6) scLL.nd rfl (Or.inr rfl) (pe_callTy (call_dictP rfl) (by rfl) T.dict (by decide +kernel) (pa_cons (pe_lc (own := [("_law_at", 10), ("_law_state", 4)]) (g := (gTup K 2 (gCons (gName 10) (gCons (gName 4) gNil)))) (tt := tYes) (te := tTup (tCons (tOp (rIxL K) (tVar 1) (tVar 4)) (tCons (tVar 10) tNil))) rfl scLL.nd (pi_enum (by rfl) hE (pa_cons (pv 2) pa_nil)) (blkOk_by (own := [("_law_at", 10), ("_law_state", 4)]) (N := nLL) (sc := defScope sLL) (by decide +kernel)) (fun _ _ _ _ _ => (pg_tup rfl (pgs_cons (pg_name (i := 10) scLL.nd rfl (by first | exact Or.inl rfl | exact Or.inr rfl)) (pgs_cons (pg_name (i := 4) scLL.nd rfl (by first | exact Or.inl rfl | exact Or.inr rfl)) pgs_nil)))) (fun _ _ _ _ _ => pts_nil) (fun _ _ _ _ _ => (pe_tup (pa_cons (pe_ix ix_list (pv 1) (pv 4) (fun _ _ => rfl)) (pa_cons (pv 10) pa_nil))))) pa_nil)))
    (pss_cons (ps_set (i := 7) scLL.nd rfl (Or.inl rfl) (pe_callTy (call_dictP rfl) (by rfl) T.dict (by decide +kernel) (pa_cons (pe_lc (own := [("_law_sign", 11)]) (g := (gName 11)) (tt := tYes) (te := tTup (tCons (tVar 11) (tCons (tCB (rTupOf K) (tCons (tLc (iList K (tVar 2)) (gName 4) tYes (tDGet (tVar 6) (tOp (rIxL K) (tVar 1) (tOp (rIxT K) (tDGet (tDGet (tVar 0) (tC (V.str "ways"))) (tVar 11)) (tVar 4)))) [4]) tNil)) tNil))) rfl scLL.nd (pi_str (pe_dget hu (pv 0) pe_str (fun _ _ => rfl))) (blkOk_by (own := [("_law_sign", 11)]) (N := nLL) (sc := defScope sLL) (by decide +kernel)) (fun _ _ _ _ _ => (pg_name (i := 11) scLL.nd rfl (by first | exact Or.inl rfl | exact Or.inr rfl))) (fun _ _ _ _ _ => pts_nil) (fun _ _ _ _ _ => (pe_tup (pa_cons (pv 11) (pa_cons (pe_callTy call_tuple_of (by rfl) T.tuple (by decide +kernel) (pa_cons (pe_lc (own := [("_law_state", 4)]) (g := (gName 4)) (tt := tYes) (te := tDGet (tVar 6) (tOp (rIxL K) (tVar 1) (tOp (rIxT K) (tDGet (tDGet (tVar 0) (tC (V.str "ways"))) (tVar 11)) (tVar 4)))) rfl scLL.nd (pi_list (pv 2)) (blkOk_by (own := [("_law_state", 4)]) (N := nLL) (by rfl)) (fun _ _ _ _ _ => (pg_name (i := 4) scLL.nd rfl (by first | exact Or.inl rfl | exact Or.inr rfl))) (fun _ _ _ _ _ => pts_nil) (fun _ _ _ _ _ => (pe_dget hu (pv 6) (pe_ix ix_list (pv 1) (pe_ix ix_tup (pe_dget hu (pe_dget hu (pv 0) pe_str (fun _ _ => rfl)) (pv 11) (fun _ _ => rfl)) (pv 4) (fun _ _ => rfl)) (fun _ _ => rfl)) (fun _ _ => rfl)))) pa_nil)) pa_nil))))) pa_nil)))
    (pss_cons (ps_set (i := 8) scLL.nd rfl (Or.inl rfl) (pe_callTy call_tuple_of (by rfl) T.tuple (by decide +kernel) (pa_cons (pe_lc (own := [("_law_at", 10), ("_law_state", 4)]) (g := (gTup K 2 (gCons (gName 10) (gCons (gName 4) gNil))))  (tt := tTest (tOp (rIn K false) (tVar 4) (tDGet (tVar 0) (tC (V.str "good"))))) (te := (tVar 10)) rfl scLL.nd (pi_enum (by rfl) hE (pa_cons (pv 2) pa_nil)) (blkOk_by (own := [("_law_at", 10), ("_law_state", 4)]) (N := nLL) (sc := defScope sLL) (by decide +kernel)) (fun _ _ _ _ _ => (pg_tup rfl (pgs_cons (pg_name (i := 10) scLL.nd rfl (by first | exact Or.inl rfl | exact Or.inr rfl)) (pgs_cons (pg_name (i := 4) scLL.nd rfl (by first | exact Or.inl rfl | exact Or.inr rfl)) pgs_nil)))) (fun _ _ _ _ _ => pts_one (pt_cmpR op_in_seq (pv 4) (pe_dget hu (pv 0) pe_str (fun _ _ => rfl)) (by rfl))) (fun _ _ _ _ _ => (pv 10))) pa_nil)))
    (pss_one (ps_ret (pe_disp (pps_cons pe_str (pe_dget hu (pv 0) pe_str (fun _ _ => rfl)) (pps_cons pe_str (pv 7) (pps_cons pe_str (pv 8) (pps_cons pe_str (pv 3) pps_nil)))) (by rfl) (by rfl) (fun z => by cases z) (by decide))))))))), ?_⟩
    have ok := hp.ok
    have n1 := ok.W.one
    have n60 := ok.W.most
    have fit := fit_of ok
    refine ⟨_, rfl, p, r, rfl, hp, fun L H1 ks s1 eL kl kb ner => ⟨by show 0 ≤ sizeLine; decide, fun O1 nO1 => ⟨by show 0 ≤ sizeLine; decide, fun Li1 nLi1 => ⟨by show 3 ≤ sizeLine; decide, fun T0 nT0 => ⟨T0, _, rfl, SqT.of upd_same, rfl, _, _, rfl, _, _, rfl, _, _, rfl, rfl, ?_⟩⟩⟩⟩⟩
    dsimp only [tSeq, gName]
    have sO := same_upd (o := .lst []) nO1
    have eO1 : (upd H1 O1 (.lst [])) O1 = some (.lst []) := upd_same
    have sLi := same_upd (o := .lst []) nLi1
    have eLi1 : (upd (upd H1 O1 (.lst [])) Li1 (.lst [])) Li1 = some (.lst []) := upd_same
    have sT0 := same_upd (o := .tup [.ref L, .ref O1, .ref Li1]) nT0
    have s12 := (sO.trans sLi).trans sT0
    have eO2 := sT0 _ _ (sLi _ _ eO1)
    have eLi2 := sT0 _ _ eLi1
    generalize upd (upd (upd H1 O1 (.lst [])) Li1 (.lst [])) T0 (.tup [.ref L, .ref O1, .ref Li1]) = H2 at s12 eO2 eLi2 ⊢
    have s02 := s1.trans s12
    refine ⟨_, rfl, p, r, rfl, hp.same s02, fun L2 H3 l ps s3 full eL2 each => ⟨L2, rfl, ⟨_, SqL.of eL2⟩, ?_⟩⟩
    have full : Au.Full (cds r.sg) (aut r).to 0 l := full
    have lb := Au.full_lt fit full
    let m := mk ks
    have s13 : Same H1 H3 := s12.trans s3
    have eL3 := s13 _ _ eL
    have eO3 := s3 _ _ eO2
    have eLi3 := s3 _ _ eLi2
    have hks : ∀ s, s < r.n → (natsV ks)[s]? = some (.int (m s : Int)) := fun s hs => by
      rw [List.getElem?_map, List.getElem?_eq_getElem (by omega)]
      show some (V.int _) = some (V.int ((ks.getD s 0 : Nat) : Int))
      rw [List.getD_eq_getElem?_getD, List.getElem?_eq_getElem (by omega)]
      rfl
    have llen : l.length ≤ r.n := by
      have := Pm.small_len full.nd fun x hx => by
        obtain ⟨y, hy, rfl⟩ := List.mem_map.mp hx
        exact lb y hy
      rwa [List.length_map] at this
    have dlen : ∀ i, (Au.dd m (l.take i)).length ≤ l.length := fun i => by
      have h1 := nodupLe (l := (Au.dd m (l.take i)).map (·.1)) (r := (l.take i).map (·.1)) (by
          have := Au.dd_nd (h := m) (l := l.take i)
          rw [List.nodup_iff_pairwise_ne, List.pairwise_map] at this
          rw [List.nodup_iff_pairwise_ne]
          exact List.pairwise_map.mpr (this.imp fun ne z => ne (by rw [z]))) fun x hx => by
        obtain ⟨y, hy, rfl⟩ := List.mem_map.mp hx
        exact List.mem_map_of_mem (Au.dd_sub y hy)
      rw [List.length_map, List.length_map, List.length_take] at h1
      omega
    refine for_list (xs := ps.map V.ref) (fun i σ H5 => ∃ (O Li : Addr) (o4 o5 : Option V), σ = [some (.ref p), some (.ref L), some (.ref O), some (.ref Li), o4, o5, none, none, none, none, none, none] ∧ Same H3 H5 ∧ H5 O = some (.lst (natsV ((Au.dd m (l.take i)).map (·.1)))) ∧ H5 Li = some (.lst ((Au.dd m (l.take i)).map fun x => V.str (tx x.2)))) ⟨O1, Li1, none, none, rfl, Same.refl _, eO3, eLi3⟩ (fun i σ H5 _ z => by obtain ⟨_, _, _, _, _, s, _⟩ := z; exact SqL.of (s _ _ eL2)) ?_ ?_
    · rintro i v σ H5 hv ⟨O, Li, o4, o5, rfl, s5, eO, eLi⟩
      rw [List.getElem?_map] at hv
      cases hpj : ps[i]? with
      | none => rw [hpj] at hv; cases hv
      | some pj =>
        rw [hpj] at hv
        cases hv
        have ilt : i < l.length := by rw [← each.length]; exact (List.getElem?_eq_some_iff.mp hpj).1
        obtain ⟨x, hx⟩ : ∃ x, l[i]? = some x := ⟨_, List.getElem?_eq_getElem ilt⟩
        have tx0 : Ln H5 pj x := s5 _ _ (Lc.each_atP each hpj hx)
        have xlt := lb x (List.mem_of_getElem? hx)
        have eL5 := s5 _ _ eL3
        have e1 : Au.dd m (l.take (i + 1)) = Au.putK m (Au.dd m (l.take i)) x := by
          rw [List.take_add_one, hx]
          exact Au.dd_snoc
        have dl := dlen i
        refine ⟨pj, _, rfl, SqT.of tx0, rfl, _, _, rfl, _, _, rfl, rfl, ?_⟩
        dsimp only [gName]
        refine ⟨_, rfl, _, rfl, L, _, _, _, rfl, rfl, SqL.of eL5, atI_nat (hks x.1 xlt), _, rfl, O, rfl, ⟨_, SqL.of eO⟩, fun D nD => Lc.lcLS (SqL.of eO) (fun H5 s' => SqL.of (s' _ _ eO)) nD (ys := natsV ((Au.dd m (l.take i)).map fun y => m y.1)) (by rw [List.length_map, List.length_map, List.length_map, List.length_map]) (by rw [List.length_map, List.length_map]; exact Nat.lt_of_le_of_lt (show _ ≤ 60 by omega) (by decide)) (fun _ => rfl) (fun j u y H6 hu2 hy s6 Q' q' => ?_) fun H6 s6 e6 => ?_⟩
        · rw [List.getElem?_map, List.getElem?_map] at hu2 hy
          cases hz : (Au.dd m (l.take i))[j]? with
          | none => rw [hz] at hu2; cases hu2
          | some z =>
            rw [hz] at hu2 hy
            cases hu2
            cases hy
            have zlt := lb z (List.mem_of_mem_take (Au.dd_sub z (List.mem_of_getElem? hz)))
            exact ⟨_, rfl, _, rfl, L, _, _, _, rfl, rfl, SqL.of (s6 _ _ eL5), atI_nat (hks z.1 zlt), q' H6 (Same.refl _)⟩
        · refine ⟨D, _, rfl, .inl (SqL.of e6), rfl, List.all_eq_true.mpr (flat_nats _), _, rfl, ?_⟩
          dsimp only
          rw [inV_nats]
          have eO6 := s6 _ _ eO
          have eLi6 := s6 _ _ eLi
          have s56 := s5.trans s6
          by_cases old : m x.1 ∈ (Au.dd m (l.take i)).map fun y => m y.1
          · refine iteF' (by rw [decide_eq_true old]; exact Bool.false_ne_true) ?_
            have e5 : Au.dd m (l.take (i + 1)) = Au.dd m (l.take i) := by
              rw [e1]
              unfold Au.putK
              exact if_pos old
            exact ⟨O, Li, _, _, rfl, s56, by rw [e5]; exact eO6, by rw [e5]; exact eLi6⟩
          · refine iteT' (by rw [decide_eq_false old]; rfl) ?_
            have e5 : Au.dd m (l.take (i + 1)) = Au.dd m (l.take i) ++ [x] := by
              rw [e1]
              unfold Au.putK
              exact if_neg old
            refine ⟨_, rfl, _, rfl, by show 1 ≤ sizeLine; decide, fun A1 nA1 => ⟨O, A1, _, _, rfl, rfl, same_upd nA1 _ _ eO6, upd_same, ?_, fun O2 nO2 => ⟨_, rfl, _, rfl, by show 1 ≤ sizeLine; decide, fun A2 nA2 => ⟨Li, A2, _, _, rfl, rfl, same_upd nA2 _ _ (same_upd nO2 _ _ (same_upd nA1 _ _ eLi6)), upd_same, ?_, fun L3 nL3 => ⟨by show 2 ≤ sizeLine; decide, fun T1 nT1 => ⟨T1, _, rfl, SqT.of upd_same, rfl, _, _, rfl, _, _, rfl, rfl, ?_⟩⟩⟩⟩⟩⟩
            · rw [List.length_map, List.length_map]
              exact Nat.le_trans (show _ + 1 ≤ 61 by omega) (by decide)
            · rw [List.length_map]
              exact Nat.le_trans (show _ + 1 ≤ 61 by omega) (by decide)
            · refine ⟨O2, L3, _, _, rfl, ((((s56.trans (same_upd nA1)).trans (same_upd nO2)).trans (same_upd nA2)).trans (same_upd nL3)).trans (same_upd nT1), ?_, ?_⟩
              · refine same_upd nT1 _ _ (same_upd nL3 _ _ (same_upd nA2 _ _ ?_))
                rw [upd_same, e5, List.map_append]
                unfold natsV
                rw [List.map_append]
                rfl
              · refine same_upd nT1 _ _ ?_
                rw [upd_same, e5, List.map_append]
                rfl
    · rintro σ H5 ⟨O, Li, o4, o5, rfl, s5, eO, eLi⟩
      rw [List.length_map, each.length, List.take_of_length_le (Nat.le_refl _)] at eO eLi
      dsimp only
      let O' := Au.dd m l
      have s15 : Same H1 H5 := s13.trans s5
      have Olen : O'.length ≤ r.n := by
        have := dlen l.length
        rw [List.take_of_length_le (Nat.le_refl _)] at this
        exact Nat.le_trans this llen
      have Ond : (O'.map fun x => m x.1).Nodup := Au.dd_nd
      have O0 : O'[0]? = some (0, []) := Au.dd_head full
      have O1' : 1 ≤ O'.length := (List.getElem?_eq_some_iff.mp O0).1
      have Olt : ∀ x ∈ O', x.1 < r.n := fun x hx => lb x (Au.dd_sub x hx)
      have kdl : (kd m O').length = O'.length := by unfold kd; rw [List.length_map]
      have pll : (places (kd m O')).length = O'.length := by
        unfold places
        rw [List.length_map, List.length_range, kdl]
      have plk : ((places (kd m O')).map (·.1)).Nodup := by
        rw [places_keys, kd_keys]
        exact List.Pairwise.map _ (fun a b ne z => ne (inl_inj z)) Ond
      have pli : ∀ i x, O'[i]? = some x → (places (kd m O'))[i]? = some ((Sum.inl (m x.1 : Int) : Key), V.int (i : Nat)) := fun i x hx => by
        have ilt := (List.getElem?_eq_some_iff.mp hx).1
        unfold places
        rw [List.getElem?_map, List.getElem?_range (by rw [kdl]; exact ilt)]
        show some (((kd m O').map (·.1)).getD i (Sum.inl 0), _) = _
        rw [kd_keys, List.getD_eq_getElem?_getD, List.getElem?_map, List.getElem?_map, hx]
        rfl
      have gN : ∀ k, k ∈ (O'.map fun x => m x.1) → valV (places (kd m O')) (Sum.inl (k : Int) : Key) = some (.int ((O'.map fun x => m x.1).idxOf k : Nat)) := fun k hk => places_get (kd_keys m O') Ond hk
      have hin : ∀ x ∈ O', ∀ c ∈ cds r.sg, m (step r.W x.1 c) ∈ O'.map fun x => m x.1 := fun x hx c hc => by
        rw [Au.dd_kinds]
        obtain ⟨z, hz, e⟩ := List.mem_map.mp (full.closed (Au.dd_sub x hx) hc)
        exact List.mem_map.mpr ⟨z, hz, by rw [e]; rfl⟩
      have few : (natsV (O'.map (·.1))).length < sizeLine := by
        rw [List.length_map, List.length_map]
        exact Nat.lt_of_le_of_lt (show O'.length ≤ 60 by omega) (by decide)
      have eL5 := s5 _ _ eL3
      refine ⟨_, rfl, O, _, rfl, SqL.of eO, fun D nD => ?_⟩
      refine Lc.lc_enumL (xs := natsV (O'.map (·.1))) (fun i H' => ∃ ps : List Addr, Same H5 H' ∧ H' D = some (.lst (ps.map V.ref)) ∧ PySem.W.EachIs (KvAt H') ps ((places (kd m O')).take i)) ⟨[], same_upd nD, upd_same, .nil⟩ (fun i H' z => by obtain ⟨_, s, _⟩ := z; exact SqL.of (s _ _ eO)) ?_ ?_
      · rintro i v T H' hv ⟨ps2, s6, eD, pr⟩ nT
        rw [List.getElem?_map, List.getElem?_map] at hv
        cases hx : O'[i]? with
        | none => rw [hx] at hv; cases hv
        | some x =>
          rw [hx] at hv
          cases hv
          have ilt := (List.getElem?_eq_some_iff.mp hx).1
          have xlt := Olt x (List.mem_of_getElem? hx)
          have sT := same_upd (o := .tup [.int (i : Nat), .int (x.1 : Int)]) nT
          refine ⟨T, _, rfl, SqT.of upd_same, rfl, _, _, rfl, _, _, rfl, rfl, rfl, iteT (B := False) ?_⟩
          have s7 := s6.trans sT
          refine ⟨_, rfl, _, rfl, L, _, _, _, rfl, rfl, SqL.of (s7 _ _ eL5), atI_nat (hks x.1 xlt), _, rfl, by show 2 ≤ sizeLine; decide, fun p2 np2 => ?_⟩
          have s8 := same_upd (o := .tup [.int (m x.1 : Int), .int (i : Nat)]) np2
          have pl2 : ps2.length = i := by
            rw [pr.length, List.length_take, pll]
            omega
          refine ⟨ps2.map V.ref, s8 _ _ (sT _ _ eD), by rw [List.length_map, pl2]; exact Nat.lt_of_le_of_lt (show i ≤ 60 by omega) (by decide), ps2 ++ [p2], same_put (s7.trans s8) nD, by rw [upd_same, List.map_append]; rfl, ?_⟩
          have eD8 := s8 _ _ (sT _ _ eD)
          have kp : ∀ q kv, KvAt (upd (upd H' T (.tup [.int (i : Nat), .int (x.1 : Int)])) p2 (.tup [.int (m x.1 : Int), .int (i : Nat)])) q kv → KvAt (upd (upd (upd H' T (.tup [.int (i : Nat), .int (x.1 : Int)])) p2 (.tup [.int (m x.1 : Int), .int (i : Nat)])) D (.lst (ps2.map V.ref ++ [.ref p2]))) q kv := fun q kv h => by
            unfold KvAt at h ⊢
            rw [upd_ne (fun z => by rw [z, eD8] at h; cases h)]
            exact h
          rw [List.take_add_one, pli i x hx]
          exact each_app (PySem.W.EachIs.mono (fun q kv h => kp q kv (s8 _ _ (sT _ _ h))) pr) (.cons (kp _ _ upd_same) .nil)
      · rintro H' ⟨ps2, s6, eD, pr⟩
        rw [List.length_map, List.length_map, ← pll, List.take_of_length_le (Nat.le_refl _)] at pr
        refine ⟨D, ps2, places (kd m O'), rfl, SqL.of eD, paired_kv pr, fun Dn nDn => ?_⟩
        rw [merge_new (by rw [List.nil_append]; exact plk), List.nil_append]
        dsimp only [tSeq, gName]
        have sDn := same_upd (o := .dK (places (kd m O'))) nDn
        have eDn : (upd H' Dn (.dK (places (kd m O')))) Dn = some (.dK (places (kd m O'))) := upd_same
        have s57 := s6.trans sDn
        generalize upd H' Dn (.dK (places (kd m O'))) = H7 at s57 eDn ⊢
        have eO7 := s57 _ _ eO
        have eL7 := s57 _ _ eL5
        have s17 : Same H1 H7 := s15.trans s57
        have s07 : Same H H7 := s1.trans s17
        have hc0 : (cds r.sg).length ≤ 3 := by rw [cds_len]; exact (sg_len ok.sg).2
        obtain ⟨dq, gq, gq1, gq2, gq3, _, _⟩ := (hp.same s07).get
        refine ⟨_, rfl, p, _, rfl, gq1, _, rfl, fun D2 nD2 => ?_⟩
        let Wl : List Way := (cds r.sg).map fun c => (c, Au.wayOf m (aut r) O' c)
        refine Lc.lc_text (fun i H8 => ∃ ps, Same H7 H8 ∧ H8 D2 = some (.lst (ps.map V.ref)) ∧ PairsW H8 ps (Wl.take i)) ⟨[], same_upd nD2, upd_same, .nil⟩ ?_ ?_
        · rintro i c H8 hc ⟨ps3, s8, e8, hps⟩
          have cm : c ∈ cds r.sg := List.mem_of_getElem? hc
          have ilt := (List.getElem?_eq_some_iff.mp hc).1
          have lps : ps3.length ≤ 3 := by
            have := hps.length
            rw [List.length_take] at this
            omega
          refine ⟨rfl, iteT (B := False) ?_⟩
          have eO8 := s8 _ _ eO7
          refine ⟨_, rfl, _, rfl, O, rfl, ⟨_, SqL.of eO8⟩, fun D3 nD3 => Lc.lcLS (SqL.of eO8) (fun H5 s' => SqL.of (s' _ _ eO8)) nD3 (ys := natsV (Au.wayOf m (aut r) O' c)) (by rw [List.length_map, List.length_map, List.length_map]; unfold Au.wayOf; rw [List.length_map]) few (fun _ => rfl) (fun j u y H9 hu2 hy s9 Q' q' => ?_) fun H9 s9 e9 => ?_⟩
          · rw [List.getElem?_map, List.getElem?_map] at hu2
            cases hz : O'[j]? with
            | none => rw [hz] at hu2; cases hu2
            | some z =>
              rw [hz] at hu2
              cases hu2
              have zm := List.mem_of_getElem? hz
              have zlt := Olt z zm
              have s79 := s8.trans s9
              obtain ⟨d9, g9, h91, h92, h93, ⟨mk9, ed9, hw9⟩, _⟩ := (hp.same (s07.trans s79)).get
              obtain ⟨p1, l1, gp1, r1, a1, b1⟩ := step_at ok.W ok.sg hw9 cm zlt
              have G1 : DGet H9 d9 (.str (one c)) (some (.ref p1)) := .inl ⟨mk9, Sum.inr (one c), .inl ed9, rfl, gp1.symm⟩
              have G := DGet.k (k := (Sum.inl (m (step r.W z.1 c) : Int) : Key)) (s79 _ _ eDn)
              rw [gN _ (hin z zm c cm)] at G
              have ey : y = .int ((O'.map fun x => m x.1).idxOf (m (step r.W z.1 c)) : Nat) := by
                have e : (natsV (Au.wayOf m (aut r) O' c))[j]? = some (.int ((O'.map fun x => m x.1).idxOf (m (step r.W z.1 c)) : Nat)) := by
                  unfold natsV Au.wayOf
                  rw [List.getElem?_map, List.getElem?_map, hz]
                  rfl
                rw [e] at hy
                exact (Option.some.inj hy).symm
              rw [ey] at q'
              exact ⟨_, rfl, _, rfl, _, rfl, p, _, rfl, h92, _, rfl, d9, _, rfl, G1, _, rfl, p1, _, _, _, rfl, rfl, SqT.of r1, atI_nat a1, L, _, _, _, rfl, rfl, SqL.of (s79 _ _ eL7), atI_nat (hks _ b1), Dn, _, rfl, G, q' H9 (Same.refl _)⟩
          · refine ⟨D3, _, rfl, .inl ⟨SqL.of e9, fun rr nr => ?_⟩⟩
            have sr := same_upd (o := .tup (natsV (Au.wayOf m (aut r) O' c))) nr
            have hrr : RowAt (upd H9 rr (.tup (natsV (Au.wayOf m (aut r) O' c)))) rr (Au.wayOf m (aut r) O' c) := upd_same
            have s8r := s9.trans sr
            generalize upd H9 rr (.tup (natsV (Au.wayOf m (aut r) O' c))) = Ha at s8r hrr ⊢
            refine ⟨by show 2 ≤ sizeLine; decide, fun pp np => ?_⟩
            have s6' := same_upd (o := .tup [.str (one c), .ref rr]) np
            have ea := s6' _ _ (s8r _ _ e8)
            refine ⟨ps3.map V.ref, ea, by rw [List.length_map]; exact Nat.lt_of_le_of_lt lps (by decide), ps3 ++ [pp], same_put ((s8.trans s8r).trans s6') nD2, by rw [upd_same, List.map_append]; rfl, ?_⟩
            have k7 : KeepT (upd Ha pp (.tup [.str (one c), .ref rr])) (upd (upd Ha pp (.tup [.str (one c), .ref rr])) D2 (.lst (ps3.map V.ref ++ [V.ref pp]))) := KeepT.upd (.lst ea)
            have eW : Wl.take (i + 1) = Wl.take i ++ [(c, Au.wayOf m (aut r) O' c)] := by
              rw [List.take_add_one, List.getElem?_map, hc]
              rfl
            rw [eW]
            exact each_app (hps.keep ((KeepT.same (s8r.trans s6')).trans k7)) (.cons ⟨rr, k7 _ _ upd_same, k7 _ _ (s6' _ _ hrr)⟩ .nil)
        · rintro H8 ⟨ps3, s8, e8, hps⟩
          have Wll : Wl.length = (cds r.sg).length := List.length_map _
          rw [← Wll, List.take_of_length_le (Nat.le_refl _)] at hps
          have ew : Wl.map (·.1) = cds r.sg := by rw [List.map_map]; exact List.map_id _
          obtain ⟨kvsW, pW1, pW2, pW3⟩ := pairs_dict (K := K) hps
          refine ⟨D2, ps3, kvsW, rfl, SqL.of e8, pW1, fun Dw nDw => ?_⟩
          have s9 : Same H8 (upd H8 Dw (.dK (mergeK [] kvsW))) := same_upd nDw
          have hMw : MovAt (upd H8 Dw (.dK (mergeK [] kvsW))) Dw Wl := ⟨kvsW, by rw [upd_same, merge_new (by rw [List.nil_append, pW3]; exact keys_nodup ok.sg ew), List.nil_append], pW2.keep (.same s9)⟩
          generalize upd H8 Dw (.dK (mergeK [] kvsW)) = H9 at s9 hMw ⊢
          dsimp only [tSeq, gName]
          have s79 := s8.trans s9
          have eO9 := s79 _ _ eO7
          refine ⟨_, rfl, O, _, rfl, SqL.of eO9, fun Y nY => ?_⟩
          let tk : Nat → Bool := fun i => ((O'[i]?).map fun x => (aut r).yes x.1).getD false
          refine Lc.lc_enumL (xs := natsV (O'.map (·.1))) (fun i H' => Same H9 H' ∧ H' Y = some (.lst (natsV ((List.range i).filter tk)))) ⟨same_upd nY, upd_same⟩ (fun i H' z => SqL.of (z.1 _ _ eO9)) ?_ ?_
          · rintro i v Ta H' hv ⟨sc, eY⟩ nTa
            rw [List.getElem?_map, List.getElem?_map] at hv
            cases hx : O'[i]? with
            | none => rw [hx] at hv; cases hv
            | some x =>
              rw [hx] at hv
              cases hv
              have ilt := (List.getElem?_eq_some_iff.mp hx).1
              have st1 := same_upd (o := .tup [.int (i : Nat), .int (x.1 : Int)]) nTa
              have scT := sc.trans st1
              have eY1 := st1 _ _ eY
              refine ⟨Ta, _, rfl, SqT.of upd_same, rfl, _, _, rfl, _, _, rfl, rfl, rfl, ?_⟩
              generalize upd H' Ta (.tup [.int (i : Nat), .int (x.1 : Int)]) = H'' at scT eY1 ⊢
              have tki : tk i = decide (x.1 ∈ r.G) := by
                show ((O'[i]?).map _).getD false = _
                rw [hx]
                rfl
              have fs : (List.range (i + 1)).filter tk = (List.range i).filter tk ++ (if tk i = true then [i] else []) := by
                rw [List.range_succ, List.filter_append]
                congr 1
                cases q : tk i <;> simp [q]
              obtain ⟨da, ga, ha1, ha2, ha3, _, hga⟩ := (hp.same ((s07.trans s79).trans scT)).get
              refine ⟨_, rfl, _, rfl, p, _, rfl, ha3, ga, _, rfl, .inr (SqT.of hga), rfl, List.all_eq_true.mpr (flat_nats _), _, rfl, ?_⟩
              rw [inV_nats]
              dsimp only
              by_cases hG2 : x.1 ∈ r.G
              · rw [decide_eq_true hG2] at tki ⊢
                refine ⟨_, rfl, _, eY1, ?_, ?_⟩
                · rw [List.length_map]
                  refine Nat.lt_of_le_of_lt (List.length_filter_le _ _) ?_
                  rw [List.length_range]
                  exact Nat.lt_of_le_of_lt (show i ≤ 60 by omega) (by decide)
                · refine ⟨fun b u e => ?_, ?_⟩
                  · rw [upd_ne (ne_of_none e nY)]
                    exact scT b u e
                  · rw [upd_same, fs, tki, if_pos rfl]
                    unfold natsV
                    rw [List.map_append]
                    rfl
              · rw [decide_eq_false hG2] at tki ⊢
                refine ⟨scT, ?_⟩
                rw [fs, tki, if_neg Bool.false_ne_true, List.append_nil]
                exact eY1
          · rintro H' ⟨sc, eY⟩
            rw [List.length_map, List.length_map] at eY
            refine ⟨Y, _, rfl, .inl ⟨SqL.of eY, fun Gt nGt => ?_⟩⟩
            have sG := same_upd (o := .tup (natsV (Au.goodOf (aut r) O'))) nGt
            have hG9 : RowAt (upd H' Gt (.tup (natsV (Au.goodOf (aut r) O')))) Gt (Au.goodOf (aut r) O') := upd_same
            have s9G := sc.trans sG
            dsimp only [gName]
            show tRet _ _ _ (upd H' Gt (.tup (natsV (Au.goodOf (aut r) O'))))
            generalize upd H' Gt (.tup (natsV (Au.goodOf (aut r) O'))) = Hf at s9G hG9 ⊢
            have hMf := hMw.same s9G
            have s0f : Same H Hf := (s07.trans s79).trans s9G
            refine fun Dd nDd => ?_
            have sDd := same_upd (o := .dK []) nDd
            have eDd : (upd Hf Dd (.dK [])) Dd = some (.dK []) := upd_same
            obtain ⟨df, gf, hf1, _, _, _, _⟩ := (hp.same (s0f.trans sDd)).get
            refine ⟨_, rfl, p, _, rfl, hf1, _, rfl, _, rfl, _, rfl, eDd, kvL r.sg Dw Gt Li, rfl, by show 4 ≤ 15; decide, ?_⟩
            have sFin : Same Hf (upd (upd Hf Dd (.dK [])) Dd (.dK (kvL r.sg Dw Gt Li))) := fun b u e => by rw [upd_ne (ne_of_none e nDd)]; exact sDd b u e
            exact q Dd Dw Gt Li _ m l (s0f.trans sFin) ner full upd_same (hMf.same sFin) (sFin _ _ hG9) (sFin _ _ (s9G _ _ (s79 _ _ (s57 _ _ eLi))))
end
end K24

set_option linter.all false
/-! two automata walked side by side (core Lean alone) -/
namespace Au
section
variable {α β : Type} [DecidableEq α] [DecidableEq β] {L : List Nat} {nx : Nat → α → α} {nx' : Nat → β → β} {h : α → β}
/-- nodes renamed -/
def ren (h : α → β) (f : List (α × List Nat)) : List (β × List Nat) := f.map fun y => (h y.1, y.2)
theorem ren_mem (inj : ∀ a b, h a = h b → a = b) {f : List (α × List Nat)} {a : α} : h a ∈ (ren h f).map (·.1) ↔ a ∈ f.map (·.1) := by
  unfold ren
  rw [List.map_map]
  constructor
  · intro z
    obtain ⟨y, hy, e⟩ := List.mem_map.mp z
    rw [← inj _ _ e]
    exact List.mem_map_of_mem hy
  · intro z
    obtain ⟨y, hy, rfl⟩ := List.mem_map.mp z
    exact List.mem_map.mpr ⟨y, hy, rfl⟩
theorem ren_visit (inj : ∀ a b, h a = h b → a = b) (hom : ∀ c a, nx' c (h a) = h (nx c a)) {x : α × List Nat} {f : List (α × List Nat)} {c : Nat} : visit nx' (h x.1, x.2) (ren h f) c = ren h (visit nx x f c) := by
  unfold visit
  show (if nx' c (h x.1) ∈ _ then _ else ren h f ++ [(nx' c (h x.1), x.2 ++ [c])]) = _
  rw [hom]
  by_cases z : nx c x.1 ∈ f.map (·.1)
  · rw [if_pos z, if_pos ((ren_mem inj).mpr z)]
  · rw [if_neg z, if_neg fun q => z ((ren_mem inj).mp q)]
    unfold ren
    rw [List.map_append]
    rfl
theorem ren_turn (inj : ∀ a b, h a = h b → a = b) (hom : ∀ c a, nx' c (h a) = h (nx c a)) {x : α × List Nat} : ∀ {M : List Nat} {f : List (α × List Nat)}, turn M nx' (h x.1, x.2) (ren h f) = ren h (turn M nx x f)
  | [], f => rfl
  | c :: M, f => by
    show turn M nx' (h x.1, x.2) (visit nx' (h x.1, x.2) (ren h f) c) = ren h (turn M nx x (visit nx x f c))
    rw [ren_visit inj hom]
    exact ren_turn inj hom
theorem ren_upTo (inj : ∀ a b, h a = h b → a = b) (hom : ∀ c a, nx' c (h a) = h (nx c a)) {s : α} : ∀ k, upTo L nx' (h s) k = ren h (upTo L nx s k)
  | 0 => rfl
  | k + 1 => by
    have ih := ren_upTo inj hom (s := s) k
    cases q : (upTo L nx s k)[k]? with
    | none =>
      rw [upTo_none q, upTo_none (by rw [ih]; unfold ren; rw [List.getElem?_map, q]; rfl)]
      exact ih
    | some x =>
      rw [upTo_some q, upTo_some (x := (h x.1, x.2)) (by rw [ih]; unfold ren; rw [List.getElem?_map, q]; rfl), ih]
      exact ren_turn inj hom
theorem ren_full (inj : ∀ a b, h a = h b → a = b) (hom : ∀ c a, nx' c (h a) = h (nx c a)) {s : α} {l : List (α × List Nat)} (full : Full L nx s l) : Full L nx' (h s) (ren h l) := by
  obtain ⟨k, rfl, e⟩ := full
  refine ⟨k, (ren_upTo inj hom k).symm, ?_⟩
  unfold ren
  rw [List.length_map]
  exact e
end
section
variable {L : List Nat} {R S : Aut} {l : List ((Nat × Nat) × List Nat)}
/-- two states at once -/
def nx2 (R S : Aut) : Nat → Nat × Nat → Nat × Nat := fun c q => (R.to c q.1, S.to c q.2)
theorem runs2 : ∀ {w : List Nat} {a b : Nat}, runs (nx2 R S) (a, b) w = (runs R.to a w, runs S.to b w)
  | [], _, _ => rfl
  | c :: w, a, b => runs2 (w := w)
def unl (R S : Aut) (x : (Nat × Nat) × List Nat) : Bool := R.yes x.1.1 != S.yes x.1.2
/-- each pair is where its text leads, so it parts the two iff their answers to it are unlike -/
theorem unl_says (full : Full L (nx2 R S) (0, 0) l) {x : (Nat × Nat) × List Nat} (hx : x ∈ l) : unl R S x = (says R 0 x.2 != says S 0 x.2) := by
  have e := (full.led x hx).1
  rw [runs2] at e
  unfold unl says
  rw [e]
theorem like_iff (full : Full L (nx2 R S) (0, 0) l) : (∀ x ∈ l, unl R S x = false) ↔ Like L R 0 S 0 := by
  constructor
  · intro h w hw
    have := full.reach full.start hw
    obtain ⟨x, hx, e⟩ := List.mem_map.mp this
    have u := h x hx
    unfold unl at u
    rw [e, runs2] at u
    show R.yes (runs R.to 0 w) = S.yes (runs S.to 0 w)
    revert u
    cases R.yes (runs R.to 0 w) <;> cases S.yes (runs S.to 0 w) <;> decide
  · intro h x hx
    rw [unl_says full hx, h x.2 (full.led x hx).2]
    cases says S 0 x.2 <;> rfl
theorem unl_swap {x : (Nat × Nat) × List Nat} : unl S R ((x.1.2, x.1.1), x.2) = unl R S x := by
  unfold unl
  cases R.yes x.1.1 <;> cases S.yes x.1.2 <;> rfl
theorem full_swap (full : Full L (nx2 R S) (0, 0) l) : Full L (nx2 S R) (0, 0) (ren (fun q : Nat × Nat => (q.2, q.1)) l) :=
  ren_full (h := fun q : Nat × Nat => (q.2, q.1)) (fun a b e => Prod.ext (congrArg Prod.snd e) (congrArg Prod.fst e)) (fun c a => rfl) full
theorem find_swap : ∀ {l : List ((Nat × Nat) × List Nat)}, ((ren (fun q : Nat × Nat => (q.2, q.1)) l).find? (unl S R)).map (·.2) = (l.find? (unl R S)).map (·.2)
  | [] => rfl
  | x :: l => by
    show ((((x.1.2, x.1.1), x.2) :: ren (fun q : Nat × Nat => (q.2, q.1)) l).find? (unl S R)).map (·.2) = _
    by_cases u : unl R S x = true
    · rw [List.find?_cons_of_pos u, List.find?_cons_of_pos (by rw [unl_swap]; exact u)]
      rfl
    · rw [List.find?_cons_of_neg u, List.find?_cons_of_neg (by rw [unl_swap]; exact u)]
      exact find_swap
end
end Au

set_option Elab.async false
set_option linter.all false
set_option maxRecDepth 100000
set_option maxHeartbeats 3200000
/-! what the law asks of least readers and partings, as mathematics -/
namespace K24
open PySem L2 Tx Tg Tm Da RZ Ek It2
theorem un2_unl (r r' : Rdr) : un2 r r' = Au.unl (aut r) (aut r') := rfl
theorem nxP_nx2 (r r' : Rdr) : nxP r.W r'.W = Au.nx2 (aut r) (aut r') := rfl
theorem parV_map (r r' : Rdr) (l : List ((Nat × Nat) × List Nat)) : parV r r' l = match (l.find? (un2 r r')).map (·.2) with | some t => .str (tx t) | none => .non := by
  unfold parV
  cases l.find? (un2 r r') <;> rfl
theorem par_swap {r r' : Rdr} {l l' : List ((Nat × Nat) × List Nat)} (esg : r.sg = r'.sg) (full : Au.Full (cds r.sg) (nxP r.W r'.W) (0, 0) l) (full' : Au.Full (cds r'.sg) (nxP r'.W r.W) (0, 0) l') : parV r' r l' = parV r r' l := by
  have e := Au.Full.uniq (by rw [esg] at full; exact Au.full_swap (R := aut r) (S := aut r') full) full'
  rw [parV_map, parV_map, ← e, un2_unl, un2_unl, Au.find_swap]
theorem par_none {r r' : Rdr} {l : List ((Nat × Nat) × List Nat)} (full : Au.Full (cds r.sg) (nxP r.W r'.W) (0, 0) l) : parV r r' l = .non ↔ Au.Like (cds r.sg) (aut r) 0 (aut r') 0 := by
  rw [← Au.like_iff (R := aut r) (S := aut r') full]
  unfold parV
  constructor
  · intro e x hx
    cases q : l.find? (un2 r r') with
    | none =>
      have := List.find?_eq_none.mp q x hx
      exact Bool.eq_false_iff.mpr this
    | some y => rw [q] at e; cases e
  · intro h
    rw [List.find?_eq_none.mpr fun x hx => by rw [un2_unl, h x hx]; exact Bool.false_ne_true]
/-- a text that parts two readers -/
theorem par_some {r r' : Rdr} {l : List ((Nat × Nat) × List Nat)} (full : Au.Full (cds r.sg) (nxP r.W r'.W) (0, 0) l) (h : parV r r' l ≠ .non) : ∃ t, parV r r' l = .str (tx t) ∧ (∀ c ∈ t, c ∈ cds r.sg) ∧ t.length ≤ l.length ∧ decide (run r.W 0 t ∈ r.G) ≠ decide (run r'.W 0 t ∈ r'.G) := by
  cases q : l.find? (un2 r r') with
  | none => exact absurd (by unfold parV; rw [q]) h
  | some x =>
    have hx := List.mem_of_find?_eq_some q
    have un : Au.unl (aut r) (aut r') x = true := List.find?_some q
    rw [Au.unl_says (R := aut r) (S := aut r') full hx] at un
    refine ⟨x.2, by unfold parV; rw [q], (full.led x hx).2, ?_, fun e => ?_⟩
    · obtain ⟨k, rfl, hk⟩ := full
      have e : Au.upTo (cds r.sg) (nxP r.W r'.W) (0, 0) k = Au.upTo (cds r.sg) (nxP r.W r'.W) (0, 0) (Au.upTo (cds r.sg) (nxP r.W r'.W) (0, 0) k).length := Au.upTo_done (Au.upTo_le hk).length_le hk
      rw [e] at hx
      exact upTo_txtP _ _ _ x hx
    · have un : (decide (run r.W 0 x.2 ∈ r.G) != decide (run r'.W 0 x.2 ∈ r'.G)) = true := un
      rw [e] at un
      revert un
      cases decide (run r'.W 0 x.2 ∈ r'.G) <;> decide
/-- readers with the same answers have the same least one -/
theorem lean_one {r r' : Rdr} {m m' : Nat → Nat} {l l' : List (Nat × List Nat)} (ok : okR r) (ok' : okR r') (esg : r.sg = r'.sg) (ner : Au.Ner (cds r.sg) (aut r) m) (full : Au.Full (cds r.sg) (aut r).to 0 l) (ner' : Au.Ner (cds r'.sg) (aut r') m') (full' : Au.Full (cds r'.sg) (aut r').to 0 l') (e : Au.Like (cds r.sg) (aut r) 0 (aut r') 0) : leanOf r m l = leanOf r' m' l' := by
  have fit' := fit_of ok'
  rw [← esg] at ner' full' fit'
  obtain ⟨h1, h2, h3⟩ := Au.lean_same (fit_of ok) ner full fit' ner' full' e
  unfold leanOf
  rw [← esg, h3, List.map_congr_left (f := fun c => (c, Au.wayOf m (aut r) (Au.dd m l) c)) (g := fun c => (c, Au.wayOf m' (aut r') (Au.dd m' l') c)) fun c hc => by rw [h2 c hc]]
  have : (Au.dd m l).length = (Au.dd m' l').length := by
    have := congrArg List.length h1
    rwa [List.length_map, List.length_map] at this
  rw [this]
/-- the least one answers as the reader does -/
theorem lean_ans {r : Rdr} {m : Nat → Nat} {l : List (Nat × List Nat)} (ok : okR r) (ner : Au.Ner (cds r.sg) (aut r) m) (full : Au.Full (cds r.sg) (aut r).to 0 l) : Au.Like (cds r.sg) (aut (leanOf r m l)) 0 (aut r) 0 := by
  have h := Au.lean_like (fit_of ok) ner full
  have nd : (((cds r.sg).map fun c => (c, Au.wayOf m (aut r) (Au.dd m l) c)).map (·.1)).Nodup := by
    rw [List.map_map]
    exact (show ((cds r.sg).map id).Nodup from by rw [List.map_id]; exact sg_nodup ok.sg)
  have go : ∀ (w : List Nat) (q : Nat), (∀ c ∈ w, c ∈ cds r.sg) → Au.says (aut (leanOf r m l)) q w = Au.says (Au.leanA m (aut r) (Au.dd m l)) q w := fun w => by
    induction w with
    | nil => exact fun q _ => rfl
    | cons c w ih =>
      intro q hw
      have hc := hw c List.mem_cons_self
      have st : (aut (leanOf r m l)).to c q = (Au.leanA m (aut r) (Au.dd m l)).to c q := by
        show (row ((cds r.sg).map fun c => (c, Au.wayOf m (aut r) (Au.dd m l) c)) c).getD q 0 = ((Au.wayOf m (aut r) (Au.dd m l) c)[q]?).getD 0
        rw [row_eq nd (List.mem_map.mpr ⟨c, hc, rfl⟩), List.getD_eq_getElem?_getD]
      show Au.says _ ((aut (leanOf r m l)).to c q) w = Au.says _ ((Au.leanA m (aut r) (Au.dd m l)).to c q) w
      rw [st]
      exact ih _ fun d hd => hw d (List.mem_cons_of_mem _ hd)
  exact fun w hw => (go w 0 hw).trans (h w hw)
end K24

set_option Elab.async false
set_option linter.all false
set_option maxRecDepth 100000
set_option maxHeartbeats 12800000
namespace K24
open PySem L2 Tx Tg Tm Da RZ Ek It2
/-! ### the other answers -/
abbrev sInv : Stmt := inClass sReader 12
abbrev nInv : List Str := ["self", "yes", "state"]
theorem scInv : FnScope nInv ["self"] (defScope sInv) := ⟨rfl, rfl, rfl, by decide +kernel, rfl, by decide +kernel, by decide +kernel⟩
def invR (r : Rdr) : Rdr := ⟨r.sg, r.W, (List.range r.n).filter fun s => decide (s ∉ r.G), r.n⟩
section
variable {P : Program} {w : World} {K : PySem.W.Frag} {mg : Str → Option Value} {base : Heap} {CC : Addr}
def spInv (CC : Addr) : Sp := fun vs H Q _ => ∃ (p : Addr) (r : Rdr), vs = [.ref p] ∧ RdAt CC H p r ∧ ∀ x H', Same H H' → RdAt CC H' x (invR r) → Q (.ref x) H'
theorem ok_inv {f : Addr} {fd : FuncData} (F : Fun K "__invert__" "Reader.__invert__" sInv f fd) (T : Txt K mg) (C : Cl P w K mg base CC) : FnOk P w K mg base CX0 7 f fd ["self"] (spInv CC) := by
  refine F.ok scInv (fun vs H Q E h => ?_) (fun cdv A outer s0 H vs Q E hr h => ?_)
  · obtain ⟨p, r, rfl, _⟩ := h
    rfl
  · obtain ⟨p, r, rfl, hp, q⟩ := h
    have hu := hu_of hr
    refine ⟨_, (pss_cons (ps_setLc (i := 1) (own := [("state", 2)]) (g := (gName 2))  (tt := tTest (tOp (rIn K true) (tVar 2) (tFld K (tVar 0) "_yes"))) (te := tVar 2) (by rfl) scInv.nd rfl rfl (sw_true rfl rfl rfl (by decide +kernel)) (pi_range1 rfl T.range (pa_cons (pe_callB (Ow.len_own C.gLn (hr.mono (by decide)) C.sLn C.fnLn C.bLn pass0) (by rfl) T.len PySem.boot_len (pa_cons (pv 0) pa_nil)) pa_nil)) (blkOk_by (own := [("state", 2)]) (N := nInv) (sc := defScope sInv) (by decide +kernel)) (fun _ _ _ _ _ => (pg_name (i := 2) scInv.nd rfl (Or.inl rfl))) (fun _ _ _ _ _ => pts_one (pt_cmpR op_notIn_seq (pv 2) (pe_fld (pv 0) rfl) (by rfl))) (fun _ _ _ _ _ => (pv 2)))
    (pss_one (ps_ret (pe_make C.MK.M C.MK.gi (hr.mono (by decide)) (by rfl) C.MK.W.gR C.MK.bi .nil pass0 (pa_cons (pe_fld (pv 0) rfl) (pa_cons (pe_fld (pv 0) rfl) (pa_cons (pe_callTy call_tuple_of (by rfl) T.tuple (by decide +kernel) (pa_cons (pv 1) pa_nil)) pa_nil))))))), ?_⟩
    obtain ⟨dx, d, g, hpI, hM, hG, ok⟩ := id hp
    have W0 := C.MK.W
    have n1 := ok.W.one
    have n60 := ok.W.most
    have tn : ((r.n : Nat) : Int).toNat = r.n := Int.toNat_natCast _
    refine ⟨_, rfl, p, dx, _, rfl, hpI, p, r, rfl, hp, _, rfl, by omega, by omega, _, rfl, by omega, by omega, fun D nD => ?_⟩
    rw [tn]
    let tk : Nat → Bool := fun s => decide (s ∉ r.G)
    refine lc_range (lo := 0) (n := r.n) (fun i H2 => Same H H2 ∧ H2 D = some (.lst (natsV ((List.range i).filter tk)))) ⟨same_upd nD, upd_same⟩ ?_ ?_
    · rintro i H2 hi ⟨s2, e2⟩
      have hp2 := hp.same s2
      obtain ⟨dx2, d2, g2, hp2I, _, hG2, _⟩ := id hp2
      refine ⟨rfl, _, rfl, _, rfl, p, CC, dx2, _, _, rfl, hp2I, W0.cl, W0.nY, rfl, g2, natsV r.G, rfl, .inr (SqT.of hG2), rfl, List.all_eq_true.mpr (flat_nats _), _, rfl, ?_⟩
      rw [Int.zero_add, inV_nats]
      dsimp only
      have fs : (List.range (i + 1)).filter tk = (List.range i).filter tk ++ (if tk i = true then [i] else []) := by
        rw [List.range_succ, List.filter_append]
        congr 1
        cases q : tk i <;> simp [q]
      by_cases hG3 : i ∈ r.G
      · have t0 : tk i = false := decide_eq_false (fun z => z hG3)
        refine iteF' (by rw [decide_eq_true hG3]; exact Bool.false_ne_true) ⟨s2, ?_⟩
        rw [fs, t0, if_neg Bool.false_ne_true, List.append_nil]
        exact e2
      · have t1 : tk i = true := decide_eq_true hG3
        refine iteT' (by rw [decide_eq_false hG3]; rfl) ⟨_, rfl, _, e2, ?_, ?_, ?_⟩
        · rw [List.length_map]
          refine Nat.lt_of_le_of_lt (List.length_filter_le _ _) ?_
          rw [List.length_range]
          exact Nat.lt_of_le_of_lt (show i ≤ 60 by omega) (by decide)
        · intro b u e
          rw [upd_ne (ne_of_none e nD)]
          exact s2 b u e
        · rw [upd_same, fs, t1, if_pos rfl]
          unfold natsV
          rw [List.map_append]
          rfl
    · rintro H2 ⟨s2, e2⟩
      have hp2 := hp.same s2
      obtain ⟨dx2, d2, g2, hp2I, hM2, hG2, _⟩ := id hp2
      refine ⟨_, rfl, p, CC, dx2, _, _, rfl, hp2I, W0.cl, W0.nL, rfl, _, rfl, p, CC, dx2, _, _, rfl, hp2I, W0.cl, W0.nM, rfl, _, rfl, D, _, rfl, .inl ⟨SqL.of e2, fun T2 nT2 => ?_⟩⟩
      have s3 := same_upd (o := .tup (natsV ((List.range r.n).filter tk))) nT2
      have gG : okG r.n ((List.range r.n).filter tk) := ⟨fun i hi => List.mem_range.mp (List.mem_filter.mp hi).1, List.Pairwise.filter _ List.pairwise_lt_range⟩
      have gl : ((List.range r.n).filter tk).length ≤ 60 := by
        refine Nat.le_trans (List.length_filter_le _ _) ?_
        rw [List.length_range]
        exact n60
      refine made_tail ok.sg (hM2.same s3) ok.W upd_same gG gl fun x H' s h => q x H' ((s2.trans s3).trans s) ?_
      rw [ordW_self ok.sg ok.ord] at h
      exact h
end
end K24

set_option Elab.async false
set_option linter.all false
set_option maxRecDepth 100000
set_option maxHeartbeats 2000000
/-! LiV: list(d.values()) -/
namespace LiV
open PySem PySem.Spec PyProof.Rows L2
def tListVals (te : TE) : TE := fun σ H Q => te σ H fun x H1 => ∃ d kvs, x = .ref d ∧ H1 d = some (.dK kvs) ∧ ∀ q, H1 q = none → Q (.ref q) (upd H1 q (.lst (kvs.map fun kv => kv.2)))
section
variable {X : Cx} {e : Expr} {te : TE} {p apos cpos pos : Pos}
theorem pe_listVals (hc : X.calm = true) (he : PE X e te) (hg : Gl X "list") (hm : X.mg "list" = none) (hv : bootBuiltins "list" = some (.type "list")) (hbase : attributeBase e "values" X.env (eval e X.env) = eval e X.env := by rfl) (hline : (apos.endLine == cpos.line) = true := by rfl)
    (hs : starEach [.Call (.Attribute e "values" apos) [] [] cpos] X.env = (false, eval (.Call (.Attribute e "values" apos) [] [] cpos) X.env) :: starEach [] X.env := by rfl) :
    PE X (.Call (.Name "list" p) [.Call (.Attribute e "values" apos) [] [] cpos] [] pos) (tListVals te) := by
  refine ⟨fun pins s σ H Q I hq => ?_⟩
  refine wpAny_Call_Name_kw (ld_blt I hg hm hv ?_)
  refine PyProof.Rows.callWith_type1 ?_ hs rfl
  rw [hs]
  show wpAny _ _ (spliced ((false, eval (.Call (.Attribute e "values" apos) [] [] cpos) X.env) :: backTo pos (starEach [] X.env))) _ _ s
  refine Calls.spliced_cons ?_
  refine wpAny_Call_method (T := "dict") (id := "dict.values") hbase rfl hline F.plainAttrs_dict F.slot_dict_values F.type_dict_values (thn (he.run pins s σ H _ I hq) fun u s1 ⟨x, H1, I1, rx, d, kvs, ex, hd, q⟩ => ?_)
  subst ex
  obtain rfl : u = Value.ref d := rx
  obtain ⟨hz, hs0, vs, kv, hdo⟩ := I1.hok d _ hd
  obtain ⟨ep, hat⟩ := hdo.dictAt
  have lk : kvs.length = vs.length := Paired.length kv
  have I2 : Inv X pins σ H1 { s1 with heap := s1.heap.push { cls := .type "dict_values", data := .fields #[.ref d] } } := I1.kept (t' := s1.toks) fun b ob q => Heap.get?_push_of_some _ q
  refine ⟨hdo.typeIs, hdo.mapOf.noDict, ?_⟩
  show wpAny _ _ (callWith cpos (.builtin "dict.values") [.ref d] [] []) _ X.xe s1
  refine method_meetsIn F.slot_dict_values F.entry_dict_values rfl (PySem.evalArgs_none ⟨rfl, hdo.typeIs, F.args_dict_values_1 _, _, meets_dict_values (mixKind X.prog X.w) d hs0, ⟨vs, hdo⟩, ?_⟩)
  refine Calls.spliced_nil ?_
  refine PySem.W.kdl_call (PySem.W.kdl_values (knd := mixKind X.prog X.w) (kvs := vs) (ep := ep)) (I1.ok.hd hc) ⟨⟨_, Heap.get?_push_size _ rfl, rfl, rfl⟩, hat.push _⟩ (by omega) fun h' tk acc' c' hkeep hS hacc => ?_
  refine ⟨.ref _, upd H1 _ (.lst (kvs.map fun kv => kv.2)), I2.laid hkeep (Nat.le_refl _) (show ObjOk X.prog X.w _ _ _ (.lst (kvs.map fun kv => kv.2)) from ⟨?_, acc'.toList, c', ?_, ?_⟩), rfl, q _ (I2.hok.fresh (Nat.le_refl _))⟩
  · rw [List.length_map]; exact hz
  · have el : acc'.toList.length = acc'.size := by simp
    refine vals_of_at (by rw [List.length_map, el, hacc.1, lk]) fun j x w h1 h2 => ?_
    obtain ⟨k, hky⟩ := hacc.2 j w (by rw [← Array.getElem?_toList]; exact h2)
    rw [List.getElem?_map] at h1
    cases hk : kvs[j]? with
    | none => rw [hk] at h1; cases h1
    | some pk =>
      rw [hk] at h1
      cases h1
      obtain ⟨qv, g1, g2, g3⟩ := LiI.paired_get kv hk
      rw [hky] at g1
      cases g1
      exact g3
  · rw [Array.toArray_toList]; exact hS
end
end LiV

set_option Elab.async false
set_option linter.all false
set_option maxRecDepth 100000
set_option maxHeartbeats 12800000
namespace K24
open PySem L2 Tx Tg Tm Da RZ Ek It2
/-! ### lines, reading, first merges -/
abbrev sLine : Stmt := top 57
abbrev sRead : Stmt := top 65
abbrev sFM : Stmt := top 44
abbrev sIsT : Stmt := top 46
abbrev sMT : Stmt := top 51
theorem hit {α β : Type} {f : α → Option β} {l : List α} {i : Nat} {x : α} {z : β} (none_ : ∀ y ∈ l.take i, f y = none) (h : l[i]? = some x) (e : f x = some z) : l.findSome? f = some z := by
  have e2 : l = l.take i ++ x :: l.drop (i + 1) := by
    conv => lhs; rw [← List.take_append_drop i l, List.drop_eq_getElem_cons (List.getElem?_eq_some_iff.mp h).1, (List.getElem?_eq_some_iff.mp h).2]
  rw [e2, List.findSome?_append, List.findSome?_eq_none_iff.mpr none_, List.findSome?_cons, e]
  rfl
theorem miss {α β : Type} {f : α → Option β} {l : List α} (none_ : ∀ y ∈ l, f y = none) : l.findSome? f = none := List.findSome?_eq_none_iff.mpr none_
theorem take_none {α β : Type} {f : α → Option β} {l : List α} {i : Nat} {x : α} (none_ : ∀ y ∈ l.take i, f y = none) (h : l[i]? = some x) (e : f x = none) : ∀ y ∈ l.take (i + 1), f y = none := fun y hy => by
  rw [List.take_add_one, h] at hy
  rcases List.mem_append.mp hy with hy | hy
  · exact none_ y hy
  · rw [List.mem_singleton.mp hy]
    exact e
/-- the other place of two, behind a first one -/
def fOther (row : List Nat) (n a : Nat) : Option Nat := (List.range' (a + 1) (n - (a + 1))).findSome? fun b => if row.getD a 0 = row.getD b 0 then some b else none
def fOne (row : List Nat) (n : Nat) : Option (Nat × Nat) := (List.range n).findSome? fun a => (fOther row n a).map fun b => (a, b)
/-- the first letter that leads two states to one, with both -/
def fMerge (R : Rdr) : Option (Nat × Nat × Nat) := R.W.findSome? fun w => (fOne w.2 R.n).map fun q => (w.1, q.1, q.2)
theorem fOther_lt {row : List Nat} {n a b : Nat} (h : fOther row n a = some b) : a < b ∧ b < n := by
  obtain ⟨x, hx, e⟩ := List.exists_of_findSome?_eq_some h
  split at e
  · cases e
    have := List.mem_range'_1.mp hx
    omega
  · cases e
theorem fOne_lt {row : List Nat} {n : Nat} {q : Nat × Nat} (h : fOne row n = some q) : q.1 < q.2 ∧ q.2 < n := by
  obtain ⟨a, ha, e⟩ := List.exists_of_findSome?_eq_some h
  cases z : fOther row n a with
  | none => rw [z] at e; cases e
  | some b =>
    rw [z] at e
    cases e
    exact fOther_lt z
theorem fMerge_lt {R : Rdr} {c a b : Nat} (h : fMerge R = some (c, a, b)) : c ∈ R.W.map (·.1) ∧ a < b ∧ b < R.n := by
  obtain ⟨w, hw, e⟩ := List.exists_of_findSome?_eq_some h
  cases z : fOne w.2 R.n with
  | none => rw [z] at e; cases e
  | some q =>
    rw [z] at e
    cases e
    exact ⟨List.mem_map_of_mem hw, fOne_lt z⟩
/-- a merge as a value: a letter and two texts -/
def MgAt (K : PySem.W.Frag) (H : Hp) (v : V) (ts : List (List Nat)) : Option (Nat × Nat × Nat) → Prop
  | none => v = .non
  | some (c, a, b) => ∃ p, v = .ref p ∧ H p = some (.tup [.str (one c), .str (tx (ts.getD a [])), .str (tx (ts.getD b []))])
theorem MgAt.same {K : PySem.W.Frag} {H H' : Hp} {v : V} {ts : List (List Nat)} (s : Same H H') : ∀ {o : Option (Nat × Nat × Nat)}, MgAt K H v ts o → MgAt K H' v ts o
  | none, h => h
  | some (_, _, _), ⟨p, e, h⟩ => ⟨p, e, s _ _ h⟩
theorem eqI (a b : Nat) : decide (V.int (a : Int) = V.int (b : Int)) = decide (a = b) := decide_eq_decide.mpr ⟨fun e => by injection e with e; omega, fun e => by rw [e]⟩
/-- the least reader's states part one another -/
theorem ner_lean {r : Rdr} {m : Nat → Nat} {l : List (Nat × List Nat)} (ok : okR r) (ner : Au.Ner (cds r.sg) (aut r) m) (full : Au.Full (cds r.sg) (aut r).to 0 l) : Au.Ner (cds r.sg) (aut (leanOf r m l)) id := by
  have fit := fit_of ok
  have lb := Au.full_lt fit full
  have nd : (((cds r.sg).map fun c => (c, Au.wayOf m (aut r) (Au.dd m l) c)).map (·.1)).Nodup := by
    rw [List.map_map]
    exact (show ((cds r.sg).map id).Nodup from by rw [List.map_id]; exact sg_nodup ok.sg)
  have go : ∀ (w : List Nat) (q : Nat), (∀ c ∈ w, c ∈ cds r.sg) → Au.says (aut (leanOf r m l)) q w = Au.says (Au.leanA m (aut r) (Au.dd m l)) q w := fun w => by
    induction w with
    | nil => exact fun q _ => rfl
    | cons c w ih =>
      intro q hw
      have hc := hw c List.mem_cons_self
      have st : (aut (leanOf r m l)).to c q = (Au.leanA m (aut r) (Au.dd m l)).to c q := by
        show (row ((cds r.sg).map fun c => (c, Au.wayOf m (aut r) (Au.dd m l) c)) c).getD q 0 = ((Au.wayOf m (aut r) (Au.dd m l) c)[q]?).getD 0
        rw [row_eq nd (List.mem_map.mpr ⟨c, hc, rfl⟩), List.getD_eq_getElem?_getD]
      show Au.says _ ((aut (leanOf r m l)).to c q) w = Au.says _ ((Au.leanA m (aut r) (Au.dd m l)).to c q) w
      rw [st]
      exact ih _ fun d hd => hw d (List.mem_cons_of_mem _ hd)
  have dn := Au.dd_nd (h := m) (l := l)
  intro s t hs ht
  have hs : s < (Au.dd m l).length := hs
  have ht : t < (Au.dd m l).length := ht
  constructor
  · intro e
    have e : s = t := e
    rw [e]
    exact fun _ _ => rfl
  · intro like
    have es : (Au.dd m l)[s]? = some (Au.dd m l)[s] := List.getElem?_eq_getElem hs
    have et : (Au.dd m l)[t]? = some (Au.dd m l)[t] := List.getElem?_eq_getElem ht
    have like2 : Au.Like (cds r.sg) (aut r) ((Au.dd m l)[s]).1 (aut r) ((Au.dd m l)[t]).1 := fun w hw => by
      rw [← Au.lean_says fit ner full w hw s _ es, ← Au.lean_says fit ner full w hw t _ et, ← go w s hw, ← go w t hw]
      exact like w hw
    have mm := (ner _ _ (lb _ (Au.dd_sub _ (List.getElem_mem hs))) (lb _ (Au.dd_sub _ (List.getElem_mem ht)))).mpr like2
    have e1 : ((Au.dd m l).map fun y => m y.1)[s]? = some (m ((Au.dd m l)[s]).1) := by rw [List.getElem?_map, es]; rfl
    have e2 : ((Au.dd m l).map fun y => m y.1)[t]? = some (m ((Au.dd m l)[t]).1) := by rw [List.getElem?_map, et]; rfl
    rw [← mm, ← e1] at e2
    exact ((List.getElem?_inj (by rw [List.length_map]; exact ht) dn).mp e2).symm
theorem dd_id : ∀ {l : List (Nat × List Nat)}, (l.map (·.1)).Nodup → Au.dd id l = l := fun {l} => by
  intro nd
  have go : ∀ k, Au.dd id (l.take k) = l.take k := fun k => by
    induction k with
    | zero => rfl
    | succ k ih =>
      cases hx : l[k]? with
      | none => rw [List.take_add_one, hx]; simpa using ih
      | some x =>
        rw [List.take_add_one, hx]
        show Au.dd id (l.take k ++ [x]) = _
        rw [Au.dd_snoc, ih]
        unfold Au.putK
        rw [if_neg fun z => ?_]
        · rfl
        · obtain ⟨y, hy, e⟩ := List.mem_map.mp z
          obtain ⟨j, hj, ej⟩ := List.mem_iff_getElem.mp hy
          rw [List.length_take] at hj
          have hk := (List.getElem?_eq_some_iff.mp hx).1
          have e1 : (l.map (·.1))[j]? = some y.1 := by
            rw [List.getElem_take] at ej
            rw [List.getElem?_map, List.getElem?_eq_getElem (by omega), ej]
            rfl
          have e2 : (l.map (·.1))[k]? = some x.1 := by rw [List.getElem?_map, hx]; rfl
          have e : y.1 = x.1 := e
          rw [e, ← e2] at e1
          have := (List.getElem?_inj (by rw [List.length_map]; omega) nd).mp e1
          omega
  have := go l.length
  rwa [List.take_of_length_le (Nat.le_refl _)] at this
/-- the walk of the least reader has the texts of its states in their order -/
theorem walk_lean {r : Rdr} {m : Nat → Nat} {l l2 : List (Nat × List Nat)} (ok : okR r) (okL : okR (leanOf r m l)) (ner : Au.Ner (cds r.sg) (aut r) m) (full : Au.Full (cds r.sg) (aut r).to 0 l) (full2 : Au.Full (cds r.sg) (aut (leanOf r m l)).to 0 l2) : l2.map (·.2) = (Au.dd m l).map (·.2) := by
  have fitL := fit_of okL
  have h := Au.lean_same (fit_of ok) ner full (L := cds r.sg) (S := aut (leanOf r m l)) fitL (ner_lean ok ner full) full2 (lean_ans ok ner full).symm
  rw [h.1, dd_id full2.nd]
/-- what is told of a reader by its least one -/
def LeanR (r R : Rdr) (ts : List (List Nat)) : Prop := ∃ m l, Au.Ner (cds r.sg) (aut r) m ∧ Au.Full (cds r.sg) (aut r).to 0 l ∧ R = leanOf r m l ∧ ts = (Au.dd m l).map (·.2)
theorem LeanR.uniq {r r' R R' : Rdr} {ts ts' : List (List Nat)} (ok : okR r) (ok' : okR r') (esg : r.sg = r'.sg) (like : Au.Like (cds r.sg) (aut r) 0 (aut r') 0) (h : LeanR r R ts) (h' : LeanR r' R' ts') : R = R' ∧ ts = ts' := by
  obtain ⟨m, l, n1, f1, rfl, rfl⟩ := h
  obtain ⟨m', l', n2, f2, rfl, rfl⟩ := h'
  refine ⟨lean_one ok ok' esg n1 f1 n2 f2 like, ?_⟩
  have fit' := fit_of ok'
  rw [← esg] at n2 f2 fit'
  exact (Au.lean_same (fit_of ok) n1 f1 fit' n2 f2 like).1
theorem LeanR.len {r R : Rdr} {ts : List (List Nat)} (h : LeanR r R ts) : ts.length = R.n := by
  obtain ⟨m, l, _, _, rfl, rfl⟩ := h
  exact List.length_map _
section
variable {P : Program} {w : World} {K : PySem.W.Frag} {mg : Str → Option Value} {base : Heap} {CC : Addr}
theorem scLine : FnScope nLine ["_law_cup_here", "_law_signs_here", "_law_most"] (defScope sLine) := ⟨rfl, rfl, rfl, by decide +kernel, rfl, by decide +kernel, by decide +kernel⟩
theorem ok_line {f fB fP : Addr} {fd dB dP : FuncData} (F : Fun K "_law_line" "_law_line" sLine f fd) (T : Txt K mg) (DB : Df K mg "_law_bit" sBit ["_law_cup_here", "_law_much"] fB dB) (DP : Df K mg "_law_pick" sPick ["_law_cup_here", "_law_items"] fP dP) :
    FnOk P w K mg base CX0 3 f fd ["_law_cup_here", "_law_signs_here", "_law_most"] spLine := by
  have GB := ok_bit (P := P) (w := w) (base := base) DB.F T
  have GP := ok_pick (P := P) (w := w) (base := base) DP.F T DB
  refine F.ok scLine (fun vs H Q E h => ?_) (fun cdv A outer s H vs Q E hr h => ?_)
  · obtain ⟨c, sg, m, rfl, _⟩ := h
    rfl
  · obtain ⟨c, sg, m, rfl, hc, hsg, hm, q⟩ := h
    have r1 : Room 1 _ := hr.mono (by decide)
    refine ⟨_, pss_one (ps_ret (pe_join pe_str (pe_lc (own := [("_law_turn", 3)]) (g := gName 3) (tt := tYes) rfl scLine.nd
      (pi_range1 rfl T.range (pa_cons (pe_call GB r1 (by rfl) DB.m DB.F.kp DB.b .nil pass0 (pa_cons (pv 0) (pa_cons (pe_op op_add (pv 2) pe_int) pa_nil))) pa_nil))
      (blkOk_by (own := [("_law_turn", 3)]) (N := nLine) (sc := defScope sLine) (by decide +kernel))
      (fun _ _ _ _ _ => pg_name (i := 3) scLine.nd rfl (Or.inl rfl)) (fun _ _ _ _ _ => pts_nil)
      (fun _ _ _ _ _ => pe_call GP hr (by rfl) DP.m DP.F.kp DP.b .nil pass0 (pa_cons (pv 0) (pa_cons (pv 1) pa_nil)))))), ?_⟩
    obtain ⟨l0, l1⟩ := sg_len hsg
    refine ⟨⟨_, rfl⟩, _, rfl, _, rfl, _, _, rfl, rfl, c, (m : Int) + 1, rfl, hc, by omega, small9000 (by omega) (by omega), fun r H1 r0 rm hc1 b1 => ?_⟩
    obtain ⟨k, rfl⟩ : ∃ k : Nat, r = (k : Int) := ⟨r.toNat, by omega⟩
    refine ⟨_, rfl, by omega, by omega, fun D hD => ?_⟩
    have nDc : D ≠ c := hc1.ne hD
    rw [Int.toNat_natCast]
    refine lc_range (lo := 0) (n := k) (fun i H2 => Cup H2 c ∧ But c H1 H2 ∧ ∃ cs : List Nat, H2 D = some (.lst ((cs.map one).map V.str)) ∧ cs.length = i ∧ ∀ d ∈ cs, d ∈ cds sg)
      ⟨hc1.same (same_upd hD), But.of (same_upd hD), [], upd_same, rfl, fun d hd => by cases hd⟩ ?_ ?_
    · rintro i H2 hi ⟨hc2, b2, cs, e2, hl, hv⟩
      refine ⟨rfl, iteT (B := False) ?_⟩
      refine ⟨_, rfl, _, rfl, c, hc2, .inr ⟨sg, rfl, l0, by omega, fun d H3 hd hc3 b3 => ?_⟩⟩
      have e3 := b3 _ _ nDc e2
      refine ⟨_, e3, ?_, ?_, ?_, cs ++ [d], ?_, by rw [List.length_append, hl]; rfl, ?_⟩
      · rw [List.length_map, List.length_map, hl]
        exact Nat.lt_of_lt_of_le (show i < 30 by omega) (by decide)
      · obtain ⟨c0, c1, c2, ec⟩ := hc3
        exact ⟨c0, c1, c2, by rw [upd_ne nDc.symm]; exact ec⟩
      · intro b o n' e
        rw [upd_ne (ne_of_none e hD)]
        exact b3 _ _ n' (b2 _ _ n' e)
      · rw [upd_same, List.map_append, List.map_append]
        rfl
      · intro x hx
        rcases List.mem_append.mp hx with hx | hx
        · exact hv x hx
        · rw [List.mem_singleton.mp hx]
          exact hd
    · rintro H2 ⟨hc2, b2, cs, e2, hl, hv⟩
      refine ⟨"", D, _, rfl, rfl, .inl (SqL.of e2), ?_, ?_⟩
      · rw [sum_ones]
        show _ + _ * 0 ≤ _
        exact Nat.le_trans (show _ ≤ 30 by omega) (by decide)
      · refine q _ H2 (fun d hd => ?_) ?_ hc2 (b1.trans b2)
        · rw [join_ones] at hd
          exact hv d hd
        · rw [← cds_len, join_ones]
          omega

/-! ### reading a line in the dict of a reader -/
abbrev nRead2 : List Str := ["_law_plain", "_law_at", "_law_line_here", "_law_sign"]
theorem scRead2 : FnScope nRead2 ["_law_plain", "_law_at", "_law_line_here"] (defScope sRead) := ⟨rfl, rfl, rfl, by decide +kernel, rfl, by decide +kernel, by decide +kernel⟩
def spRd : Sp := fun vs H Q _ => ∃ (p d : Addr) (r : Rdr) (q : Nat) (z : Str), vs = [.ref p, .int (q : Int), .str z] ∧ DGet H p (.str "ways") (some (.ref d)) ∧ MovAt H d r.W ∧ okR r ∧ q < r.n ∧ Over r.sg z ∧ (run r.W q (cds z) < r.n → Q (.int (run r.W q (cds z) : Int)) H)
theorem ok_rd {f : Addr} {fd : FuncData} (F : Fun K "_law_read" "_law_read" sRead f fd) : FnOk P w K mg base CX0 1 f fd ["_law_plain", "_law_at", "_law_line_here"] spRd := by
  refine F.ok scRead2 (fun vs H Q E h => ?_) (fun cdv A outer s H vs Q E hr h => ?_)
  · obtain ⟨p, d, r, q, z, rfl, _⟩ := h
    rfl
  · obtain ⟨p, d, r, q, z, rfl, g2, ⟨kvs, ed, hw⟩, ok, hq, hz, qq⟩ := h
    have hu := hu_of hr
    refine ⟨_, (pss_cons (ps_for PassesOwn.never rfl (pi_str (pv 2)) (pg_name (i := 3) scRead2.nd rfl (Or.inl rfl))
      (pss_one (ps_set (i := 1) scRead2.nd rfl (Or.inl rfl) (pe_ix ix_tup (pe_dget hu (pe_dget hu (pv 0) pe_str (fun _ _ => rfl)) (pv 3) (fun _ _ => rfl)) (pv 1) (fun _ _ => rfl)))))
    (pss_one (ps_ret (pv 1)))), ?_⟩
    refine ⟨_, rfl, z, rfl, ?_⟩
    refine Lc.for_text (fun i σ H1 => ∃ t4 : Option V, σ = [some (.ref p), some (.int (run r.W q ((cds z).take i) : Int)), some (.str z), t4] ∧ H1 = H ∧ run r.W q ((cds z).take i) < r.n) ⟨none, rfl, rfl, hq⟩ ?_ ?_
    · rintro i c σ H1 hc ⟨t4, rfl, rfl, hlt⟩
      obtain ⟨p1, l1, e1, r1, a1, b1⟩ := step_at ok.W ok.sg hw (hz c (List.mem_of_getElem? hc)) hlt
      have G1 : DGet H1 d (.str (one c)) (some (.ref p1)) := by
        have := DGet.k (k := (Sum.inr (one c) : Key)) ed
        rw [e1] at this
        exact this
      have e : run r.W q ((cds z).take (i + 1)) = step r.W (run r.W q ((cds z).take i)) c := by
        rw [List.take_add_one, hc]
        exact run_snoc ..
      refine ⟨_, rfl, p, _, rfl, g2, _, rfl, d, _, rfl, G1, _, rfl, p1, _, _, _, rfl, rfl, SqT.of r1, atI_nat a1, some (.str (one c)), ?_, rfl, by rw [e]; exact b1⟩
      rw [e]
      rfl
    · rintro σ H1 ⟨t4, rfl, rfl, hlt⟩
      rw [List.take_of_length_le (Nat.le_refl _)] at hlt ⊢
      exact ⟨_, rfl, qq hlt⟩
end
end K24

set_option Elab.async false
set_option linter.all false
set_option maxRecDepth 100000
set_option maxHeartbeats 12800000
namespace K24
open PySem L2 Tx Tg Tm Da RZ Ek It2
/-! ### first merges -/
abbrev nFM : List Str := ["reader", "least", "texts", "letter", "row", "one", "other"]
theorem scFM : FnScope nFM ["reader"] (defScope sFM) := ⟨rfl, rfl, rfl, by decide +kernel, rfl, by decide +kernel, by decide +kernel⟩
abbrev nMT : List Str := ["_law_plain", "_law_lean_here", "_law_many", "_law_sign", "_law_row", "_law_one", "_law_other"]
theorem scMT : FnScope nMT ["_law_plain"] (defScope sMT) := ⟨rfl, rfl, rfl, by decide +kernel, rfl, by decide +kernel, by decide +kernel⟩
abbrev nIsT : List Str := ["reader"]
theorem scIsT : FnScope nIsT ["reader"] (defScope sIsT) := ⟨rfl, rfl, rfl, by decide +kernel, rfl, by decide +kernel, by decide +kernel⟩
section
variable {P : Program} {w : World} {K : PySem.W.Frag} {mg : Str → Option Value} {base : Heap} {CC : Addr}
def spFM (K : PySem.W.Frag) (CC : Addr) : Sp := fun vs H Q _ => ∃ (p : Addr) (r : Rdr), vs = [.ref p] ∧ RdAt CC H p r ∧ ∀ v H' R ts, Same H H' → LeanR r R ts → MgAt K H' v ts (fMerge R) → Q v H'
theorem ok_fm {f fV fT : Addr} {fd dV dT : FuncData} (F : Fun K "first_merge" "first_merge" sFM f fd) (T : Txt K mg) (C : Cl P w K mg base CC) (DV : Df K mg "least_reader" sLean ["reader"] fV dV) (DFT : Df K mg "first_texts" sFT ["moves", "start"] fT dT)
    (GV : FnOk P w K mg base CX0 7 fV dV ["reader"] (spLean CC)) (GMoN : FnOk P w K mg base CX0 1 C.fMo C.dMo ["self"] (spMovN CC)) : FnOk P w K mg base CX0 8 f fd ["reader"] (spFM K CC) := by
  have GFT := ok_ft (P := P) (w := w) (base := base) DFT.F T
  refine F.ok scFM (fun vs H Q E h => ?_) (fun cdv A outer s0 H vs Q E hr h => ?_)
  · obtain ⟨p, r, rfl, _⟩ := h
    rfl
  · obtain ⟨p, r, rfl, hp, q⟩ := h
    have hu := hu_of hr
    refine ⟨_, (pss_cons (ps_set (i := 1) scFM.nd rfl (Or.inl rfl) (pe_call GV (hr.mono (by decide)) (by rfl) DV.m DV.F.kp DV.b .nil pass0 (pa_cons (pv 0) pa_nil)))
    (pss_cons (ps_set (i := 2) scFM.nd rfl (Or.inl rfl) (LiV.pe_listVals rfl (pe_call GFT (hr.mono (by decide)) (by rfl) DFT.m DFT.F.kp DFT.b .nil pass0 (pa_cons (pe_prop (pv 1) C.MK.W.cl C.pMo GMoN (hr.mono (by decide)) C.bMo .nil pass0 rfl) (pa_cons pe_int pa_nil))) (by rfl) T.list (by decide +kernel)))
    (pss_cons (ps_for PassesOwn.never rfl (pi_items (Lc.pe_lockV (pe_prop (pv 1) C.MK.W.cl C.pMo GMoN (hr.mono (by decide)) C.bMo .nil pass0 rfl))) (pg_tup rfl (pgs_cons (pg_name (i := 3) scFM.nd rfl (Or.inl rfl)) (pgs_cons (pg_name (i := 4) scFM.nd rfl (Or.inl rfl)) pgs_nil)))
      (pss_one (ps_for PassesOwn.never rfl (pi_range1 rfl T.range (pa_cons (pe_callB (Ow.len_own C.gLn (hr.mono (by decide)) C.sLn C.fnLn C.bLn pass0) (by rfl) T.len PySem.boot_len (pa_cons (pv 1) pa_nil)) pa_nil)) (pg_name (i := 5) scFM.nd rfl (Or.inl rfl))
        (pss_one (ps_for PassesOwn.never rfl (pi_range2 rfl T.range (pa_cons (pe_op op_add (pv 5) pe_int) (pa_cons (pe_callB (Ow.len_own C.gLn (hr.mono (by decide)) C.sLn C.fnLn C.bLn pass0) (by rfl) T.len PySem.boot_len (pa_cons (pv 1) pa_nil)) pa_nil))) (pg_name (i := 6) scFM.nd rfl (Or.inl rfl))
          (pss_one (ps_if (pt_cmpR op_eq (pe_ix ix_tup (pv 4) (pv 5) (fun _ _ => rfl)) (pe_ix ix_tup (pv 4) (pv 6) (fun _ _ => rfl)) (nomark _)) (pss_one (ps_ret (pe_tup (pa_cons (pv 3) (pa_cons (pe_ix ix_list (pv 2) (pv 5) (fun _ _ => rfl)) (pa_cons (pe_ix ix_list (pv 2) (pv 6) (fun _ _ => rfl)) pa_nil)))))) pss_nil)))))))
    (pss_one (ps_ret pe_non))))), ?_⟩
    refine ⟨_, rfl, p, r, rfl, hp, fun x H1 m l s1 ner full hx => ?_⟩
    have ok := hp.ok
    have lean : LeanR r (leanOf r m l) ((Au.dd m l).map (·.2)) := ⟨m, l, ner, full, rfl, rfl⟩
    have walk := fun l2 => walk_lean (l2 := l2) ok hx.ok ner full
    have esg : (leanOf r m l).sg = r.sg := rfl
    rw [← esg] at walk
    generalize leanOf r m l = R at hx lean walk esg
    generalize (Au.dd m l).map (·.2) = ts at lean walk
    have okR := hx.ok
    have n60 := okR.W.most
    have n1 := okR.W.one
    have lts := lean.len
    dsimp only [tSeq, gName]
    obtain ⟨dx, d, g, ex, _⟩ := id hx
    refine ⟨_, rfl, x, dx, _, rfl, ex, x, R, rfl, hx, fun d1 H2 kvs nd1 s2 ed1 hw1 => ⟨d1, 0, R.n, R.sg, R.W, rfl, ⟨kvs, ed1, hw1⟩, okR.sg, okR.W, okR.ord, n1, fun D H3 l2 nD s3 full2 eD => ⟨D, _, rfl, eD, fun Tx nTx => ?_⟩⟩⟩
    have e2 := walk l2 full2
    have ev : ((ftD l2).map fun kv => kv.2) = ts.map fun t => V.str (tx t) := by
      rw [← e2]
      unfold ftD
      rw [List.map_map, List.map_map]
      rfl
    rw [ev]
    have s4 := same_upd (o := .lst (ts.map fun t => V.str (tx t))) nTx
    have eTx : (upd H3 Tx (.lst (ts.map fun t => V.str (tx t)))) Tx = some (.lst (ts.map fun t => V.str (tx t))) := upd_same
    dsimp only [tSeq, gName]
    have s14 := (s2.trans s3).trans s4
    generalize upd H3 Tx (.lst (ts.map fun t => V.str (tx t))) = H4 at s14 eTx ⊢
    have hx4 := hx.same s14
    obtain ⟨dx4, _, _, ex4, _⟩ := id hx4
    refine ⟨_, rfl, x, dx4, _, rfl, ex4, x, R, rfl, hx4, fun d2 H5 kvs2 nd2 s5 ed2 hw2 => ⟨d2, _, rfl, ed2, trivial, fun od => ⟨d2, od, kvs2, rfl, upd_same, ?_⟩⟩⟩
    have s45 : Same H4 (upd H5 d2 (.frz od (.dK kvs2))) := same_put s5 nd2
    have e6 : (upd H5 d2 (.frz od (.dK kvs2))) d2 = some (.frz od (.dK kvs2)) := upd_same
    have hw6 : WsAt (upd H5 d2 (.frz od (.dK kvs2))) kvs2 R.W := hw2.keep fun b xs e => by rw [upd_ne (fun z => by rw [z, ed2] at e; cases e)]; exact e
    generalize upd H5 d2 (.frz od (.dK kvs2)) = H6 at s45 e6 hw6 ⊢
    have kW : kvs2.length = R.W.length := ways_len hw2
    have hx6 := hx4.same s45
    have eTx6 := s45 _ _ eTx
    have s06 : Same H H6 := (s1.trans s14).trans s45
    refine Lc.for_items (fun i σ H' => ∃ o3 o4 o5 o6 : Option V, σ = [some (.ref p), some (.ref x), some (.ref Tx), o3, o4, o5, o6] ∧ Same H6 H' ∧ ∀ w ∈ R.W.take i, (fOne w.2 R.n).map (fun q => (w.1, q.1, q.2)) = none) ⟨none, none, none, none, rfl, Same.refl _, fun w hw => by rw [List.take_zero] at hw; cases hw⟩ (fun i σ H' z => by obtain ⟨_, _, _, _, _, s, _⟩ := z; exact s _ _ e6) ?_ ?_
    · rintro i key v T σ H7 hkv ⟨o3, o4, o5, o6, rfl, s7, none_⟩ nT
      have ilt : i < R.W.length := by rw [← kW]; exact (List.getElem?_eq_some_iff.mp hkv).1
      obtain ⟨w, hw⟩ : ∃ w, R.W[i]? = some w := ⟨_, List.getElem?_eq_getElem ilt⟩
      obtain ⟨p0, ekv, row0⟩ : WayAt H6 (key, v) w := Lc.each_atP hw6 hkv hw
      obtain ⟨rfl, rfl⟩ := Prod.mk.inj ekv
      obtain ⟨ll, lb⟩ := okR.W.rows _ (List.mem_of_getElem? hw)
      have sT := same_upd (o := .tup [kV (Sum.inr (one w.1) : Key), V.ref p0]) nT
      refine ⟨T, _, rfl, SqT.of upd_same, rfl, _, _, rfl, _, _, rfl, rfl, ?_⟩
      have s8 := s7.trans sT
      generalize upd H7 T (.tup [kV (Sum.inr (one w.1) : Key), V.ref p0]) = H8 at s8 ⊢
      have hx8 := hx6.same s8
      have row8 : RowAt H8 p0 w.2 := s8 _ _ row0
      have eTx8 := s8 _ _ eTx6
      obtain ⟨dx8, _, _, ex8, _⟩ := id hx8
      dsimp only [gName]
      refine ⟨_, rfl, x, dx8, _, rfl, ex8, x, R, rfl, hx8, _, rfl, by omega, by omega, _, rfl, by omega, by omega, ?_⟩
      rw [Int.toNat_natCast]
      refine for_range (lo := 0) (n := R.n) (fun a σ H' => ∃ o5 o6 : Option V, σ = [some (.ref p), some (.ref x), some (.ref Tx), some (.str (one w.1)), some (.ref p0), o5, o6] ∧ H' = H8 ∧ ∀ y ∈ (List.range R.n).take a, (fOther w.2 R.n y).map (fun b => (y, b)) = none) ⟨_, _, rfl, rfl, fun y hy => by rw [List.take_zero] at hy; cases hy⟩ ?_ ?_
      · rintro a σ H' ha ⟨o5, o6, rfl, rfl, none2⟩
        rw [Int.zero_add]
        dsimp only [gName]
        refine ⟨_, rfl, _, _, rfl, rfl, _, rfl, x, dx8, _, rfl, ex8, x, R, rfl, hx8, _, rfl, by omega, by omega, _, _, rfl, ⟨by omega, by omega, by omega, by omega⟩, ?_⟩
        have ra : (List.range R.n)[a]? = some a := List.getElem?_range ha
        have tn : ((R.n : Int) - ((a : Int) + 1)).toNat = R.n - (a + 1) := by omega
        rw [tn]
        refine for_range (lo := (a : Int) + 1) (n := R.n - (a + 1)) (fun b σ H'' => ∃ o6 : Option V, σ = [some (.ref p), some (.ref x), some (.ref Tx), some (.str (one w.1)), some (.ref p0), some (.int (a : Int)), o6] ∧ H'' = H' ∧ ∀ y ∈ (List.range' (a + 1) (R.n - (a + 1))).take b, (if w.2.getD a 0 = w.2.getD y 0 then some y else none) = none) ⟨_, rfl, rfl, fun y hy => by rw [List.take_zero] at hy; cases hy⟩ ?_ ?_
        · rintro b σ H'' hb ⟨o6, rfl, rfl, none3⟩
          have eb : ((a : Int) + 1 + (b : Int)) = ((a + 1 + b : Nat) : Int) := by omega
          rw [eb]
          have rb : (List.range' (a + 1) (R.n - (a + 1)))[b]? = some (a + 1 + b) := by
            rw [List.getElem?_range' hb]
            simp
          have alt : a < w.2.length := by omega
          have blt : a + 1 + b < w.2.length := by omega
          have ga : w.2.getD a 0 = w.2[a] := by rw [List.getD_eq_getElem?_getD, List.getElem?_eq_getElem alt]; rfl
          have gb : w.2.getD (a + 1 + b) 0 = w.2[a + 1 + b] := by rw [List.getD_eq_getElem?_getD, List.getElem?_eq_getElem blt]; rfl
          dsimp only [gName]
          refine ⟨_, rfl, _, rfl, p0, _, _, _, rfl, rfl, SqT.of row8, atI_nat (natsV_at alt), _, rfl, _, rfl, p0, _, _, _, rfl, rfl, SqT.of row8, atI_nat (natsV_at blt), rfl, _, rfl, ?_⟩
          rw [eqI, ← ga, ← gb]
          have ta : (ts.map fun t => V.str (tx t))[a]? = some (.str (tx (ts.getD a []))) := by
            rw [List.getElem?_map, List.getElem?_eq_getElem (by omega), List.getD_eq_getElem?_getD, List.getElem?_eq_getElem (by omega)]
            rfl
          have tb : (ts.map fun t => V.str (tx t))[a + 1 + b]? = some (.str (tx (ts.getD (a + 1 + b) []))) := by
            rw [List.getElem?_map, List.getElem?_eq_getElem (by omega), List.getD_eq_getElem?_getD, List.getElem?_eq_getElem (by omega)]
            rfl
          by_cases same : w.2.getD a 0 = w.2.getD (a + 1 + b) 0
          · refine iteT' (decide_eq_true same) ?_
            refine ⟨_, rfl, _, rfl, _, rfl, Tx, _, _, _, rfl, rfl, SqL.of eTx8, atI_nat ta, _, rfl, _, rfl, Tx, _, _, _, rfl, rfl, SqL.of eTx8, atI_nat tb, by show 3 ≤ sizeLine; decide, fun Z nZ => ?_⟩
            have h3 : fOther w.2 R.n a = some (a + 1 + b) := hit none3 rb (if_pos same)
            have h2 : fOne w.2 R.n = some (a, a + 1 + b) := hit none2 ra (by rw [h3]; rfl)
            have h1 : fMerge R = some (w.1, a, a + 1 + b) := hit none_ hw (by rw [h2]; rfl)
            exact q _ _ R ts ((s06.trans s8).trans (same_upd nZ)) lean (by rw [h1]; exact ⟨Z, rfl, upd_same⟩)
          · refine iteF' (by rw [decide_eq_false same]; exact Bool.false_ne_true) ?_
            exact ⟨_, rfl, rfl, take_none none3 rb (if_neg same)⟩
        · rintro σ H'' ⟨o6, rfl, rfl, none3⟩
          refine ⟨_, _, rfl, rfl, take_none none2 ra ?_⟩
          rw [show fOther w.2 R.n a = none from miss (by
            rw [List.take_of_length_le (by rw [List.length_range']; exact Nat.le_refl _)] at none3
            exact none3)]
          rfl
      · rintro σ H' ⟨o5, o6, rfl, rfl, none2⟩
        refine ⟨_, _, _, _, rfl, s8, take_none none_ hw ?_⟩
        rw [show fOne w.2 R.n = none from miss (by
          rw [List.take_of_length_le (by rw [List.length_range]; exact Nat.le_refl _)] at none2
          exact none2)]
        rfl
    · rintro σ H7 ⟨o3, o4, o5, o6, rfl, s7, none_⟩
      rw [kW, List.take_of_length_le (Nat.le_refl _)] at none_
      exact q _ _ R ts (s06.trans s7) lean (by rw [show fMerge R = none from miss none_]; rfl)
def spIsT (CC : Addr) : Sp := fun vs H Q _ => ∃ (p : Addr) (r : Rdr), vs = [.ref p] ∧ RdAt CC H p r ∧ ∀ H' R ts, Same H H' → LeanR r R ts → Q (.bl (decide (fMerge R = none))) H'
theorem mg_non {H : Hp} {v : V} {ts : List (List Nat)} : ∀ {o : Option (Nat × Nat × Nat)}, MgAt K H v ts o → decide (v = .non) = decide (o = none)
  | none, h => by
    have h : v = .non := h
    rw [h, decide_eq_true rfl, decide_eq_true rfl]
  | some (_, _, _), ⟨p, e, _⟩ => by
    rw [e, decide_eq_false (fun z => nomatch z), decide_eq_false (fun z => nomatch z)]
theorem ok_ist {f fM : Addr} {fd dM : FuncData} (F : Fun K "is_turning" "is_turning" sIsT f fd) (DM : Df K mg "first_merge" sFM ["reader"] fM dM) (GM : FnOk P w K mg base CX0 8 fM dM ["reader"] (spFM K CC)) : FnOk P w K mg base CX0 9 f fd ["reader"] (spIsT CC) := by
  refine F.ok scIsT (fun vs H Q E h => ?_) (fun cdv A outer s0 H vs Q E hr h => ?_)
  · obtain ⟨p, r, rfl, _⟩ := h
    rfl
  · obtain ⟨p, r, rfl, hp, q⟩ := h
    refine ⟨_, (pss_one (ps_ret (pe_cmpR op_isN (pe_call GM (hr.mono (by decide)) (by rfl) DM.m DM.F.kp DM.b .nil pass0 (pa_cons (pv 0) pa_nil)) pe_non (nomark _)))), ?_⟩
    refine ⟨_, rfl, p, r, rfl, hp, fun v H1 R ts s1 lean hv => ?_⟩
    refine ⟨rfl, ?_⟩
    rw [mg_non hv]
    exact q H1 R ts s1 lean
/-! ### the law's own first merge -/
def spMT (K : PySem.W.Frag) : Sp := fun vs H Q _ => ∃ (p : Addr) (r : Rdr), vs = [.ref p] ∧ PlainAt H p r ∧ ∀ v H' R ts, Same H H' → LeanR r R ts → MgAt K H' v ts (fMerge R) → Q v H'
theorem ok_mt {f fL : Addr} {fd dL : FuncData} (F : Fun K "_law_merge_there" "_law_merge_there" sMT f fd) (T : Txt K mg) (DL : Df K mg "_law_lean" sLL ["_law_plain"] fL dL) (GL : FnOk P w K mg base CX0 2 fL dL ["_law_plain"] spLL)
    (okL : ∀ (r : Rdr) (m : Nat → Nat) (l : List (Nat × List Nat)), okR r → Au.Ner (cds r.sg) (aut r) m → Au.Full (cds r.sg) (aut r).to 0 l → okR (leanOf r m l)) : FnOk P w K mg base CX0 3 f fd ["_law_plain"] (spMT K) := by
  refine F.ok scMT (fun vs H Q E h => ?_) (fun cdv A outer s0 H vs Q E hr h => ?_)
  · obtain ⟨p, r, rfl, _⟩ := h
    rfl
  · obtain ⟨p, r, rfl, hp, q⟩ := h
    have hu := hu_of hr
    refine ⟨_, (pss_cons (ps_set (i := 1) scMT.nd rfl (Or.inl rfl) (pe_call GL (hr.mono (by decide)) (by rfl) DL.m DL.F.kp DL.b .nil pass0 (pa_cons (pv 0) pa_nil)))
    (pss_cons (ps_set (i := 2) scMT.nd rfl (Or.inl rfl) (pe_callB call_len_seq (by rfl) T.len PySem.boot_len (pa_cons (pe_dget hu (pv 1) pe_str (fun _ _ => rfl)) pa_nil)))
    (pss_cons (ps_for PassesOwn.never rfl (pi_str (pe_dget hu (pv 0) pe_str (fun _ _ => rfl))) (pg_name (i := 3) scMT.nd rfl (Or.inl rfl))
      (pss_cons (ps_set (i := 4) scMT.nd rfl (Or.inl rfl) (pe_dget hu (pe_dget hu (pv 1) pe_str (fun _ _ => rfl)) (pv 3) (fun _ _ => rfl)))
      (pss_one (ps_for PassesOwn.never rfl (pi_range1 rfl T.range (pa_cons (pv 2) pa_nil)) (pg_name (i := 5) scMT.nd rfl (Or.inl rfl))
        (pss_one (ps_for PassesOwn.never rfl (pi_range2 rfl T.range (pa_cons (pe_op op_add (pv 5) pe_int) (pa_cons (pv 2) pa_nil))) (pg_name (i := 6) scMT.nd rfl (Or.inl rfl))
          (pss_one (ps_if (pt_cmpR op_eq (pe_ix ix_tup (pv 4) (pv 5) (fun _ _ => rfl)) (pe_ix ix_tup (pv 4) (pv 6) (fun _ _ => rfl)) (nomark _)) (pss_one (ps_ret (pe_tup (pa_cons (pv 3) (pa_cons (pe_ix ix_list (pe_dget hu (pv 1) pe_str (fun _ _ => rfl)) (pv 5) (fun _ _ => rfl)) (pa_cons (pe_ix ix_list (pe_dget hu (pv 1) pe_str (fun _ _ => rfl)) (pv 6) (fun _ _ => rfl)) pa_nil)))))) pss_nil))))))))
    (pss_one (ps_ret pe_non))))), ?_⟩
    refine ⟨_, rfl, p, r, rfl, hp, fun L d g ln H1 m l s1 ner full eL hM hG eln => ?_⟩
    have ok := hp.ok
    have lean : LeanR r (leanOf r m l) ((Au.dd m l).map (·.2)) := ⟨m, l, ner, full, rfl, rfl⟩
    have okR := okL r m l ok ner full
    have esg : (leanOf r m l).sg = r.sg := rfl
    have elv : ((Au.dd m l).map fun x => V.str (tx x.2)) = ((Au.dd m l).map (·.2)).map fun t => V.str (tx t) := by
      rw [List.map_map]
      rfl
    rw [elv] at eln
    generalize leanOf r m l = R at hM hG lean esg okR
    generalize (Au.dd m l).map (·.2) = ts at lean eln
    have n60 := okR.W.most
    have n1 := okR.W.one
    have lts := lean.len
    dsimp only [tSeq, gName]
    refine ⟨_, rfl, L, _, rfl, DGet.k (k := (Sum.inr "lines" : Key)) eL, ln, _, rfl, .inl (SqL.of eln), ?_⟩
    rw [List.length_map, lts]
    have hp1 := hp.same s1
    obtain ⟨dp, gp, g1, _, _, _, _⟩ := hp1.get
    refine ⟨_, rfl, p, _, rfl, g1, r.sg, rfl, ?_⟩
    have eW : ∀ (i c : Nat), (cds r.sg)[i]? = some c → ∃ w : Way, R.W[i]? = some w ∧ w.1 = c := fun i c hc => by
      have : (R.W.map (·.1))[i]? = some c := by rw [okR.ord, esg]; exact hc
      rw [List.getElem?_map] at this
      cases z : R.W[i]? with
      | none => rw [z] at this; cases this
      | some w => rw [z] at this; exact ⟨w, rfl, Option.some.inj this⟩
    refine Lc.for_text (fun i σ H' => ∃ o3 o4 o5 o6 : Option V, σ = [some (.ref p), some (.ref L), some (.int (R.n : Int)), o3, o4, o5, o6] ∧ H' = H1 ∧ ∀ w ∈ R.W.take i, (fOne w.2 R.n).map (fun q => (w.1, q.1, q.2)) = none) ⟨none, none, none, none, rfl, rfl, fun w hw => by rw [List.take_zero] at hw; cases hw⟩ ?_ ?_
    · rintro i c σ H' hc ⟨o3, o4, o5, o6, rfl, rfl, none_⟩
      obtain ⟨w, hw, rfl⟩ := eW i c hc
      have wm := List.mem_of_getElem? hw
      obtain ⟨ll, lb⟩ := okR.W.rows _ wm
      obtain ⟨kvs, ed, hws⟩ := id hM
      obtain ⟨p0, g0, row0⟩ := ways_get hws (okR.W.nodup okR.sg) wm
      have G0 : DGet H' d (.str (one w.1)) (some (.ref p0)) := by
        have := DGet.k (k := (Sum.inr (one w.1) : Key)) ed
        rw [g0] at this
        exact this
      dsimp only [gName]
      refine ⟨_, rfl, L, _, rfl, DGet.k (k := (Sum.inr "ways" : Key)) eL, _, rfl, d, _, rfl, G0, ?_⟩
      dsimp only [gName]
      refine ⟨_, rfl, _, rfl, by omega, by omega, ?_⟩
      rw [Int.toNat_natCast]
      refine for_range (lo := 0) (n := R.n) (fun a σ H'' => ∃ o5 o6 : Option V, σ = [some (.ref p), some (.ref L), some (.int (R.n : Int)), some (.str (one w.1)), some (.ref p0), o5, o6] ∧ H'' = H' ∧ ∀ y ∈ (List.range R.n).take a, (fOther w.2 R.n y).map (fun b => (y, b)) = none) ⟨_, _, rfl, rfl, fun y hy => by rw [List.take_zero] at hy; cases hy⟩ ?_ ?_
      · rintro a σ H'' ha ⟨o5, o6, rfl, rfl, none2⟩
        rw [Int.zero_add]
        dsimp only [gName]
        refine ⟨_, rfl, _, _, rfl, rfl, _, rfl, _, _, rfl, ⟨by omega, by omega, by omega, by omega⟩, ?_⟩
        have ra : (List.range R.n)[a]? = some a := List.getElem?_range ha
        have tn : ((R.n : Int) - ((a : Int) + 1)).toNat = R.n - (a + 1) := by omega
        rw [tn]
        refine for_range (lo := (a : Int) + 1) (n := R.n - (a + 1)) (fun b σ H3 => ∃ o6 : Option V, σ = [some (.ref p), some (.ref L), some (.int (R.n : Int)), some (.str (one w.1)), some (.ref p0), some (.int (a : Int)), o6] ∧ H3 = H'' ∧ ∀ y ∈ (List.range' (a + 1) (R.n - (a + 1))).take b, (if w.2.getD a 0 = w.2.getD y 0 then some y else none) = none) ⟨_, rfl, rfl, fun y hy => by rw [List.take_zero] at hy; cases hy⟩ ?_ ?_
        · rintro b σ H3 hb ⟨o6, rfl, rfl, none3⟩
          have eb : ((a : Int) + 1 + (b : Int)) = ((a + 1 + b : Nat) : Int) := by omega
          rw [eb]
          have rb : (List.range' (a + 1) (R.n - (a + 1)))[b]? = some (a + 1 + b) := by
            rw [List.getElem?_range' hb]
            simp
          have alt : a < w.2.length := by omega
          have blt : a + 1 + b < w.2.length := by omega
          have ga : w.2.getD a 0 = w.2[a] := by rw [List.getD_eq_getElem?_getD, List.getElem?_eq_getElem alt]; rfl
          have gb : w.2.getD (a + 1 + b) 0 = w.2[a + 1 + b] := by rw [List.getD_eq_getElem?_getD, List.getElem?_eq_getElem blt]; rfl
          dsimp only [gName]
          refine ⟨_, rfl, _, rfl, p0, _, _, _, rfl, rfl, SqT.of row0, atI_nat (natsV_at alt), _, rfl, _, rfl, p0, _, _, _, rfl, rfl, SqT.of row0, atI_nat (natsV_at blt), rfl, _, rfl, ?_⟩
          rw [eqI, ← ga, ← gb]
          have ta : (ts.map fun t => V.str (tx t))[a]? = some (.str (tx (ts.getD a []))) := by
            rw [List.getElem?_map, List.getElem?_eq_getElem (by omega), List.getD_eq_getElem?_getD, List.getElem?_eq_getElem (by omega)]
            rfl
          have tb : (ts.map fun t => V.str (tx t))[a + 1 + b]? = some (.str (tx (ts.getD (a + 1 + b) []))) := by
            rw [List.getElem?_map, List.getElem?_eq_getElem (by omega), List.getD_eq_getElem?_getD, List.getElem?_eq_getElem (by omega)]
            rfl
          by_cases same : w.2.getD a 0 = w.2.getD (a + 1 + b) 0
          · refine iteT' (decide_eq_true same) ?_
            refine ⟨_, rfl, _, rfl, L, _, rfl, DGet.k (k := (Sum.inr "lines" : Key)) eL, _, rfl, ln, _, _, _, rfl, rfl, SqL.of eln, atI_nat ta, _, rfl, L, _, rfl, DGet.k (k := (Sum.inr "lines" : Key)) eL, _, rfl, ln, _, _, _, rfl, rfl, SqL.of eln, atI_nat tb, by show 3 ≤ sizeLine; decide, fun Z nZ => ?_⟩
            have h3 : fOther w.2 R.n a = some (a + 1 + b) := hit none3 rb (if_pos same)
            have h2 : fOne w.2 R.n = some (a, a + 1 + b) := hit none2 ra (by rw [h3]; rfl)
            have h1 : fMerge R = some (w.1, a, a + 1 + b) := hit none_ hw (by rw [h2]; rfl)
            exact q _ _ R ts (s1.trans (same_upd nZ)) lean (by rw [h1]; exact ⟨Z, rfl, upd_same⟩)
          · refine iteF' (by rw [decide_eq_false same]; exact Bool.false_ne_true) ?_
            exact ⟨_, rfl, rfl, take_none none3 rb (if_neg same)⟩
        · rintro σ H3 ⟨o6, rfl, rfl, none3⟩
          refine ⟨_, _, rfl, rfl, take_none none2 ra ?_⟩
          rw [show fOther w.2 R.n a = none from miss (by
            rw [List.take_of_length_le (by rw [List.length_range']; exact Nat.le_refl _)] at none3
            exact none3)]
          rfl
      · rintro σ H'' ⟨o5, o6, rfl, rfl, none2⟩
        refine ⟨_, _, _, _, rfl, rfl, take_none none_ hw ?_⟩
        rw [show fOne w.2 R.n = none from miss (by
          rw [List.take_of_length_le (by rw [List.length_range]; exact Nat.le_refl _)] at none2
          exact none2)]
        rfl
    · rintro σ H' ⟨o3, o4, o5, o6, rfl, rfl, none_⟩
      have eWl : R.W.length = (cds r.sg).length := by rw [← esg, ← okR.ord, List.length_map]
      rw [← eWl, List.take_of_length_le (Nat.le_refl _)] at none_
      exact q _ _ R ts s1 lean (by rw [show fMerge R = none from miss none_]; rfl)
end
end K24

set_option Elab.async false
set_option linter.all false
set_option maxRecDepth 100000
set_option maxHeartbeats 12800000
namespace K24
open PySem L2 Tx Tg Tm Da RZ Ek It2
/-! ### values that are judged -/
abbrev sTx : Stmt := top 16
abbrev sIM : Stmt := top 45
abbrev sID : Stmt := top 67
abbrev nTx : List Str := ["letters", "value"]
theorem scTx : FnScope nTx ["letters", "value"] (defScope sTx) := ⟨rfl, rfl, rfl, by decide +kernel, rfl, by decide +kernel, by decide +kernel⟩
abbrev nIM : List Str := ["reader", "value", "least", "letter", "one", "other", "left", "right", "row"]
theorem scIM : FnScope nIM ["reader", "value"] (defScope sIM) := ⟨rfl, rfl, rfl, by decide +kernel, rfl, by decide +kernel, by decide +kernel⟩
abbrev nID : List Str := ["_law_plain", "_law_lean_here", "_law_value", "_law_one", "_law_other", "_law_sign"]
theorem scID : FnScope nID ["_law_plain", "_law_lean_here", "_law_value"] (defScope sID) := ⟨rfl, rfl, rfl, by decide +kernel, rfl, by decide +kernel, by decide +kernel⟩
inductive It1 where
  | s (z : Str)
  | n
def itV : It1 → V
  | .s z => .str z
  | .n => .non
def itD : It1 → PyData
  | .s z => .str z
  | .n => .none
def okIt : It1 → Prop
  | .s z => Fine z
  | .n => True
theorem it_val {H : Hp} : ∀ a : It1, Val H (itV a) (itD a)
  | .s z => .str z
  | .n => .non
theorem it_ok : ∀ {a : It1}, okIt a → Ok (itD a)
  | .s _, h => h
  | .n, _ => ⟨rfl, by decide, Nat.le_trans (show _ ≤ 10 by decide +kernel) (by decide), by decide +kernel⟩
inductive NV where
  | tup (l : List It1)
  | lst (l : List It1)
  | non
  | int (i : Int)
  | dct
def NvAt (H : Hp) (v : V) : NV → Prop
  | .tup l => ∃ p, v = .ref p ∧ H p = some (.tup (l.map itV))
  | .lst l => ∃ p, v = .ref p ∧ H p = some (.lst (l.map itV))
  | .non => v = .non
  | .int i => v = .int i
  | .dct => ∃ p, v = .ref p ∧ H p = some (.dK [])
def okNv : NV → Prop
  | .tup l => (∀ a ∈ l, okIt a) ∧ l.length ≤ 10
  | .lst l => l.length ≤ 10
  | _ => True
theorem NvAt.same {H H' : Hp} {v : V} (s : Same H H') : ∀ {x : NV}, NvAt H v x → NvAt H' v x
  | .tup _, ⟨p, e, h⟩ => ⟨p, e, s _ _ h⟩
  | .lst _, ⟨p, e, h⟩ => ⟨p, e, s _ _ h⟩
  | .non, h => h
  | .int _, h => h
  | .dct, ⟨p, e, h⟩ => ⟨p, e, s _ _ h⟩
def isTup : NV → Bool
  | .tup _ => true
  | _ => false
theorem nv_ty {K : PySem.W.Frag} {H : Hp} {v : V} {x : NV} (h : NvAt H v x) : ∃ t, TyX K H v t ∧ PySem.W.kitOne K t (.type "tuple") = some (isTup x) := by
  cases x with
  | tup l =>
    obtain ⟨p, rfl, e⟩ := h
    exact ⟨_, .base (.tup e), (kit_ty (by decide +kernel) : PySem.W.kitOne K (.type "tuple") (.type "tuple") = some true)⟩
  | lst l =>
    obtain ⟨p, rfl, e⟩ := h
    exact ⟨_, .base (.lst e), (kit_ty (by decide +kernel) : PySem.W.kitOne K (.type "list") (.type "tuple") = some false)⟩
  | non =>
    cases (show v = .non from h)
    exact ⟨_, .base .non, kit_ty (by decide +kernel)⟩
  | int i =>
    cases (show v = .int i from h)
    exact ⟨_, .base (.int i), (kit_ty (by decide +kernel) : PySem.W.kitOne K (.type "int") (.type "tuple") = some false)⟩
  | dct =>
    obtain ⟨p, rfl, e⟩ := h
    exact ⟨_, .base (.dK e), kit_ty (by decide +kernel)⟩
def rowAt (R : Rdr) (a : Str) (i : Nat) : Nat := (row R.W ((cds a).headD 0)).getD i 0
def dueT (R : Rdr) (a b c : Str) : Bool := decide (run R.W 0 (cds b) ≠ run R.W 0 (cds c)) && decide (rowAt R a (run R.W 0 (cds b)) = rowAt R a (run R.W 0 (cds c)))
def dueN (sg : Str) (R : Rdr) : NV → Bool
  | .tup [.s a, .s b, .s c] => (has sg 4000 (.str a) && decide (a.length = 1)) && ((has sg 4000 (.str b) && has sg 4000 (.str c)) && dueT R a b c)
  | _ => false
theorem due_a {sg : Str} {R : Rdr} {a b c : It1} (h : has sg 4000 (itD a) = false) : dueN sg R (.tup [a, b, c]) = false := by
  cases a <;> cases b <;> cases c <;> first | rfl | (simp only [dueN]; have h : has sg 4000 (.str _) = false := h; rw [h]; rfl)
theorem due_b {sg : Str} {R : Rdr} {a b c : It1} (h : has sg 4000 (itD b) = false) : dueN sg R (.tup [a, b, c]) = false := by
  cases a <;> cases b <;> cases c <;> first | rfl | (simp only [dueN]; rename_i x y z; have h : has sg 4000 (.str y) = false := h; rw [h]; simp)
theorem due_c {sg : Str} {R : Rdr} {a b c : It1} (h : has sg 4000 (itD c) = false) : dueN sg R (.tup [a, b, c]) = false := by
  cases a <;> cases b <;> cases c <;> first | rfl | (simp only [dueN]; rename_i x y z; have h : has sg 4000 (.str z) = false := h; rw [h]; simp)
theorem due_l {sg z : Str} {R : Rdr} {b c : It1} (h : z.length ≠ 1) : dueN sg R (.tup [.s z, b, c]) = false := by
  cases b <;> cases c <;> first | rfl | (simp only [dueN]; rw [decide_eq_false h]; simp)
theorem due_n {sg : Str} {R : Rdr} {l : List It1} (h : l.length ≠ 3) : dueN sg R (.tup l) = false := by
  match l, h with
  | [], _ => rfl
  | [a], _ => cases a <;> rfl
  | [a, b], _ => cases a <;> cases b <;> rfl
  | [_, _, _], h => exact absurd rfl h
  | a :: b :: c :: d :: l, _ => cases a <;> cases b <;> cases c <;> rfl
theorem has_over {sg z : Str} (h : has sg 4000 (.str z) = true) : Over sg z ∧ z.length ≤ 4000 := by
  have h : (decide (z.length ≤ 4000) && only z sg) = true := h
  rw [Bool.and_eq_true] at h
  exact ⟨only_iff.mp h.2, of_decide_eq_true h.1⟩
theorem one_of {a : Str} (h : a.length = 1) : ∃ c, a = one c ∧ cds a = [c] := by
  have : (cds a).length = 1 := by rw [cds_len]; exact h
  match e : cds a, this with
  | [c], _ => exact ⟨c, cds_ext e, rfl⟩
section
variable {P : Program} {w : World} {K : PySem.W.Frag} {mg : Str → Option Value} {base : Heap} {CC : Addr}
def spTx : Sp := fun vs H Q _ => ∃ (sg : Str) (v : V) (d : PyData), vs = [.str sg, v] ∧ Signs sg ∧ (∀ H', Same H H' → Val H' v d) ∧ Ok d ∧ ∀ H', Same H H' → Q (.bl (has sg 4000 d)) H'
theorem ok_tx {f fI fH fL fC fT : Addr} {fd dI dH dL dC dT : FuncData} (F : Fun K "is_text" "is_text" sTx f fd) (T : Txt K mg) (G : Low K mg fI fH fL fC fT dI dH dL dC dT) : FnOk P w K mg base CX0 4 f fd ["letters", "value"] spTx := by
  have GC := ok_passL (P := P) (w := w) (base := base) G.DC.F T G.DH G.DL
  have GH := ok_has (P := P) (w := w) (base := base) G.DH.F T
  refine F.ok scTx (fun vs H Q E h => ?_) (fun cdv A outer s H vs Q E hr h => ?_)
  · obtain ⟨sg, v, d, rfl, _⟩ := h
    rfl
  · obtain ⟨sg, v, d, rfl, hsg, hv, hd, q⟩ := h
    obtain ⟨tn, hn⟩ := T.mText
    refine ⟨_, (pss_cons (ps_expr (pe_call GC (hr.mono (by decide)) (by rfl) G.DC.m G.DC.F.kp G.DC.b .nil pass0 (pa_cons (pv 0) pa_nil)))
    (pss_one (ps_ret (pe_call GH (hr.mono (by decide)) (by rfl) G.DH.m G.DH.F.kp G.DH.b .nil pass0 (pa_cons (pv 1) (pa_cons (pv 0) (pa_cons (pe_glob (v := .int 4000) rfl hn ⟨_, rfl⟩) pa_nil))))))), ?_⟩
    refine ⟨_, rfl, sg, rfl, hsg, fun H' s' => ?_⟩
    exact ⟨_, rfl, _, rfl, v, d, sg, 4000, rfl, hv _ s', hd, q H' s'⟩
def spIM (CC : Addr) : Sp := fun vs H Q _ => ∃ (p : Addr) (r : Rdr) (v : V) (x : NV), vs = [.ref p, v] ∧ RdAt CC H p r ∧ NvAt H v x ∧ okNv x ∧ ∀ H' R ts, Same H H' → LeanR r R ts → Q (.bl (dueN r.sg R x)) H'
theorem ok_im {f fV fI fH fL fC fT : Addr} {fd dV dI dH dL dC dT : FuncData} (F : Fun K "is_merge" "is_merge" sIM f fd) (T : Txt K mg) (C : Cl P w K mg base CC) (G : Low K mg fI fH fL fC fT dI dH dL dC dT) (DV : Df K mg "least_reader" sLean ["reader"] fV dV)
    (GV : FnOk P w K mg base CX0 7 fV dV ["reader"] (spLean CC)) : FnOk P w K mg base CX0 8 f fd ["reader", "value"] (spIM CC) := by
  have GT := ok_tx (P := P) (w := w) (base := base) G.DT.F T G
  have DT := G.DT
  refine F.ok scIM (fun vs H Q E h => ?_) (fun cdv A outer s0 H vs Q E hr h => ?_)
  · obtain ⟨p, r, v, x, rfl, _⟩ := h
    rfl
  · obtain ⟨p, r, v, x, rfl, hp, hv, okx, q⟩ := h
    have hu := hu_of hr
    refine ⟨_, (pss_cons (ps_set (i := 2) scIM.nd rfl (Or.inl rfl) (pe_call GV (hr.mono (by decide)) (by rfl) DV.m DV.F.kp DV.b .nil pass0 (pa_cons (pv 0) pa_nil)))
    (pss_cons (ps_if (PW.pt (pw_or (pt_not (pt_val (pe_callB call_isi (by rfl) T.isi (by decide +kernel) (pa_cons (pv 1) (pa_cons (pe_bltn (v := .ty "tuple") (by rfl) T.tuple (by decide +kernel) rfl) pa_nil))))) (pw_or1 (pt_cmpR op_ne (pe_callB call_len_seq (by rfl) T.len PySem.boot_len (pa_cons (pv 1) pa_nil)) pe_int (nomark _))))) (pss_one (ps_ret pe_bl)) pss_nil)
    (pss_cons (ps_asg (pv 1) (pg_tup rfl (pgs_cons (pg_name (i := 3) scIM.nd rfl (Or.inl rfl)) (pgs_cons (pg_name (i := 4) scIM.nd rfl (Or.inl rfl)) (pgs_cons (pg_name (i := 5) scIM.nd rfl (Or.inl rfl)) pgs_nil)))))
    (pss_cons (ps_if (PW.pt (pw_or (pt_not (pt_val (pe_call GT (hr.mono (by decide)) (by rfl) DT.m DT.F.kp DT.b .nil pass0 (pa_cons (pe_prop (pv 0) C.MK.W.cl C.pLe C.gLe (hr.mono (by decide)) C.bLe .nil pass0 rfl) (pa_cons (pv 3) pa_nil))))) (pw_or1 (pt_cmpR op_ne (pe_callB call_len_str (by rfl) T.len PySem.boot_len (pa_cons (pv 3) pa_nil)) pe_int (nomark _))))) (pss_one (ps_ret pe_bl)) pss_nil)
    (pss_cons (ps_if (PW.pt (pw_or (pt_not (pt_val (pe_call GT (hr.mono (by decide)) (by rfl) DT.m DT.F.kp DT.b .nil pass0 (pa_cons (pe_prop (pv 0) C.MK.W.cl C.pLe C.gLe (hr.mono (by decide)) C.bLe .nil pass0 rfl) (pa_cons (pv 4) pa_nil))))) (pw_or1 (pt_not (pt_val (pe_call GT (hr.mono (by decide)) (by rfl) DT.m DT.F.kp DT.b .nil pass0 (pa_cons (pe_prop (pv 0) C.MK.W.cl C.pLe C.gLe (hr.mono (by decide)) C.bLe .nil pass0 rfl) (pa_cons (pv 5) pa_nil)))))))) (pss_one (ps_ret pe_bl)) pss_nil)
    (pss_cons (ps_par (i := 6) (j := 7) (by rfl) scIM.nd rfl rfl (by decide) rfl rfl (pa_cons (pe_meth (pv 2) C.MK.W.cl C.mLd C.gLd (hr.mono (by decide)) C.bLd .nil pass0 (pa_cons pe_int (pa_cons (pv 4) pa_nil))) (pa_cons (pe_meth (pv 2) C.MK.W.cl C.mLd C.gLd (hr.mono (by decide)) C.bLd .nil pass0 (pa_cons pe_int (pa_cons (pv 5) pa_nil))) pa_nil)) (by rfl))
    (pss_cons (ps_set (i := 8) scIM.nd rfl (Or.inl rfl) (pe_dget hu (pe_prop (pv 2) C.MK.W.cl C.pMo C.gMo (hr.mono (by decide)) C.bMo .nil pass0 rfl) (pv 3) (fun _ _ => rfl)))
    (pss_one (ps_ret (pe_and (pe_cmpR op_ne (pv 6) (pv 7) (nomark _)) (pe_one (pe_cmpR op_eq (pe_ix ix_tup (pv 8) (pv 6) (fun _ _ => rfl)) (pe_ix ix_tup (pv 8) (pv 7) (fun _ _ => rfl)) (nomark _))))))))))))), ?_⟩
    refine ⟨_, rfl, p, r, rfl, hp, fun y H1 m l s1 ner full hy => ?_⟩
    have ok := hp.ok
    have lean : LeanR r (leanOf r m l) ((Au.dd m l).map (·.2)) := ⟨m, l, ner, full, rfl, rfl⟩
    have esg : (leanOf r m l).sg = r.sg := rfl
    generalize leanOf r m l = R at hy lean esg
    generalize (Au.dd m l).map (·.2) = ts at lean
    have okR := hy.ok
    have q := fun H' s => q H' R ts s lean
    dsimp only [tSeq, gName]
    have hv1 := hv.same s1
    have hp1 := hp.same s1
    obtain ⟨t, ty, kt⟩ := nv_ty (K := K) hv1
    refine ⟨_, rfl, _, _, _, _, _, rfl, .ty "tuple", ty, kt, _, rfl, ?_⟩
    have hit0 : isTup x = false → dueN r.sg R x = false := fun h => by
      cases x with
      | tup l => cases h
      | _ => rfl
    cases x with
    | lst _ => exact iteT' rfl (iteT' rfl (q H1 s1))
    | non => exact iteT' rfl (iteT' rfl (q H1 s1))
    | int _ => exact iteT' rfl (iteT' rfl (q H1 s1))
    | dct => exact iteT' rfl (iteT' rfl (q H1 s1))
    | tup l =>
      obtain ⟨pv, rfl, ev⟩ := hv1
      obtain ⟨okl, l10⟩ := okx
      refine iteF' Bool.false_ne_true ?_
      refine ⟨_, rfl, pv, _, rfl, .inr (SqT.of ev), rfl, _, rfl, ?_⟩
      rw [List.length_map]
      by_cases l3 : l.length = 3
      · obtain ⟨a, b, c, rfl⟩ : ∃ a b c, l = [a, b, c] := match l, l3 with | [a, b, c], _ => ⟨a, b, c, rfl⟩
        refine iteF' (show ¬ (!decide (V.int 3 = V.int 3)) = true by decide) ?_
        refine ⟨_, rfl, pv, _, rfl, SqT.of ev, rfl, _, _, rfl, _, _, rfl, _, _, rfl, rfl, ?_⟩
        dsimp only [gName, tSeq]
        have oka := it_ok (okl a List.mem_cons_self)
        have okb := it_ok (okl b (List.mem_cons_of_mem _ List.mem_cons_self))
        have okc := it_ok (okl c (List.mem_cons_of_mem _ (List.mem_cons_of_mem _ List.mem_cons_self)))
        obtain ⟨dx1, d1, g1, ep1, _⟩ := id hp1
        refine ⟨_, rfl, p, dx1, _, rfl, ep1, p, r, rfl, hp1, _, rfl, r.sg, itV a, itD a, rfl, ok.sg, fun _ _ => it_val a, oka, fun H2 s2 => ⟨_, rfl, ?_⟩⟩
        by_cases ha : has r.sg 4000 (itD a) = true
        · cases a with
          | n => cases ha
          | s za =>
            have ha : has r.sg 4000 (.str za) = true := ha
            obtain ⟨ova, la4⟩ := has_over ha
            refine iteF' (show ¬ (!has r.sg 4000 (.str za)) = true by rw [ha]; exact Bool.false_ne_true) ?_
            refine ⟨_, rfl, za, rfl, Nat.le_trans la4 (by decide), rfl, _, rfl, ?_⟩
            have s12 := s1.trans s2
            by_cases l1 : za.length = 1
            · refine iteF' (show ¬ (!decide (V.int (za.length : Int) = V.int 1)) = true by rw [l1]; decide) ?_
              obtain ⟨dx2, d2, g2, ep2, _⟩ := id (hp.same s12)
              refine ⟨_, rfl, p, dx2, _, rfl, ep2, p, r, rfl, hp.same s12, _, rfl, r.sg, itV b, itD b, rfl, ok.sg, fun _ _ => it_val b, okb, fun H3 s3 => ⟨_, rfl, ?_⟩⟩
              have s13 := s12.trans s3
              by_cases hb : has r.sg 4000 (itD b) = true
              · cases b with
                | n => cases hb
                | s zb =>
                  have hb : has r.sg 4000 (.str zb) = true := hb
                  obtain ⟨ovb, lb4⟩ := has_over hb
                  refine iteF' (show ¬ (!has r.sg 4000 (.str zb)) = true by rw [hb]; exact Bool.false_ne_true) ?_
                  obtain ⟨dx3, d3, g3, ep3, _⟩ := id (hp.same s13)
                  refine ⟨_, rfl, p, dx3, _, rfl, ep3, p, r, rfl, hp.same s13, _, rfl, r.sg, itV c, itD c, rfl, ok.sg, fun _ _ => it_val c, okc, fun H4 s4 => ⟨_, rfl, ?_⟩⟩
                  have s14 := s13.trans s4
                  by_cases hc : has r.sg 4000 (itD c) = true
                  · cases c with
                    | n => cases hc
                    | s zc =>
                      have hc : has r.sg 4000 (.str zc) = true := hc
                      obtain ⟨ovc, lc4⟩ := has_over hc
                      refine iteF' (show ¬ (!has r.sg 4000 (.str zc)) = true by rw [hc]; exact Bool.false_ne_true) ?_
                      have hy4 := hy.same (s2.trans (s3.trans s4))
                      obtain ⟨dy4, _, _, ey4, _⟩ := id hy4
                      have n60 := okR.W.most
                      have ovb' : Over R.sg zb := esg ▸ ovb
                      have ovc' : Over R.sg zc := esg ▸ ovc
                      refine ⟨_, rfl, y, dy4, _, rfl, ey4, rfl, _, rfl, y, R, 0, zb, rfl, hy4, okR.W.one, ovb', lb4, fun H5 s5 => ⟨_, rfl, y, dy4, _, rfl, s5 _ _ ey4, rfl, _, rfl, y, R, 0, zc, rfl, hy4.same s5, okR.W.one, ovc', lc4, fun H6 s6 => ⟨_, _, rfl, ?_⟩⟩⟩
                      dsimp only [gName, tSeq]
                      have hy6 := (hy4.same s5).same s6
                      obtain ⟨dy6, _, _, ey6, _⟩ := id hy6
                      refine ⟨_, rfl, y, dy6, _, rfl, ey6, y, R, rfl, hy6, fun d7 H7 s7 hM7 => ?_⟩
                      obtain ⟨ch, rfl, ech⟩ := one_of l1
                      have chm : ch ∈ cds R.sg := by
                        rw [esg]
                        exact ova ch (by rw [ech]; exact List.mem_singleton_self _)
                      obtain ⟨lr, hlr, ll, lb⟩ := okR.W.has chm
                      obtain ⟨kvs7, ed7, hw7⟩ := hM7
                      obtain ⟨p7, g7, row7⟩ := ways_get hw7 (okR.W.nodup okR.sg) hlr
                      have G7 : DGet H7 d7 (.str (one ch)) (some (.ref p7)) := by
                        have := DGet.k (k := (Sum.inr (one ch) : Key)) ed7
                        rw [g7] at this
                        exact this
                      refine ⟨_, rfl, d7, _, rfl, G7, ?_⟩
                      dsimp only [gName, tSeq]
                      have i1 : run R.W 0 (cds zb) < R.n := run_lt okR okR.W.one ovb'
                      have i2 : run R.W 0 (cds zc) < R.n := run_lt okR okR.W.one ovc'
                      have er : ∀ i, rowAt R (one ch) i = lr.getD i 0 := fun i => by
                        unfold rowAt
                        rw [ech]
                        show (row R.W ch).getD i 0 = _
                        rw [row_eq (okR.W.nodup okR.sg) hlr]
                      have fin := q H7 (s14.trans ((s5.trans s6).trans s7))
                      have ed : dueN r.sg R (.tup [.s (one ch), .s zb, .s zc]) = (decide (run R.W 0 (cds zb) ≠ run R.W 0 (cds zc)) && decide (rowAt R (one ch) (run R.W 0 (cds zb)) = rowAt R (one ch) (run R.W 0 (cds zc)))) := by
                        simp only [dueN]
                        rw [ha, hb, hc, decide_eq_true l1]
                        rfl
                      rw [ed, er, er] at fin
                      generalize run R.W 0 (cds zb) = i at i1 fin ⊢
                      generalize run R.W 0 (cds zc) = j at i2 fin ⊢
                      have il : i < lr.length := by omega
                      have jl : j < lr.length := by omega
                      have gi : lr.getD i 0 = lr[i] := by rw [List.getD_eq_getElem?_getD, List.getElem?_eq_getElem il]; rfl
                      have gj : lr.getD j 0 = lr[j] := by rw [List.getD_eq_getElem?_getD, List.getElem?_eq_getElem jl]; rfl
                      refine ⟨_, rfl, _, rfl, rfl, _, rfl, ?_⟩
                      rw [eqI]
                      by_cases same : i = j
                      · refine iteF' (by rw [decide_eq_true same]; exact Bool.false_ne_true) ?_
                        rw [decide_eq_false (not_not_intro same)] at fin
                        exact fin
                      · refine iteT' (by rw [decide_eq_false same]; rfl) ?_
                        rw [decide_eq_true same] at fin
                        refine ⟨_, rfl, _, rfl, p7, _, _, _, rfl, rfl, SqT.of row7, atI_nat (natsV_at il), _, rfl, _, rfl, p7, _, _, _, rfl, rfl, SqT.of row7, atI_nat (natsV_at jl), rfl, ?_⟩
                        rw [eqI, ← gi, ← gj]
                        exact fin
                  · have hc0 : has r.sg 4000 (itD c) = false := by simpa using hc
                    refine iteT' (show (!has r.sg 4000 (itD c)) = true by rw [hc0]; rfl) ?_
                    have := q H4 (s2.trans (s3.trans s4) |> s1.trans)
                    rw [due_c hc0] at this
                    exact this
              · have hb0 : has r.sg 4000 (itD b) = false := by simpa using hb
                refine iteT' (show (!has r.sg 4000 (itD b)) = true by rw [hb0]; rfl) (iteT' rfl ?_)
                have := q H3 s13
                rw [due_b hb0] at this
                exact this
            · refine iteT' (show (!decide (V.int (za.length : Int) = V.int 1)) = true by rw [decide_eq_false fun e => l1 (by injection e with e; omega)]; rfl) ?_
              have := q H2 s12
              rw [due_l l1] at this
              exact this
        · have ha0 : has r.sg 4000 (itD a) = false := by simpa using ha
          refine iteT' (show (!has r.sg 4000 (itD a)) = true by rw [ha0]; rfl) (iteT' rfl ?_)
          have := q H2 (s1.trans s2)
          rw [due_a ha0] at this
          exact this
      · refine iteT' (show (!decide (V.int (l.length : Int) = V.int 3)) = true by rw [decide_eq_false fun e => l3 (by injection e with e; omega)]; rfl) ?_
        have := q H1 s1
        rw [due_n l3] at this
        exact this
/-! ### the law's own judge -/
def isN : It1 → Bool
  | .s _ => false
  | .n => true
theorem it_dp (K : PySem.W.Frag) (H : Hp) : ∀ l : List It1, DpAll K H (l.map itV) (l.map itD)
  | [] => .nil
  | .s z :: l => .cons (.str _) (it_dp K H l)
  | .n :: l => .cons .non (it_dp K H l)
theorem ns_shaped : ∀ l : List It1, (∀ a ∈ l, isN a = true) → PyData.canLayAll0 (l.map itD) = true ∧ PyData.depthAll (l.map itD) = 0
  | [], _ => ⟨rfl, rfl⟩
  | .n :: l, h => by
    obtain ⟨a, b⟩ := ns_shaped l fun x hx => h x (List.mem_cons_of_mem _ hx)
    refine ⟨?_, ?_⟩
    · show (true && PyData.canLayAll0 (l.map itD)) = true
      rw [a]
      rfl
    · show max 0 (PyData.depthAll (l.map itD)) = 0
      rw [b]
      rfl
  | .s z :: l, h => by
    have := h (.s z) List.mem_cons_self
    cases this
theorem ns_ok {l : List It1} (h : ∀ a ∈ l, isN a = true) : SeqAt.shaped (.list (l.map itD)) = true := by
  obtain ⟨a, b⟩ := ns_shaped l h
  unfold SeqAt.shaped
  rw [Bool.and_eq_true]
  refine ⟨a, decide_eq_true ?_⟩
  show PyData.depthAll (l.map itD) + 1 ≤ 64
  rw [b]
  decide
theorem strs3 {a b c : It1} (h : [a, b, c].filter isN = []) : ∃ za zb zc, a = .s za ∧ b = .s zb ∧ c = .s zc := by
  cases a <;> cases b <;> cases c <;> first | exact ⟨_, _, _, rfl, rfl, rfl⟩ | exact absurd h (by simp [isN])
theorem due_x {sg : Str} {R : Rdr} {a b c : It1} (h : [a, b, c].filter isN ≠ []) : dueN sg R (.tup [a, b, c]) = false := by
  cases a <;> cases b <;> cases c <;> first | rfl | exact absurd rfl h
theorem due_o {sg za zb zc : Str} {R : Rdr} (h : ¬ (Over sg za ∧ Over sg zb ∧ Over sg zc)) : dueN sg R (.tup [.s za, .s zb, .s zc]) = false := by
  cases e : dueN sg R (.tup [.s za, .s zb, .s zc]) with
  | false => rfl
  | true =>
    have e : ((has sg 4000 (.str za) && decide (za.length = 1)) && ((has sg 4000 (.str zb) && has sg 4000 (.str zc)) && dueT R za zb zc)) = true := e
    simp only [Bool.and_eq_true] at e
    exact absurd ⟨(has_over e.1.1).1, (has_over e.2.1.1).1, (has_over e.2.1.2).1⟩ h
theorem due_m {sg za zb zc : Str} {R : Rdr} (h : ¬ (zb.length ≤ 4000 ∧ zc.length ≤ 4000)) : dueN sg R (.tup [.s za, .s zb, .s zc]) = false := by
  cases e : dueN sg R (.tup [.s za, .s zb, .s zc]) with
  | false => rfl
  | true =>
    have e : ((has sg 4000 (.str za) && decide (za.length = 1)) && ((has sg 4000 (.str zb) && has sg 4000 (.str zc)) && dueT R za zb zc)) = true := e
    simp only [Bool.and_eq_true] at e
    exact absurd ⟨(has_over e.2.1.1).2, (has_over e.2.1.2).2⟩ h
theorem rd_same {H H' : Hp} {a : Addr} {u : HO} (s : Same H H') (h : Rd H a u) : Rd H' a u := h.imp (fun e => s _ _ e) fun ⟨o, e⟩ => ⟨o, s _ _ e⟩
theorem dget_same {H H' : Hp} {d : Addr} {k : V} {o : Option V} (s : Same H H') (h : DGet H d k o) : DGet H' d k o := by
  rcases h with ⟨kvs, k', r, e, e2⟩ | ⟨kvs, k', b, r, e, e2, e3⟩
  · exact .inl ⟨kvs, k', rd_same s r, e, e2⟩
  · exact .inr ⟨kvs, k', b, rd_same s r, e, s _ _ e2, e3⟩
theorem ones_dp (K : PySem.W.Frag) (H : Hp) : ∀ l : List Nat, DpAll K H (l.map fun y => V.str (one y)) (l.map fun y => PyData.str (one y))
  | [] => .nil
  | _ :: l => .cons (.str _) (ones_dp K H l)
theorem ones_shaped {l : List Nat} (h : ∀ y ∈ l, y < 128) : SeqAt.shaped (.list (l.map fun y => PyData.str (one y))) = true := by
  have : PyData.canLayAll0 (l.map fun y => PyData.str (one y)) = true ∧ PyData.depthAll (l.map fun y => PyData.str (one y)) = 0 := by
    induction l with
    | nil => exact ⟨rfl, rfl⟩
    | cons a l ih =>
      obtain ⟨h1, h2⟩ := ih fun y hy => h y (List.mem_cons_of_mem _ hy)
      have e1 : PyData.canLay0 (.str (one a)) = true := lay_str (z := one a) fun c hc => by
        have hc : c ∈ [a] := hc
        rw [List.mem_singleton.mp hc]
        exact h a List.mem_cons_self
      refine ⟨?_, ?_⟩
      · show (PyData.canLay0 (.str (one a)) && PyData.canLayAll0 (l.map fun y => PyData.str (one y))) = true
        rw [e1, h1]
        rfl
      · show max 0 (PyData.depthAll (l.map fun y => PyData.str (one y))) = 0
        rw [h2]
        rfl
  unfold SeqAt.shaped
  rw [Bool.and_eq_true]
  refine ⟨this.1, decide_eq_true ?_⟩
  show PyData.depthAll _ + 1 ≤ 64
  rw [this.2]
  decide
def spID : Sp := fun vs H Q _ => ∃ (p L d : Addr) (r R : Rdr) (v : V) (x : NV), vs = [.ref p, .ref L, v] ∧ PlainAt H p r ∧ DGet H L (.str "ways") (some (.ref d)) ∧ MovAt H d R.W ∧ okR R ∧ R.sg = r.sg ∧ NvAt H v x ∧ okNv x ∧ ∀ H', Same H H' → Q (.bl (dueN r.sg R x)) H'
theorem ok_id2 {f fR : Addr} {fd dR : FuncData} (F : Fun K "_law_is_due" "_law_is_due" sID f fd) (T : Txt K mg) (DR : Df K mg "_law_read" sRead ["_law_plain", "_law_at", "_law_line_here"] fR dR) : FnOk P w K mg base CX0 2 f fd ["_law_plain", "_law_lean_here", "_law_value"] spID := by
  have GR := ok_rd (P := P) (w := w) (mg := mg) (base := base) DR.F
  refine F.ok scID (fun vs H Q E h => ?_) (fun cdv A outer s0 H vs Q E hr h => ?_)
  · obtain ⟨p, L, d, r, R, v, x, rfl, _⟩ := h
    rfl
  · obtain ⟨p, L, d, r, R, v, x, rfl, hp, gL, hM, okR, esg, hv, okx, q⟩ := h
    have hu := hu_of hr
    refine ⟨_, (pss_cons (ps_if (PW.pt (pw_or (pt_not (pt_val (pe_callB call_isi (by rfl) T.isi (by decide +kernel) (pa_cons (pv 2) (pa_cons (pe_bltn (v := .ty "tuple") (by rfl) T.tuple (by decide +kernel) rfl) pa_nil))))) (pw_or (pt_cmpR op_ne (pe_callB call_len_seq (by rfl) T.len PySem.boot_len (pa_cons (pv 2) pa_nil)) pe_int (nomark _)) (pw_or1 (pt_cmpR (op_neD hr.units) (pe_lc (own := [("_law_one", 3)]) (g := (gName 3))  (tt := tNot (tB (tCB (rIsi K) (tCons (tVar 3) (tCons (tC (V.ty "str")) tNil))))) (te := tVar 3) rfl scID.nd (pi_tup (pv 2)) (blkOk_by (own := [("_law_one", 3)]) (N := nID) (sc := defScope sID) (by decide +kernel)) (fun _ _ _ _ _ => (pg_name (i := 3) scID.nd rfl (Or.inl rfl))) (fun _ _ _ _ _ => pts_one (pt_not (pt_val (pe_callB call_isi (by rfl) T.isi (by decide +kernel) (pa_cons (pv 3) (pa_cons (pe_bltn (v := .ty "str") (by rfl) T.str (by decide +kernel) rfl) pa_nil)))))) (fun _ _ _ _ _ => (pv 3))) (pe_lst pa_nil) (nomark _)))))) (pss_one (ps_ret pe_bl)) pss_nil)
    (pss_cons (ps_if (PW.pt (pw_or (pt_cmpR op_ne (pe_callB call_len_str (by rfl) T.len PySem.boot_len (pa_cons (pe_ix ix_tup (pv 2) pe_int (fun _ _ => rfl)) pa_nil)) pe_int (nomark _)) (pw_or1 (pt_cmpR (op_neD hr.units) (pe_lc (own := [("_law_sign", 5)]) (g := (gName 5))   rfl scID.nd (pi_str (pe_op op_add_str (pe_op op_add_str (pe_ix ix_tup (pv 2) pe_int (fun _ _ => rfl)) (pe_ix ix_tup (pv 2) pe_int (fun _ _ => rfl))) (pe_ix ix_tup (pv 2) pe_int (fun _ _ => rfl)))) (blkOk_by (own := [("_law_sign", 5)]) (N := nID) (sc := defScope sID) (by decide +kernel)) (fun _ _ _ _ _ => (pg_name (i := 5) scID.nd rfl (Or.inl rfl))) (fun _ _ _ _ _ => pts_one (pt_cmpR op_notIn_sign (pv 5) (pe_dget hu (pv 0) pe_str (fun _ _ => rfl)) (by rfl))) (fun _ _ _ _ _ => (pv 5))) (pe_lst pa_nil) (nomark _))))) (pss_one (ps_ret pe_bl)) pss_nil)
    (pss_cons (ps_if (PW.pt (pw_or (pt_cmpR op_gt (pe_callB call_len_str (by rfl) T.len PySem.boot_len (pa_cons (pe_ix ix_tup (pv 2) pe_int (fun _ _ => rfl)) pa_nil)) pe_int (nomark _)) (pw_or1 (pt_cmpR op_gt (pe_callB call_len_str (by rfl) T.len PySem.boot_len (pa_cons (pe_ix ix_tup (pv 2) pe_int (fun _ _ => rfl)) pa_nil)) pe_int (nomark _))))) (pss_one (ps_ret pe_bl)) pss_nil)
    (pss_cons (ps_par (i := 3) (j := 4) (by rfl) scID.nd rfl rfl (by decide) rfl rfl (pa_cons (pe_call GR (hr.mono (by decide)) (by rfl) DR.m DR.F.kp DR.b .nil pass0 (pa_cons (pv 1) (pa_cons pe_int (pa_cons (pe_ix ix_tup (pv 2) pe_int (fun _ _ => rfl)) pa_nil)))) (pa_cons (pe_call GR (hr.mono (by decide)) (by rfl) DR.m DR.F.kp DR.b .nil pass0 (pa_cons (pv 1) (pa_cons pe_int (pa_cons (pe_ix ix_tup (pv 2) pe_int (fun _ _ => rfl)) pa_nil)))) pa_nil)) (by rfl))
    (pss_one (ps_ret (pe_and (pe_cmpR op_ne (pv 3) (pv 4) (nomark _)) (pe_one (pe_cmpR op_eq (pe_ix ix_tup (pe_dget hu (pe_dget hu (pv 1) pe_str (fun _ _ => rfl)) (pe_ix ix_tup (pv 2) pe_int (fun _ _ => rfl)) (fun _ _ => rfl)) (pv 3) (fun _ _ => rfl)) (pe_ix ix_tup (pe_dget hu (pe_dget hu (pv 1) pe_str (fun _ _ => rfl)) (pe_ix ix_tup (pv 2) pe_int (fun _ _ => rfl)) (fun _ _ => rfl)) (pv 4) (fun _ _ => rfl)) (nomark _)))))))))), ?_⟩
    obtain ⟨t, ty, kt⟩ := nv_ty (K := K) hv
    refine ⟨_, rfl, _, _, _, _, _, rfl, .ty "tuple", ty, kt, _, rfl, ?_⟩
    have q0 := q H (Same.refl _)
    cases x with
    | lst _ => exact iteT' rfl (iteT' rfl q0)
    | non => exact iteT' rfl (iteT' rfl q0)
    | int _ => exact iteT' rfl (iteT' rfl q0)
    | dct => exact iteT' rfl (iteT' rfl q0)
    | tup l =>
      obtain ⟨pv, rfl, ev⟩ := hv
      obtain ⟨okl, l10⟩ := okx
      refine iteF' Bool.false_ne_true ?_
      refine ⟨_, rfl, pv, _, rfl, .inr (SqT.of ev), rfl, _, rfl, ?_⟩
      rw [List.length_map]
      by_cases l3 : l.length = 3
      · obtain ⟨a, b, c, rfl⟩ : ∃ a b c, l = [a, b, c] := match l, l3 with | [a, b, c], _ => ⟨a, b, c, rfl⟩
        refine iteF' (show ¬ (!decide (V.int 3 = V.int 3)) = true by decide) ?_
        refine ⟨_, rfl, pv, rfl, ⟨_, SqT.of ev⟩, fun D nD => ?_⟩
        refine lc_tup (xs := [a, b, c].map itV) (fun i H2 => Same H H2 ∧ H2 D = some (.lst ((([a, b, c].take i).filter isN).map itV))) ⟨same_upd nD, upd_same⟩ (fun i H2 _ z => SqT.of (z.1 _ _ ev)) ?_ ?_
        · rintro i v H2 hv ⟨s2, e2⟩
          obtain ⟨it, hit, rfl⟩ : ∃ it, [a, b, c][i]? = some it ∧ v = itV it := by
            rw [List.getElem?_map] at hv
            cases z : [a, b, c][i]? with
            | none => rw [z] at hv; cases hv
            | some it => rw [z] at hv; cases hv; exact ⟨it, rfl, rfl⟩
          have i3 : i < 3 := (List.getElem?_eq_some_iff.mp hit).1
          have tk : ([a, b, c].take (i + 1)).filter isN = ([a, b, c].take i).filter isN ++ (if isN it = true then [it] else []) := by
            rw [List.take_add_one, hit, List.filter_append]
            congr 1
            cases z : isN it <;> simp [z]
          cases it with
          | s z =>
            refine ⟨rfl, _, rfl, _, _, _, _, _, rfl, .ty "str", .base (.str z), (kit_ty (by decide +kernel) : PySem.W.kitOne K (.type "str") (.type "str") = some true), _, rfl, ?_⟩
            refine iteF' Bool.false_ne_true ⟨s2, ?_⟩
            rw [tk]
            show H2 D = some (.lst ((([a, b, c].take i).filter isN ++ []).map itV))
            rw [List.append_nil]
            exact e2
          | n =>
            refine ⟨rfl, _, rfl, _, _, _, _, _, rfl, .ty "str", .base .non, (kit_ty (by decide +kernel) : PySem.W.kitOne K (.type "NoneType") (.type "str") = some false), _, rfl, ?_⟩
            refine iteT' rfl ⟨_, rfl, _, e2, ?_, same_put s2 nD, ?_⟩
            · rw [List.length_map]
              refine Nat.lt_of_le_of_lt (List.length_filter_le _ _) ?_
              rw [List.length_take]
              exact Nat.lt_of_le_of_lt (Nat.le_trans (Nat.min_le_left _ _) (show i ≤ 3 by omega)) (by decide)
            · rw [upd_same, tk]
              show _ = some (HO.lst ((([a, b, c].take i).filter isN ++ [It1.n]).map itV))
              rw [List.map_append]
              rfl
        · rintro H2 ⟨s2, e2⟩
          rw [show ([a, b, c].take ([a, b, c].map itV).length) = [a, b, c] from rfl] at e2
          refine ⟨by show 0 ≤ sizeLine; decide, fun Z nZ => ?_⟩
          have sZ := same_upd (o := .lst []) nZ
          have allN : ∀ y ∈ [a, b, c].filter isN, isN y = true := fun y hy => (List.mem_filter.mp hy).2
          refine ⟨.list (([a, b, c].filter isN).map itD), .list [], .lst (SqL.of (sZ _ _ e2)) (it_dp _ _ _), .lst (SqL.of upd_same) .nil, ns_ok allN, rfl, _, rfl, ?_⟩
          rw [eqv_nil]
          have s02 := s2.trans sZ
          generalize upd H2 Z (.lst []) = H3 at s02 ⊢
          by_cases non : [a, b, c].filter isN = []
          · rw [non]
            refine iteF' Bool.false_ne_true ?_
            obtain ⟨za, zb, zc, rfl, rfl, rfl⟩ := strs3 non
            have ev3 := s02 _ _ ev
            have fa : Fine za := okl _ List.mem_cons_self
            have fb : Fine zb := okl _ (List.mem_cons_of_mem _ List.mem_cons_self)
            have fc : Fine zc := okl _ (List.mem_cons_of_mem _ (List.mem_cons_of_mem _ List.mem_cons_self))
            obtain ⟨da, ga, e1, _, _, hmA, hgA, okr⟩ : ∃ da ga, DGet H3 p (.str "signs") (some (.str r.sg)) ∧ DGet H3 p (.str "ways") (some (.ref da)) ∧ DGet H3 p (.str "good") (some (.ref ga)) ∧ MovAt H3 da r.W ∧ RowAt H3 ga r.G ∧ K24.okR r := by
              obtain ⟨da, ga, a1, a2, a3, a4, a5⟩ := (hp.same s02).get
              exact ⟨da, ga, a1, a2, a3, a4, a5, hp.ok⟩
            have at0 : atI ([It1.s za, .s zb, .s zc].map itV) 0 = some (.str za) := rfl
            refine ⟨_, rfl, pv, _, _, _, rfl, rfl, SqT.of ev3, atI_nat (j := 0) rfl, za, rfl, Nat.le_trans fa.long (by decide), rfl, _, rfl, ?_⟩
            by_cases l1 : za.length = 1
            · refine iteF' (show ¬ (!decide (V.int (za.length : Int) = V.int 1)) = true by rw [l1]; decide) ?_
              have la := fa.long
              have lb := fb.long
              have lc := fc.long
              refine ⟨_, rfl, pv, _, _, _, rfl, rfl, SqT.of ev3, atI_nat (j := 0) rfl, _, rfl, pv, _, _, _, rfl, rfl, SqT.of ev3, atI_nat (j := 1) rfl, za, zb, rfl, rfl, Nat.le_trans (show za.length + zb.length ≤ 8002 by omega) (by decide), _, rfl, pv, _, _, _, rfl, rfl, SqT.of ev3, atI_nat (j := 2) rfl, za ++ zb, zc, rfl, rfl, ?_, ?_⟩
              · rw [Str.length_append]
                exact Nat.le_trans (show za.length + zb.length + zc.length ≤ 12003 by omega) (by decide)
              have hzz : cds (za ++ zb ++ zc) = cds za ++ cds zb ++ cds zc := by simp [cds, Str.cps_append]
              have pl : ∀ y ∈ cds (za ++ zb ++ zc), y < 128 := fun y hy => by
                rw [hzz] at hy
                rcases List.mem_append.mp hy with hy | hy
                · rcases List.mem_append.mp hy with hy | hy
                  · exact fa.plain y hy
                  · exact fb.plain y hy
                · exact fc.plain y hy
              have lzz : (cds (za ++ zb ++ zc)).length ≤ 12003 := by
                rw [cds_len, Str.length_append, Str.length_append]
                omega
              have only3 : (cds (za ++ zb ++ zc)).filter (fun y => decide (y ∉ cds r.sg)) = [] ↔ Over r.sg za ∧ Over r.sg zb ∧ Over r.sg zc := by
                rw [List.filter_eq_nil_iff, hzz]
                constructor
                · intro h
                  have g : ∀ y ∈ cds za ++ cds zb ++ cds zc, y ∈ cds r.sg := fun y hy => by
                    have := h y hy
                    simpa using this
                  exact ⟨fun y hy => g y (List.mem_append_left _ (List.mem_append_left _ hy)), fun y hy => g y (List.mem_append_left _ (List.mem_append_right _ hy)), fun y hy => g y (List.mem_append_right _ hy)⟩
                · rintro ⟨o1, o2, o3⟩ y hy
                  have : y ∈ cds r.sg := by
                    rcases List.mem_append.mp hy with hy | hy
                    · rcases List.mem_append.mp hy with hy | hy
                      · exact o1 y hy
                      · exact o2 y hy
                    · exact o3 y hy
                  simpa using this
              generalize za ++ zb ++ zc = zz at hzz pl lzz only3 ⊢
              refine ⟨zz, rfl, fun D2 nD2 => ?_⟩
              refine Lc.lc_text (fun i H4 => Same H3 H4 ∧ H4 D2 = some (.lst ((((cds zz).take i).filter fun y => decide (y ∉ cds r.sg)).map fun y => V.str (one y)))) ⟨same_upd nD2, upd_same⟩ ?_ ?_
              · rintro i ch H4 hc ⟨s4, e4⟩
                obtain ⟨da4, ga4, g4, _, _, _, _⟩ := (hp.same (s02.trans s4)).get
                have i12 := (List.getElem?_eq_some_iff.mp hc).1
                have tk : ((cds zz).take (i + 1)).filter (fun y => decide (y ∉ cds r.sg)) = ((cds zz).take i).filter (fun y => decide (y ∉ cds r.sg)) ++ (if ch ∉ cds r.sg then [ch] else []) := by
                  rw [List.take_add_one, hc, List.filter_append]
                  congr 1
                  show [ch].filter _ = _
                  by_cases z : ch ∈ cds r.sg
                  · rw [if_neg (not_not_intro z)]
                    exact List.filter_cons_of_neg (by rw [decide_eq_true_iff]; exact not_not_intro z)
                  · rw [if_pos z]
                    exact List.filter_cons_of_pos (decide_eq_true z)
                refine ⟨rfl, _, rfl, _, rfl, p, _, rfl, g4, ch, r.sg, rfl, rfl, _, rfl, ?_⟩
                by_cases hin : ch ∈ cds r.sg
                · refine iteF' (show ¬ (!decide (ch ∈ cds r.sg)) = true by rw [decide_eq_true hin]; exact Bool.false_ne_true) ⟨s4, ?_⟩
                  rw [tk, if_neg (not_not_intro hin), List.append_nil]
                  exact e4
                · refine iteT' (show (!decide (ch ∈ cds r.sg)) = true by rw [decide_eq_false hin]; rfl) ⟨_, rfl, _, e4, ?_, same_put s4 nD2, ?_⟩
                  · rw [List.length_map]
                    refine Nat.lt_of_le_of_lt (List.length_filter_le _ _) ?_
                    rw [List.length_take]
                    exact Nat.lt_of_le_of_lt (Nat.le_trans (Nat.min_le_right _ _) lzz) (by decide)
                  · rw [upd_same, tk, if_pos hin, List.map_append]
                    rfl
              · rintro H4 ⟨s4, e4⟩
                rw [List.take_of_length_le (Nat.le_refl _)] at e4
                refine ⟨by show 0 ≤ sizeLine; decide, fun Z2 nZ2 => ?_⟩
                have sZ2 := same_upd (o := .lst []) nZ2
                have pl2 : ∀ y ∈ (cds zz).filter (fun y => decide (y ∉ cds r.sg)), y < 128 := fun y hy => pl y (List.mem_filter.mp hy).1
                refine ⟨.list (((cds zz).filter fun y => decide (y ∉ cds r.sg)).map fun y => PyData.str (one y)), .list [], .lst (SqL.of (sZ2 _ _ e4)) (ones_dp _ _ _), .lst (SqL.of upd_same) .nil, ones_shaped pl2, rfl, _, rfl, ?_⟩
                rw [eqv_nil]
                have s05 := s02.trans (s4.trans sZ2)
                generalize upd H4 Z2 (.lst []) = H5 at s05 ⊢
                by_cases non2 : (cds zz).filter (fun y => decide (y ∉ cds r.sg)) = []
                · rw [non2]
                  refine iteF' Bool.false_ne_true ?_
                  obtain ⟨o1, o2, o3⟩ := only3.mp non2
                  have ev5 := s05 _ _ ev
                  refine ⟨_, rfl, pv, _, _, _, rfl, rfl, SqT.of ev5, atI_nat (j := 1) rfl, zb, rfl, Nat.le_trans lb (by decide), _, _, rfl, rfl, _, rfl, ?_⟩
                  dsimp only
                  by_cases lb4 : zb.length ≤ 4000
                  · refine iteF' (by rw [decide_eq_false (by omega)]; exact Bool.false_ne_true) ?_
                    refine ⟨_, rfl, pv, _, _, _, rfl, rfl, SqT.of ev5, atI_nat (j := 2) rfl, zc, rfl, Nat.le_trans lc (by decide), _, _, rfl, rfl, _, rfl, ?_⟩
                    dsimp only
                    by_cases lc4 : zc.length ≤ 4000
                    · refine iteF' (by rw [decide_eq_false (by omega)]; exact Bool.false_ne_true) ?_
                      have gL5 := dget_same s05 gL
                      have hM5 := hM.same s05
                      have ovb' : Over R.sg zb := esg ▸ o2
                      have ovc' : Over R.sg zc := esg ▸ o3
                      refine ⟨_, rfl, _, rfl, pv, _, _, _, rfl, rfl, SqT.of ev5, atI_nat (j := 1) rfl, L, d, R, 0, zb, rfl, gL5, hM5, okR, okR.W.one, ovb', fun i1 => ⟨_, rfl, _, rfl, pv, _, _, _, rfl, rfl, SqT.of ev5, atI_nat (j := 2) rfl, L, d, R, 0, zc, rfl, gL5, hM5, okR, okR.W.one, ovc', fun i2 => ⟨_, _, rfl, ?_⟩⟩⟩
                      dsimp only [gName, tSeq]
                      obtain ⟨ch, rfl, ech⟩ := one_of l1
                      have chm : ch ∈ cds R.sg := by
                        rw [esg]
                        exact o1 ch (by rw [ech]; exact List.mem_singleton_self _)
                      obtain ⟨lr, hlr, ll, lbr⟩ := okR.W.has chm
                      obtain ⟨kvs7, ed7, hw7⟩ := id hM5
                      obtain ⟨p7, g7, row7⟩ := ways_get hw7 (okR.W.nodup okR.sg) hlr
                      have G7 : DGet H5 d (.str (one ch)) (some (.ref p7)) := by
                        have := DGet.k (k := (Sum.inr (one ch) : Key)) ed7
                        rw [g7] at this
                        exact this
                      have er : ∀ i, rowAt R (one ch) i = lr.getD i 0 := fun i => by
                        unfold rowAt
                        rw [ech]
                        show (row R.W ch).getD i 0 = _
                        rw [row_eq (okR.W.nodup okR.sg) hlr]
                      have fin := q H5 s05
                      have has1 : ∀ {z : Str}, Over r.sg z → z.length ≤ 4000 → has r.sg 4000 (.str z) = true := fun o h => over_has o h
                      have ed : dueN r.sg R (.tup [.s (one ch), .s zb, .s zc]) = (decide (run R.W 0 (cds zb) ≠ run R.W 0 (cds zc)) && decide (rowAt R (one ch) (run R.W 0 (cds zb)) = rowAt R (one ch) (run R.W 0 (cds zc)))) := by
                        simp only [dueN]
                        rw [has1 o1 (by omega), has1 o2 lb4, has1 o3 lc4, decide_eq_true l1]
                        rfl
                      rw [ed, er, er] at fin
                      generalize run R.W 0 (cds zb) = i at i1 fin ⊢
                      generalize run R.W 0 (cds zc) = j at i2 fin ⊢
                      have il : i < lr.length := by omega
                      have jl : j < lr.length := by omega
                      have gi : lr.getD i 0 = lr[i] := by rw [List.getD_eq_getElem?_getD, List.getElem?_eq_getElem il]; rfl
                      have gj : lr.getD j 0 = lr[j] := by rw [List.getD_eq_getElem?_getD, List.getElem?_eq_getElem jl]; rfl
                      refine ⟨_, rfl, _, rfl, rfl, _, rfl, ?_⟩
                      rw [eqI]
                      by_cases same : i = j
                      · refine iteF' (by rw [decide_eq_true same]; exact Bool.false_ne_true) ?_
                        rw [decide_eq_false (not_not_intro same)] at fin
                        exact fin
                      · refine iteT' (by rw [decide_eq_false same]; rfl) ?_
                        rw [decide_eq_true same] at fin
                        refine ⟨_, rfl, L, _, rfl, gL5, _, rfl, pv, _, _, _, rfl, rfl, SqT.of ev5, atI_nat (j := 0) rfl, d, _, rfl, G7, _, rfl, p7, _, _, _, rfl, rfl, SqT.of row7, atI_nat (natsV_at il), _, rfl, L, _, rfl, gL5, _, rfl, pv, _, _, _, rfl, rfl, SqT.of ev5, atI_nat (j := 0) rfl, d, _, rfl, G7, _, rfl, p7, _, _, _, rfl, rfl, SqT.of row7, atI_nat (natsV_at jl), rfl, ?_⟩
                        rw [eqI, ← gi, ← gj]
                        exact fin
                    · refine iteT' (decide_eq_true (by omega)) ?_
                      have := q H5 s05
                      rw [due_m fun z => lc4 z.2] at this
                      exact this
                  · refine iteT' (decide_eq_true (by omega)) (iteT' rfl ?_)
                    have := q H5 s05
                    rw [due_m fun z => lb4 z.1] at this
                    exact this
                · rw [show decide (((cds zz).filter fun y => decide (y ∉ cds r.sg)).map (fun y => PyData.str (one y)) = []) = false from decide_eq_false fun e => non2 (List.map_eq_nil_iff.mp e)]
                  refine iteT' rfl ?_
                  have := q H5 s05
                  rw [due_o fun z => non2 (only3.mpr z)] at this
                  exact this
            · refine iteT' (show (!decide (V.int (za.length : Int) = V.int 1)) = true by rw [decide_eq_false fun e => l1 (by injection e with e; omega)]; rfl) (iteT' rfl ?_)
              have := q H3 s02
              rw [due_l l1] at this
              exact this
          · rw [show decide (([a, b, c].filter isN).map itD = []) = false from decide_eq_false fun e => non (List.map_eq_nil_iff.mp e)]
            refine iteT' rfl ?_
            have := q H3 s02
            rw [due_x non] at this
            exact this
      · refine iteT' (show (!decide (V.int (l.length : Int) = V.int 3)) = true by rw [decide_eq_false fun e => l3 (by injection e with e; omega)]; rfl) (iteT' rfl ?_)
        have := q0
        rw [due_n l3] at this
        exact this
end
end K24

set_option linter.all false
/-! rows of runs put together: the free group, by hand. A row lies with its last run ahead. -/
namespace Wm
variable {α : Type} [DecidableEq α]
/-- one more run behind a row -/
def push (p : α × Int) : List (α × Int) → List (α × Int)
  | [] => if p.2 = 0 then [] else [p]
  | q :: t => if p.2 = 0 then q :: t else if q.1 = p.1 then (if q.2 + p.2 = 0 then t else (q.1, q.2 + p.2) :: t) else p :: q :: t
/-- unlike neighbours, no exponent 0 -/
def Red : List (α × Int) → Prop
  | [] => True
  | [p] => p.2 ≠ 0
  | p :: q :: t => p.2 ≠ 0 ∧ p.1 ≠ q.1 ∧ Red (q :: t)
theorem Red.tail {p : α × Int} {t : List (α × Int)} (h : Red (p :: t)) : Red t := by
  cases t with
  | nil => trivial
  | cons q t => exact h.2.2
theorem Red.head {p : α × Int} {t : List (α × Int)} (h : Red (p :: t)) : p.2 ≠ 0 := by
  cases t with
  | nil => exact h
  | cons q t => exact h.1
theorem Red.swap {p : α × Int} {t : List (α × Int)} (h : Red (p :: t)) {n : Int} (hn : n ≠ 0) : Red ((p.1, n) :: t) := by
  cases t with
  | nil => exact hn
  | cons q t => exact ⟨hn, h.2.1, h.2.2⟩
theorem red_push {p : α × Int} {r : List (α × Int)} (h : Red r) : Red (push p r) := by
  cases r with
  | nil =>
    show Red (if p.2 = 0 then [] else [p])
    by_cases e : p.2 = 0
    · rw [if_pos e]
      trivial
    · rw [if_neg e]
      exact e
  | cons q t =>
    show Red (if p.2 = 0 then q :: t else if q.1 = p.1 then (if q.2 + p.2 = 0 then t else (q.1, q.2 + p.2) :: t) else p :: q :: t)
    by_cases e1 : p.2 = 0
    · rw [if_pos e1]
      exact h
    · rw [if_neg e1]
      by_cases e2 : q.1 = p.1
      · rw [if_pos e2]
        by_cases e3 : q.2 + p.2 = 0
        · rw [if_pos e3]
          exact h.tail
        · rw [if_neg e3]
          exact h.swap e3
      · rw [if_neg e2]
        exact ⟨e1, fun e => e2 e.symm, h⟩
theorem push_zero {x : α} {r : List (α × Int)} : push (x, 0) r = r := by
  cases r with
  | nil => rfl
  | cons q t => rfl
theorem push_push {x : α} {m n : Int} {r : List (α × Int)} (h : Red r) : push (x, n) (push (x, m) r) = push (x, m + n) r := by
  by_cases hm : m = 0
  · subst hm
    rw [push_zero, Int.zero_add]
  by_cases hn : n = 0
  · subst hn
    rw [push_zero, Int.add_zero]
  cases r with
  | nil =>
    have e1 : push (x, m) [] = [(x, m)] := if_neg hm
    rw [e1]
    show (if n = 0 then _ else if x = x then (if m + n = 0 then _ else _) else _) = (if m + n = 0 then _ else _)
    rw [if_neg hn, if_pos rfl]
  | cons q t =>
    by_cases hq : q.1 = x
    · have e1 : push (x, m) (q :: t) = if q.2 + m = 0 then t else (q.1, q.2 + m) :: t := by
        show (if m = 0 then _ else if q.1 = x then _ else _) = _
        rw [if_neg hm, if_pos hq]
      have e2 : push (x, m + n) (q :: t) = if m + n = 0 then q :: t else if q.2 + (m + n) = 0 then t else (q.1, q.2 + (m + n)) :: t := by
        show (if m + n = 0 then _ else if q.1 = x then _ else _) = _
        rw [if_pos hq]
      rw [e1, e2]
      by_cases h0 : q.2 + m = 0
      · rw [if_pos h0]
        have hne : q.2 ≠ 0 := h.head
        by_cases hmn : m + n = 0
        · -- n is q.2 again
          have en : n = q.2 := by omega
          rw [if_pos hmn, en]
          have hq' : q = (x, q.2) := by rw [← hq]
          cases t with
          | nil =>
            show (if q.2 = 0 then _ else [(x, q.2)]) = [q]
            rw [if_neg hne, ← hq']
          | cons u t =>
            show (if q.2 = 0 then _ else if u.1 = x then _ else (x, q.2) :: u :: t) = q :: u :: t
            have hu : ¬ u.1 = x := fun e => h.2.1 (hq.trans e.symm)
            rw [if_neg hne, if_neg hu, ← hq']
        · rw [if_neg hmn]
          have en : q.2 + (m + n) = n := by omega
          rw [en, if_neg hn]
          cases t with
          | nil =>
            show (if n = 0 then _ else [(x, n)]) = [(q.1, n)]
            rw [if_neg hn, hq]
          | cons u t =>
            have hu : ¬ u.1 = x := fun e => h.2.1 (hq.trans e.symm)
            show (if n = 0 then _ else if u.1 = x then _ else (x, n) :: u :: t) = (q.1, n) :: u :: t
            rw [if_neg hn, if_neg hu, hq]
      · rw [if_neg h0]
        show (if n = 0 then _ else if q.1 = x then (if q.2 + m + n = 0 then t else (q.1, q.2 + m + n) :: t) else _) = _
        rw [if_neg hn, if_pos hq]
        have ea : q.2 + m + n = q.2 + (m + n) := by omega
        rw [ea]
        by_cases hmn : m + n = 0
        · rw [if_pos hmn, hmn, Int.add_zero, if_neg h.head]
        · rw [if_neg hmn]
    · have e1 : push (x, m) (q :: t) = (x, m) :: q :: t := by
        show (if m = 0 then _ else if q.1 = x then _ else _) = _
        rw [if_neg hm, if_neg hq]
      rw [e1]
      show (if n = 0 then _ else if x = x then (if m + n = 0 then q :: t else (x, m + n) :: q :: t) else _) = (if m + n = 0 then q :: t else if q.1 = x then _ else (x, m + n) :: q :: t)
      rw [if_neg hn, if_pos rfl]
      by_cases hmn : m + n = 0
      · rw [if_pos hmn, if_pos hmn]
      · rw [if_neg hmn, if_neg hmn, if_neg hq]
/-- a row, and more runs behind it, the first one ahead -/
def joint (r : List (α × Int)) (l : List (α × Int)) : List (α × Int) := l.foldl (fun r p => push p r) r
theorem joint_app (r l k : List (α × Int)) : joint r (l ++ k) = joint (joint r l) k := List.foldl_append
theorem red_joint : ∀ {l r : List (α × Int)}, Red r → Red (joint r l)
  | [], _, h => h
  | p :: l, _, h => red_joint (l := l) (red_push h)
theorem joint_push {r c : List (α × Int)} (h : Red r) (hc : Red c) (p : α × Int) : joint r (push p c).reverse = push p (joint r c.reverse) := by
  obtain ⟨x, n⟩ := p
  by_cases hn : n = 0
  · subst hn
    rw [push_zero, push_zero]
  cases c with
  | nil =>
    have e : push (x, n) [] = [(x, n)] := if_neg hn
    rw [e]
    rfl
  | cons q t =>
    have ht : Red (joint r t.reverse) := red_joint h
    have er : joint r (q :: t).reverse = push q (joint r t.reverse) := by
      rw [List.reverse_cons, joint_app]
      rfl
    rw [er]
    by_cases hq : q.1 = x
    · have e1 : push (x, n) (q :: t) = if q.2 + n = 0 then t else (q.1, q.2 + n) :: t := by
        show (if n = 0 then _ else if q.1 = x then _ else _) = _
        rw [if_neg hn, if_pos hq]
      have eq' : q = (x, q.2) := by rw [← hq]
      have ep : push (x, n) (push q (joint r t.reverse)) = push (x, q.2 + n) (joint r t.reverse) := by
        rw [eq']
        exact push_push ht
      rw [e1, ep]
      by_cases h0 : q.2 + n = 0
      · rw [if_pos h0, h0, push_zero]
      · rw [if_neg h0, List.reverse_cons, joint_app, hq]
        rfl
    · have e1 : push (x, n) (q :: t) = (x, n) :: q :: t := by
        show (if n = 0 then _ else if q.1 = x then _ else _) = _
        rw [if_neg hn, if_neg hq]
      rw [e1, List.reverse_cons, joint_app, er]
      rfl
/-- what comes of a row of runs does the same as the row -/
theorem joint_joint {r : List (α × Int)} (h : Red r) : ∀ {l c : List (α × Int)}, Red c → joint r (joint c l).reverse = joint (joint r c.reverse) l
  | [], _, _ => rfl
  | p :: l, c, hc => by
    show joint r (joint (push p c) l).reverse = joint (push p (joint r c.reverse)) l
    rw [joint_joint h (red_push hc), joint_push h hc]
/-- a row that is put together is itself -/
theorem joint_self : ∀ {r : List (α × Int)}, Red r → joint [] r.reverse = r
  | [], _ => rfl
  | [p], h => if_neg h
  | p :: q :: t, h => by
    rw [List.reverse_cons, joint_app, joint_self h.tail]
    show (if p.2 = 0 then _ else if q.1 = p.1 then _ else p :: q :: t) = _
    rw [if_neg h.1, if_neg fun e => h.2.1 e.symm]
/-- the opposite exponents -/
def neg (l : List (α × Int)) : List (α × Int) := l.map fun p => (p.1, -p.2)
theorem joint_neg {r : List (α × Int)} (h : Red r) : ∀ c : List (α × Int), joint (joint r c.reverse) (neg c) = r
  | [] => rfl
  | p :: t => by
    rw [List.reverse_cons, joint_app]
    show joint (push (p.1, -p.2) (push p (joint r t.reverse))) (neg t) = r
    have e : push (p.1, -p.2) (push p (joint r t.reverse)) = joint r t.reverse := by
      have := push_push (x := p.1) (m := p.2) (n := -p.2) (red_joint (l := t.reverse) h)
      rw [Int.add_right_neg, push_zero] at this
      exact this
    rw [e]
    exact joint_neg h t
theorem joint_neg' {r : List (α × Int)} (h : Red r) : ∀ c : List (α × Int), joint (joint r (neg c)) c.reverse = r
  | c => by
    have e : neg (neg c).reverse = c.reverse := by
      unfold neg
      rw [List.map_reverse, List.map_map]
      have : ((fun p : α × Int => (p.1, -p.2)) ∘ fun p : α × Int => (p.1, -p.2)) = id := funext fun p => by simp
      rw [this, List.map_id]
    have := joint_neg h (neg c).reverse
    rw [List.reverse_reverse, e] at this
    exact this
theorem red_neg_rev : ∀ {c : List (α × Int)}, Red c → Red (neg c).reverse := by
  intro c hc
  have : ∀ (c acc : List (α × Int)), Red c → Red acc → (∀ p q, c.head? = some p → acc.head? = some q → p.1 ≠ q.1) → Red ((neg c).reverseAux acc) := by
    intro c
    induction c with
    | nil => intro acc _ h _; exact h
    | cons p t ih =>
      intro acc h1 h2 h3
      refine ih ((p.1, -p.2) :: acc) h1.tail ?_ ?_
      · have hp : -p.2 ≠ 0 := by
          have := h1.head
          omega
        cases acc with
        | nil => exact hp
        | cons q acc => exact ⟨hp, h3 p q rfl rfl, h2⟩
      · intro u q hu hq
        cases hq
        cases t with
        | nil => cases hu
        | cons v t =>
          cases hu
          exact fun e => h1.2.1 e.symm
  exact this c [] hc trivial fun p q _ h => by cases h
/-! the group of all rows that are put together -/
/-- one word, another one behind it -/
def mul (a b : List (α × Int)) : List (α × Int) := joint a b.reverse
def inv (a : List (α × Int)) : List (α × Int) := (neg a).reverse
theorem red_mul {a b : List (α × Int)} (h : Red a) : Red (mul a b) := red_joint h
theorem red_inv {a : List (α × Int)} (h : Red a) : Red (inv a) := red_neg_rev h
theorem mul_assoc {a b c : List (α × Int)} (ha : Red a) (hb : Red b) : mul (mul a b) c = mul a (mul b c) := (joint_joint ha hb).symm
theorem mul_nil (a : List (α × Int)) : mul a [] = a := rfl
theorem nil_mul {a : List (α × Int)} (h : Red a) : mul [] a = a := joint_self h
theorem mul_inv {a : List (α × Int)} (h : Red a) : mul a (inv a) = [] := by
  unfold mul inv
  rw [List.reverse_reverse]
  have := joint_neg (r := ([] : List (α × Int))) trivial a
  rw [joint_self h] at this
  exact this
theorem inv_mul {a : List (α × Int)} (h : Red a) : mul (inv a) a = [] := by
  have e := joint_neg' (r := ([] : List (α × Int))) trivial a
  have : joint [] (neg a) = inv a := by
    have := joint_self (red_inv h)
    unfold inv at this ⊢
    rw [List.reverse_reverse] at this
    exact this
  rw [this] at e
  exact e
end Wm

set_option Elab.async false
set_option linter.all false
set_option maxRecDepth 100000
set_option maxHeartbeats 3200000
/-! a tuple backwards: t[::-1] -/
namespace K4
open PySem PySem.Spec PyProof.Rows L2 Tx Tg Tm
theorem back_adjust (n : Nat) : Builtin.Slice.sliceAdjust none none (-1) (n : Int) = ((n : Int) - 1, -1) := rfl
theorem back_places (n : Nat) : Builtin.Slice.slicePlaces ((n : Int) - 1) (-1) (-1) = n := by
  show (if (-1 : Int) > 0 then _ else (if (n : Int) - 1 > -1 then ((n : Int) - 1 - -1 - 1) / (- -1) + 1 else 0)).toNat = n
  rw [if_neg (by decide)]
  by_cases h : (n : Int) - 1 > -1
  · rw [if_pos h]
    have e : ((n : Int) - 1 - -1 - 1) / (- -1) = (n : Int) - 1 := by
      rw [show (- -1 : Int) = 1 by decide, Int.ediv_one]
      omega
    rw [e]
    omega
  · rw [if_neg h]
    omega
theorem fm_congr {α β : Type} {f g : α → Option β} : ∀ {l : List α}, (∀ x ∈ l, f x = g x) → l.filterMap f = l.filterMap g
  | [], _ => rfl
  | x :: l, h => by
    rw [List.filterMap_cons, List.filterMap_cons, h x List.mem_cons_self, fm_congr fun y hy => h y (List.mem_cons_of_mem _ hy)]
theorem back_pick (xs : Array Value) : ((List.range xs.size).filterMap fun (k : Nat) => xs[((xs.size : Int) - 1 + (k : Int) * -1).toNat]?).toArray = xs.toList.reverse.toArray := by
  have e : (List.range xs.size).filterMap (fun (k : Nat) => xs[((xs.size : Int) - 1 + (k : Int) * -1).toNat]?) = (List.range xs.size).reverse.filterMap (xs[·]?) := by
    rw [← PySem.W.krv_range, List.filterMap_map]
    refine fm_congr fun k hk => ?_
    have := List.mem_range.mp hk
    have en : ((xs.size : Int) - 1 + (k : Int) * -1).toNat = xs.size - 1 - k := by omega
    show xs[_]? = xs[xs.size - 1 - k]?
    rw [en]
  rw [e, List.filterMap_reverse, PySem.W.krv_all]
section
variable {prog : Program} {w : World} {A : Around} {E : Value → Shared → Prop} {s : Shared}
theorem tup_back {t sl : Addr} {items : Array Value} {vs : Value} {Q : Value → Shared → Prop} (ht : IsTup s.heap t items) (hs : s.heap.IsSliceOf sl .none .none vs) (ps : IsPart vs (some (-1))) (hsz : items.size ≤ sizeLine)
    (h : Q (.ref s.heap.objs.size) { s with heap := s.heap.push { cls := .type "tuple", data := .seq items.toList.reverse.toArray } }) : wpAny (model prog w) A (getItem (.ref t) (.ref sl)) Q E s := by
  obtain ⟨os, hos, hcs, hds⟩ := id hs
  have tS : s.TypeIs (.ref sl) "slice" := ⟨os, hos, hcs⟩
  have big : sizeOk (.seq items.toList.reverse.toArray) := by
    show items.toList.reverse.toArray.size ≤ sizeLine
    rw [List.size_toArray, List.length_reverse, Array.length_toList]
    exact hsz
  have applied : ∀ {R : Int × Int × Nat → Shared → Prop} {E' : Value → Shared → Prop} {B : Around}, R ((items.size : Int) - 1, -1, items.size) s → wpAny (model prog w) B (Builtin.Slice.sliceApplied (.ref sl) (pure (items.size : Int))) R E' s := by
    intro R E' B hR
    unfold Builtin.Slice.sliceApplied Builtin.Slice.sliceFields
    refine wpAny_bind (wpAny_bind (wpAny_field hos hds (x := .none) rfl (wpAny_bind (wpAny_field hos hds (x := .none) rfl (wpAny_bind (wpAny_field hos hds (x := vs) rfl (wpAny_pure ?_)))))))
    refine wpAny_bind (HT.slicePart_ ps ?_)
    show wpAny _ _ (if ((-1 : Int) == 0) = true then _ else _) _ _ s
    rw [if_neg (by decide)]
    refine wpAny_bind (HT.slicePart_ .none (wpAny_bind (HT.slicePart_ .none (wpAny_bind (wpAny_pure ?_)))))
    show wpAny _ _ (match Builtin.Slice.sliceAdjust none none (-1) (items.size : Int) with | (lo, hi) => pure (lo, (-1 : Int), Builtin.Slice.slicePlaces lo hi (-1))) _ _ s
    rw [back_adjust]
    show wpAny _ _ (pure ((items.size : Int) - 1, (-1 : Int), Builtin.Slice.slicePlaces ((items.size : Int) - 1) (-1) (-1))) _ _ s
    rw [back_places]
    exact wpAny_pure hR
  unfold getItem
  try with_reducible refine wpAny_holding ?_
  first | refine wpAny_bind (wpAny_pure ?_) | skip
  refine wpAny_bind (wpAny_sequenceKey ht.typeIs (by decide) (wpAny_bind (wpAny_callSpecial?_slot (name := Str.ofString "__getitem__") ht.typeIs PyProof.Rows.slot_tuple_getitem
    (wpAny_call_entry PyProof.Rows.slot_tuple_getitem ht.typeIs entry_tuple_getitem ?_ (args_tuple_getitem _ _)))))
  show wpAny _ _ (Builtin.Tuple.tupleItemsOf (.ref t) >>= _) _ _ s
  refine wpAny_bind (tupleItemsOf_ ht (wpAny_bind (wpAny_typeOf tS ?_)))
  rw [if_pos (by decide)]
  refine wpAny_bind (applied ?_)
  have no : ¬ ((((items.size : Int) - 1) == 0 && (-1 : Int) == 1 && items.size == items.size) = true) := by
    rw [Bool.and_eq_true, Bool.and_eq_true]
    exact fun q => absurd q.1.2 (by decide)
  show wpAny _ _ (if (((items.size : Int) - 1) == 0 && (-1 : Int) == 1 && items.size == items.size) = true then _ else _) _ _ s
  rw [if_neg no, back_pick]
  first
    | exact wpAny_bind (m := Builtin.Tuple.tupleExact _) (wpAny_newObj_type (wpAny_pure ⟨_, rfl, wpAny_pure h⟩) big)
    | exact wpAny_bind (m := Builtin.Tuple.tupleExact _) (wpAny_newObj_type (wpAny_bind (wpAny_pure (wpAny_pure ⟨_, rfl, wpAny_pure h⟩))) big)
    | exact wpAny_bind (wpAny_bind (m := Builtin.Tuple.tupleExact _) (wpAny_newObj_type (wpAny_pure (wpAny_pure ⟨_, rfl, wpAny_pure h⟩)) big))
    | exact wpAny_bind (wpAny_bind (m := Builtin.Tuple.tupleExact _) (wpAny_newObj_type (wpAny_pure ⟨_, rfl, wpAny_pure h⟩) big))
end
section
variable {X : Cx}
def tBackT (K : PySem.W.Frag) (te : TE) : TE := fun σ H Q => te σ H fun x H1 => ∃ a xs, x = .ref a ∧ SqT K H1 a xs ∧ ∀ p, H1 p = none → Q (.ref p) (upd H1 p (.tup xs.reverse))
theorem pe_backT {e : Expr} {te : TE} {k : Nat} {p1 p2 p3 pos : Pos} (he : PE X e te) : PE X (.Subscript e (.Slice none none (some (.UnaryOp .USub (.Constant (.int 1) k p1) p2)) p3) pos) (tBackT X.K te) := by
  refine ⟨fun pins s σ H Q I h => Subscript_ (thn (he.run pins s σ H _ I h) fun v s1 ⟨x, H1, I1, r1, a, xs, ex, hx, q⟩ => ?_)⟩
  subst ex
  cases r1
  have minus : PO X (some (.UnaryOp .USub (.Constant (.int 1) k p1) p2)) (tPart (tUn (rU fun i => .int (-i)) (tC (.int 1)))) := po_some (pe_un un_neg pe_int)
  refine wpAny_Slice (thn (po_none.run pins s1 σ H1 (fun o H2 => o = none ∧ H2 = H1) I1 ⟨rfl, rfl⟩) fun vl s2 ⟨l, H2, I2, pl, el, e2⟩ => ?_)
  subst el e2
  refine thn (po_none.run pins s2 σ H2 (fun o H3 => o = none ∧ H3 = H2) I2 ⟨rfl, rfl⟩) fun vu s3 ⟨u, H3, I3, pu, eu, e3⟩ => ?_
  subst eu e3
  refine thn (minus.run pins s3 σ H3 (fun o H4 => o = some (-1) ∧ H4 = H3) I3 ⟨1, rfl, -1, rfl, rfl, rfl⟩) fun vs s4 ⟨o, H4, I4, ps, eo, e4⟩ => ?_
  subst eo e4
  have I5 : Inv X pins σ H4 { s4 with heap := s4.heap.push { cls := .type "slice", data := .fields #[vl, vu, vs] } } := I4.kept (t' := s4.toks) fun b ob q => Heap.get?_push_of_some _ q
  obtain ⟨its, r, ht, hz⟩ := I5.tuple hx
  have hlen := r.length
  cases pl
  cases pu
  show wpAny (model X.prog X.w) X.A (subscriptTail e (.Slice none none (some (.UnaryOp .USub (.Constant (.int 1) k p1) p2)) p3) (.ref a) (.ref s4.heap.objs.size)) (EP X pins σ Q) X.xe { s4 with heap := s4.heap.push { cls := .type "slice", data := .fields #[.none, .none, vs] } }
  refine tail_any (ops := [.ref a, .ref s4.heap.objs.size]) ht.typeIs PyProof.Rows.slot_tuple_getitem.lookup ?_ (by with_unfolding_all rfl)
  refine tup_back ht (Heap.IsSliceOf.new _ .none .none vs) ps (by rw [List.size_toArray]; omega) ?_
  refine ⟨.ref _, _, I5.laid (t' := s4.toks) (o := .tup xs.reverse) (fun b ob q => Heap.get?_push_of_some _ q) (Nat.le_refl _) ?_, rfl, q _ (I5.hok.fresh (Nat.le_refl _))⟩
  exact ⟨by rw [List.length_reverse]; exact hz, _, r.reverse, IsTup.new _ _⟩
end
end K4

set_option Elab.async false
set_option linter.all false
set_option maxRecDepth 100000
set_option maxHeartbeats 12800000
namespace K24
open PySem L2 Tx Tg Tm Da RZ Ek It2
/-! ### values near a merge -/
abbrev sNr : Stmt := top 68
abbrev nNr : List Str := ["_law_cup_here", "_law_plain", "_law_due", "_law_signs_here", "_law_one", "_law_other", "_law_sign", "_law_odd"]
theorem scNr : FnScope nNr ["_law_cup_here", "_law_plain", "_law_due"] (defScope sNr) := ⟨rfl, rfl, rfl, by decide +kernel, rfl, by decide +kernel, by decide +kernel⟩
def EvI (H0 : Hp) (te : TE) (σ : L2.St) (a : It1) : Prop := ∀ H, Same H0 H → ∀ Q : VK, Q (itV a) H → te σ H Q
def EvIs (H0 : Hp) (ta : TA) (σ : L2.St) (as : List It1) : Prop := ∀ H, Same H0 H → ∀ Q : List V → Hp → Prop, Q (as.map itV) H → ta σ H Q
def EvN (H0 : Hp) (te : TE) (σ : L2.St) (x : NV) : Prop := ∀ H, Same H0 H → ∀ Q : VK, (∀ v H', Same H H' → NvAt H' v x → Q v H') → te σ H Q
def NvL (H : Hp) (vs : List V) (xs : List NV) : Prop := PySem.W.EachIs (fun v x => NvAt H v x) vs xs
def EvL (H0 : Hp) (ta : TA) (σ : L2.St) (xs : List NV) : Prop := ∀ H, Same H0 H → ∀ Q : List V → Hp → Prop, (∀ vs H', Same H H' → NvL H' vs xs → Q vs H') → ta σ H Q
section
variable {H0 : Hp} {σ : L2.St}
theorem NvL.same {H H' : Hp} {vs : List V} {xs : List NV} (s : Same H H') (h : NvL H vs xs) : NvL H' vs xs := PySem.W.EachIs.mono (fun _ _ e => NvAt.same s e) h
theorem evis_nil : EvIs H0 tNil σ [] := fun H s Q q => q
theorem evis_cons {t : TE} {ta : TA} {a : It1} {as : List It1} (h : EvI H0 t σ a) (k : EvIs H0 ta σ as) : EvIs H0 (tCons t ta) σ (a :: as) := fun H s Q q => h H s _ (k H s _ q)
theorem evi_s {z : Str} : EvI H0 (tC (.str z)) σ (.s z) := fun H s Q q => q
theorem evi_n : EvI H0 (tC .non) σ .n := fun H s Q q => q
theorem evi_v {i : Nat} {z : Str} (h : σ[i]? = some (some (.str z))) : EvI H0 (tVar i) σ (.s z) := fun H s Q q => ⟨_, h, q⟩
theorem evi_add {t1 t2 : TE} {y z : Str} (h1 : EvI H0 t1 σ (.s y)) (h2 : EvI H0 t2 σ (.s z)) (hl : y.length + z.length ≤ 4000) : EvI H0 (tOp (fun x y H Q => ∃ i j, x = .str i ∧ y = .str j ∧ i.length + j.length ≤ sizeLine ∧ Q (.str (i ++ j)) H) t1 t2) σ (.s (y ++ z)) := fun H s Q q =>
  h1 H s _ (h2 H s _ ⟨y, z, rfl, rfl, Nat.le_trans hl (by decide), q⟩)
theorem evn_tup {ta : TA} {as : List It1} (h : EvIs H0 ta σ as) (l : as.length ≤ 10) : EvN H0 (tTup ta) σ (.tup as) := fun H s Q q => h H s _ ⟨by rw [List.length_map]; exact Nat.le_trans l (by decide), fun p np => q _ _ (same_upd np) ⟨p, rfl, upd_same⟩⟩
theorem evn_lst {ta : TA} {as : List It1} (h : EvIs H0 ta σ as) (l : as.length ≤ 10) : EvN H0 (tLst ta) σ (.lst as) := fun H s Q q => h H s _ ⟨by rw [List.length_map]; exact Nat.le_trans l (by decide), fun p np => q _ _ (same_upd np) ⟨p, rfl, upd_same⟩⟩
theorem evn_non : EvN H0 (tC .non) σ .non := fun H s Q q => q _ _ (Same.refl _) rfl
theorem evn_int {i : Int} : EvN H0 (tC (.int i)) σ (.int i) := fun H s Q q => q _ _ (Same.refl _) rfl
theorem evl_nil : EvL H0 tNil σ [] := fun H s Q q => q _ _ (Same.refl _) .nil
theorem evl_cons {t : TE} {ta : TA} {x : NV} {xs : List NV} (h : EvN H0 t σ x) (k : EvL H0 ta σ xs) : EvL H0 (tCons t ta) σ (x :: xs) := fun H s Q q =>
  h H s _ fun v H1 s1 hv => k H1 (s.trans s1) _ fun vs H2 s2 hvs => q _ _ (s1.trans s2) (.cons (hv.same s2) hvs)
end
/-- a list of values -/
def OddAt (H : Hp) (D : Addr) (xs : List NV) : Prop := ∃ vs, H D = some (.lst vs) ∧ NvL H vs xs
theorem OddAt.same {H H' : Hp} {D : Addr} {xs : List NV} (s : Same H H') (h : OddAt H D xs) : OddAt H' D xs := let ⟨vs, e, n⟩ := h; ⟨vs, s _ _ e, n.same s⟩
def EvO (H0 : Hp) (te : TE) (σ : L2.St) (xs : List NV) : Prop := ∀ H, Same H0 H → ∀ Q : VK, (∀ D H', H D = none → Same H H' → OddAt H' D xs → Q (.ref D) H') → te σ H Q
theorem none_of {H H' : Hp} {D : Addr} (s : Same H H') (n : H' D = none) : H D = none := by
  cases e : H D with
  | none => rfl
  | some o => rw [s _ _ e] at n; cases n
theorem evo_lst {H0 : Hp} {σ : L2.St} {ta : TA} {xs : List NV} (h : EvL H0 ta σ xs) (l : xs.length ≤ 50) : EvO H0 (tLst ta) σ xs := fun H s Q q => h H s _ fun vs H1 s1 hvs => ⟨by rw [hvs.length]; exact Nat.le_trans l (by decide), fun D nD => q D _ (none_of s1 nD) (s1.trans (same_upd nD)) ⟨vs, upd_same, hvs.same (same_upd nD)⟩⟩
theorem evo_cat {H0 : Hp} {σ : L2.St} {ta : TA} {i : Nat} {D : Addr} {xs ys : List NV} (hi : σ[i]? = some (some (.ref D))) (o : OddAt H0 D xs) (h : EvL H0 ta σ ys) (l : (xs ++ ys).length ≤ 50) : EvO H0 (tOp rCat (tVar i) (tLst ta)) σ (xs ++ ys) := fun H s Q q => by
  rw [List.length_append] at l
  refine ⟨_, hi, h H s _ fun vs H1 s1 hvs => ⟨by rw [hvs.length]; exact Nat.le_trans (show ys.length ≤ 50 by omega) (by decide), fun B nB => ?_⟩⟩
  obtain ⟨us, eD, hus⟩ := o.same (s.trans s1)
  have sB := same_upd (o := .lst vs) nB
  refine ⟨D, B, us, vs, rfl, rfl, sB _ _ eD, upd_same, by rw [hus.length, hvs.length]; exact Nat.le_trans l (by decide), fun p np => ?_⟩
  have sp := same_upd (o := .lst (us ++ vs)) np
  exact q p _ (none_of (s1.trans sB) np) ((s1.trans sB).trans sp) ⟨_, upd_same, each_app ((hus.same sB).same sp) ((hvs.same sB).same sp)⟩
def odd1 (s o t : Str) : List NV := [.tup [.s s, .s o, .s t], .tup [.s s, .s o, .s t], .tup [.s s, .s o, .s t], .tup [.s s, .s o, .s o], .lst [.s s, .s o, .s t], .tup [.s s, .s o], .non, .tup [], .int 0, .tup [.s o, .s t, .s s]]
def odd2 (sg s o t : Str) : List NV := [.tup [.s "", .s o, .s t], .tup [.s (sg ++ sg), .s o, .s t], .tup [.s "Z", .s o, .s t], .tup [.s s, .s o, .n], .tup [.s s, .s o, .s (Txt.upper t ++ "A")], .tup [.s s, .s o, .s t, .s ""], .dct]
def odd3 (s o l a b : Str) : List NV := [.tup [.s l, .s a, .s b], .tup [.s l, .s a, .s b], .tup [.s l, .s b, .s a], .tup [.s b, .s a, .s l], .tup [.s l, .s a, .s a], .tup [.s l, .s (a ++ o), .s (b ++ o)], .tup [.s l, .s (a ++ s), .s b]]
def odd4 (s l a b : Str) : List NV := [.tup [.s s, .s a, .s b], .lst [.s l, .s a, .s b], .tup [.s l, .s a, .s b, .s ""]]
theorem ok_odd1 {s o t : Str} (hs : Fine s) (ho : Fine o) (ht : Fine t) : ∀ x ∈ odd1 s o t, okNv x := by simp [odd1, okNv, okIt, hs, ho, ht]
theorem ok_odd2 {sg s o t : Str} (hs : Fine s) (ho : Fine o) (ht : Fine t) (hg : Fine (sg ++ sg)) (hu : Fine (Txt.upper t ++ "A")) (he : Fine "") (hz : Fine "Z") : ∀ x ∈ odd2 sg s o t, okNv x := by simp [odd2, okNv, okIt, hs, ho, ht, hg, hu, he, hz]
theorem ok_odd3 {s o l a b : Str} (hl : Fine l) (ha : Fine a) (hb : Fine b) (h1 : Fine (a ++ o)) (h2 : Fine (b ++ o)) (h3 : Fine (a ++ s)) : ∀ x ∈ odd3 s o l a b, okNv x := by simp [odd3, okNv, okIt, hl, ha, hb, h1, h2, h3]
theorem ok_odd4 {s l a b : Str} (hs : Fine s) (hl : Fine l) (ha : Fine a) (hb : Fine b) (he : Fine "") : ∀ x ∈ odd4 s l a b, okNv x := by simp [odd4, okNv, okIt, hs, hl, ha, hb, he]
theorem mg_but {K : PySem.W.Frag} {H H' : Hp} {c : Addr} {v : V} {ts : List (List Nat)} (hc : Cup H c) (b : But c H H') : ∀ {o : Option (Nat × Nat × Nat)}, MgAt K H v ts o → MgAt K H' v ts o
  | none, h => h
  | some (_, _, _), ⟨p, e, h⟩ => ⟨p, e, by
    obtain ⟨_, _, _, ec⟩ := hc
    exact b _ _ (fun z => by rw [z, ec] at h; cases h) h⟩
theorem NvAt.but {H H' : Hp} {c : Addr} {v : V} (hc : Cup H c) (b : But c H H') : ∀ {x : NV}, NvAt H v x → NvAt H' v x
  | .tup _, ⟨p, e, h⟩ => ⟨p, e, by
    obtain ⟨_, _, _, ec⟩ := hc
    exact b _ _ (fun z => by rw [z, ec] at h; cases h) h⟩
  | .lst l, ⟨p, e, h⟩ => ⟨p, e, by
    obtain ⟨_, _, _, ec⟩ := hc
    refine b _ _ (fun z => ?_) h
    rw [z, ec] at h
    have h := Option.some.inj h
    injection h with h
    cases l with
    | nil => cases h
    | cons a l => cases a <;> cases h⟩
  | .non, h => h
  | .int _, h => h
  | .dct, ⟨p, e, h⟩ => ⟨p, e, by
    obtain ⟨_, _, _, ec⟩ := hc
    exact b _ _ (fun z => by rw [z, ec] at h; cases h) h⟩
theorem small_fine {z : Str} (hl : z.length ≤ 60) (pl : ∀ c ∈ cds z, c < 128) : Fine z := ⟨by omega, by
  have h1 := (ups_perm (cds z)).length_eq
  rw [← h1]
  have h2 : (ups (cds z)).length ≤ (cds z).length := Pm.len_le (ups_nodup (cds z)) fun c hc => (ups_mem _ c).mp hc
  rw [cds_len] at h2
  omega, pl⟩
/-- capitals -/
def up1 (c : Nat) : Nat := if 97 ≤ c ∧ c ≤ 122 then c - 32 else c
theorem upper_tx : ∀ l : List Nat, (∀ c ∈ l, c < 128) → Txt.upper (tx l) = tx (l.map up1)
  | [], _ => by decide +kernel
  | c :: l, h => by
    have e : tx (c :: l) = tx [c] ++ tx l := by rw [tx_app]; rfl
    rw [e, PySem.W.KOpn.upper_app, upper_tx l fun d hd => h d (List.mem_cons_of_mem _ hd), show Txt.upper (tx [c]) = tx [up1 c] from PySem.W.KOpn.upper_one (h c List.mem_cons_self), tx_app]
    rfl
theorem upper_plain (n : Nat) (z : Str) (hn : z.length = n) (h : ∀ c ∈ cds z, c < 128) : (∀ c ∈ cds (Txt.upper z), c < 128) ∧ (Txt.upper z).length = n := by
  have e : z = tx (cds z) := cds_ext rfl
  rw [e, upper_tx _ h]
  constructor
  · intro c hc
    have hc : c ∈ (cds z).map up1 := hc
    obtain ⟨d, hd, rfl⟩ := List.mem_map.mp hc
    have := h d hd
    unfold up1
    split <;> omega
  · rw [tx_len, List.length_map, cds_len, hn]
section
variable {P : Program} {w : World} {K : PySem.W.Frag} {mg : Str → Option Value} {base : Heap} {CC : Addr}
def spNr (K : PySem.W.Frag) : Sp := fun vs H Q _ => ∃ (c p : Addr) (r R : Rdr) (ts : List (List Nat)) (v : V), vs = [.ref c, .ref p, v] ∧ Cup H c ∧ PlainAt H p r ∧ R.sg = r.sg ∧ okR R ∧ ts.length = R.n ∧ (∀ t ∈ ts, (∀ y ∈ t, y ∈ cds r.sg) ∧ t.length ≤ 60) ∧ MgAt K H v ts (fMerge R) ∧ ∀ v' x H', NvAt H' v' x → okNv x → Cup H' c → But c H H' → Q v' H'
theorem ok_nr {f fL fP fB : Addr} {fd dL dP dB : FuncData} (F : Fun K "_law_near" "_law_near" sNr f fd) (T : Txt K mg) (DL : Df K mg "_law_line" sLine ["_law_cup_here", "_law_signs_here", "_law_most"] fL dL) (DP : Df K mg "_law_pick" sPick ["_law_cup_here", "_law_items"] fP dP) (DB : Df K mg "_law_bit" sBit ["_law_cup_here", "_law_much"] fB dB) : FnOk P w K mg base CX0 4 f fd ["_law_cup_here", "_law_plain", "_law_due"] (spNr K) := by
  have GL := ok_line (P := P) (w := w) (base := base) DL.F T DB DP
  have GP := ok_pick (P := P) (w := w) (base := base) DP.F T DB
  refine F.ok scNr (fun vs H Q E h => ?_) (fun cdv A outer s0 H vs Q E hr h => ?_)
  · obtain ⟨c, p, r, R, ts, v, rfl, _⟩ := h
    rfl
  · obtain ⟨c, p, r, R, ts, v, rfl, hc, hp, esg, okR, lts, hts, hv, q⟩ := h
    have hu := hu_of hr
    refine ⟨_, (pss_cons (ps_set (i := 3) scNr.nd rfl (Or.inl rfl) (pe_dget hu (pv 1) pe_str (fun _ _ => rfl)))
    (pss_cons (ps_par (i := 4) (j := 5) (by rfl) scNr.nd rfl rfl (by decide) rfl rfl (pa_cons (pe_call GL (hr.mono (by decide)) (by rfl) DL.m DL.F.kp DL.b .nil pass0 (pa_cons (pv 0) (pa_cons (pv 3) (pa_cons pe_int pa_nil)))) (pa_cons (pe_call GL (hr.mono (by decide)) (by rfl) DL.m DL.F.kp DL.b .nil pass0 (pa_cons (pv 0) (pa_cons (pv 3) (pa_cons pe_int pa_nil)))) pa_nil)) (by rfl))
    (pss_cons (ps_set (i := 6) scNr.nd rfl (Or.inl rfl) (pe_call GP (hr.mono (by decide)) (by rfl) DP.m DP.F.kp DP.b .nil pass0 (pa_cons (pv 0) (pa_cons (pv 3) pa_nil))))
    (pss_cons (ps_set (i := 7) scNr.nd rfl (Or.inl rfl) (pe_lst (pa_cons (pe_tup (pa_cons (pv 6) (pa_cons (pv 4) (pa_cons (pv 5) pa_nil)))) (pa_cons (pe_tup (pa_cons (pv 6) (pa_cons (pv 4) (pa_cons (pv 5) pa_nil)))) (pa_cons (pe_tup (pa_cons (pv 6) (pa_cons (pv 4) (pa_cons (pv 5) pa_nil)))) (pa_cons (pe_tup (pa_cons (pv 6) (pa_cons (pv 4) (pa_cons (pv 4) pa_nil)))) (pa_cons (pe_lst (pa_cons (pv 6) (pa_cons (pv 4) (pa_cons (pv 5) pa_nil)))) (pa_cons (pe_tup (pa_cons (pv 6) (pa_cons (pv 4) pa_nil))) (pa_cons pe_non (pa_cons (pe_tup pa_nil) (pa_cons pe_int (pa_cons (pe_tup (pa_cons (pv 4) (pa_cons (pv 5) (pa_cons (pv 6) pa_nil)))) pa_nil))))))))))))
    (pss_cons (ps_set (i := 7) scNr.nd rfl (Or.inl rfl) (pe_op op_cat (pv 7) (pe_lst (pa_cons (pe_tup (pa_cons pe_str (pa_cons (pv 4) (pa_cons (pv 5) pa_nil)))) (pa_cons (pe_tup (pa_cons (pe_op op_add_str (pv 3) (pv 3)) (pa_cons (pv 4) (pa_cons (pv 5) pa_nil)))) (pa_cons (pe_tup (pa_cons pe_str (pa_cons (pv 4) (pa_cons (pv 5) pa_nil)))) (pa_cons (pe_tup (pa_cons (pv 6) (pa_cons (pv 4) (pa_cons pe_non pa_nil)))) (pa_cons (pe_tup (pa_cons (pv 6) (pa_cons (pv 4) (pa_cons (pe_op op_add_str (pe_bm0 PySem.F.plainAttrs_str PySem.F.slot_str_upper PySem.F.type_str_upper mt_upper (pv 5)) pe_str) pa_nil)))) (pa_cons (pe_tup (pa_cons (pv 6) (pa_cons (pv 4) (pa_cons (pv 5) (pa_cons pe_str pa_nil))))) (pa_cons pe_dnewK pa_nil))))))))))
    (pss_cons (ps_if (pt_cmpR op_notN (pv 2) pe_non (nomark _)) (pss_cons (ps_set (i := 7) scNr.nd rfl (Or.inl rfl) (pe_op op_cat (pv 7) (pe_lst (pa_cons (pv 2) (pa_cons (pv 2) (pa_cons (pe_tup (pa_cons (pe_ix ix_tup (pv 2) pe_int (fun _ _ => rfl)) (pa_cons (pe_ix ix_tup (pv 2) pe_int (fun _ _ => rfl)) (pa_cons (pe_ix ix_tup (pv 2) pe_int (fun _ _ => rfl)) pa_nil)))) (pa_cons (K4.pe_backT (pv 2)) (pa_cons (pe_tup (pa_cons (pe_ix ix_tup (pv 2) pe_int (fun _ _ => rfl)) (pa_cons (pe_ix ix_tup (pv 2) pe_int (fun _ _ => rfl)) (pa_cons (pe_ix ix_tup (pv 2) pe_int (fun _ _ => rfl)) pa_nil)))) (pa_cons (pe_tup (pa_cons (pe_ix ix_tup (pv 2) pe_int (fun _ _ => rfl)) (pa_cons (pe_op op_add_str (pe_ix ix_tup (pv 2) pe_int (fun _ _ => rfl)) (pv 4)) (pa_cons (pe_op op_add_str (pe_ix ix_tup (pv 2) pe_int (fun _ _ => rfl)) (pv 4)) pa_nil)))) (pa_cons (pe_tup (pa_cons (pe_ix ix_tup (pv 2) pe_int (fun _ _ => rfl)) (pa_cons (pe_op op_add_str (pe_ix ix_tup (pv 2) pe_int (fun _ _ => rfl)) (pv 6)) (pa_cons (pe_ix ix_tup (pv 2) pe_int (fun _ _ => rfl)) pa_nil)))) pa_nil))))))))))
      (pss_one (ps_set (i := 7) scNr.nd rfl (Or.inl rfl) (pe_op op_cat (pv 7) (pe_lst (pa_cons (pe_tup (pa_cons (pv 6) (pa_cons (pe_ix ix_tup (pv 2) pe_int (fun _ _ => rfl)) (pa_cons (pe_ix ix_tup (pv 2) pe_int (fun _ _ => rfl)) pa_nil)))) (pa_cons (pe_callTy call_list_of (by rfl) T.list (by decide +kernel) (pa_cons (pv 2) pa_nil)) (pa_cons (pe_op op_catA (pv 2) (pe_tup (pa_cons pe_str pa_nil))) pa_nil)))))))) pss_nil)
    (pss_one (ps_ret (pe_call GP (hr.mono (by decide)) (by rfl) DP.m DP.F.kp DP.b .nil pass0 (pa_cons (pv 0) (pa_cons (pv 7) pa_nil))))))))))), ?_⟩
    have ok := hp.ok
    obtain ⟨dp, gp, g1, _, _, _, _⟩ := hp.get
    refine ⟨_, rfl, p, _, rfl, g1, ?_⟩
    dsimp only [gName, tSeq]
    refine ⟨_, rfl, _, rfl, c, r.sg, 5, rfl, hc, ok.sg, by decide, fun zo H1 ovo lo hc1 b1 => ⟨_, rfl, _, rfl, c, r.sg, 5, rfl, hc1, ok.sg, by decide, fun zt H2 ovt lt hc2 b2 => ⟨_, _, rfl, ?_⟩⟩⟩
    have sgl := sg_len ok.sg
    refine ⟨_, rfl, _, rfl, c, hc2, .inr ⟨r.sg, rfl, by omega, by omega, fun sn H3 hsn hc3 b3 => ?_⟩⟩
    have b03 : But c H H3 := b1.trans (b2.trans b3)
    have hv3 : MgAt K H3 v ts (fMerge R) := mg_but hc b03 hv
    have fS : Fine (one sn) := over_fine ok.sg (fun y hy => by have hy : y ∈ [sn] := hy; rw [List.mem_singleton.mp hy]; exact hsn) (by show 1 ≤ 4000; decide)
    have fO : Fine zo := over_fine ok.sg ovo (by omega)
    have fT : Fine zt := over_fine ok.sg ovt (by omega)
    have fSS : Fine (r.sg ++ r.sg) := small_fine (by rw [Str.length_append]; omega) fun y hy => by
      rw [cds_app] at hy
      rcases List.mem_append.mp hy with hy | hy <;> exact sg_plain ok.sg y hy
    have up := upper_plain zt.length zt rfl (over_plain ok.sg ovt)
    have fU : Fine (Txt.upper zt ++ "A") := small_fine (by rw [Str.length_append, up.2]; show zt.length + 1 ≤ 60; omega) fun y hy => by
      rw [cds_app] at hy
      rcases List.mem_append.mp hy with hy | hy
      · exact up.1 y hy
      · have a128 : ∀ y ∈ cds ("A" : Str), y < 128 := by decide +kernel
        exact a128 y hy
    dsimp only [gName, tSeq]
    refine evo_lst (H0 := H3) (xs := odd1 (one sn) zo zt) (by
      refine evl_cons (evn_tup (evis_cons (evi_v rfl) (evis_cons (evi_v rfl) (evis_cons (evi_v rfl) evis_nil))) (by simp)) ?_
      refine evl_cons (evn_tup (evis_cons (evi_v rfl) (evis_cons (evi_v rfl) (evis_cons (evi_v rfl) evis_nil))) (by simp)) ?_
      refine evl_cons (evn_tup (evis_cons (evi_v rfl) (evis_cons (evi_v rfl) (evis_cons (evi_v rfl) evis_nil))) (by simp)) ?_
      refine evl_cons (evn_tup (evis_cons (evi_v rfl) (evis_cons (evi_v rfl) (evis_cons (evi_v rfl) evis_nil))) (by simp)) ?_
      refine evl_cons (evn_lst (evis_cons (evi_v rfl) (evis_cons (evi_v rfl) (evis_cons (evi_v rfl) evis_nil))) (by simp)) ?_
      refine evl_cons (evn_tup (evis_cons (evi_v rfl) (evis_cons (evi_v rfl) evis_nil)) (by simp)) ?_
      refine evl_cons evn_non (evl_cons (evn_tup evis_nil (by simp)) (evl_cons evn_int ?_))
      exact evl_cons (evn_tup (evis_cons (evi_v rfl) (evis_cons (evi_v rfl) (evis_cons (evi_v rfl) evis_nil))) (by simp)) evl_nil) (show 10 ≤ 50 by decide) H3 (Same.refl _) _ fun D1 H4 nD1 s4 o4 => ?_
    dsimp only [gName, tSeq]
    refine evo_cat (H0 := H4) (i := 7) (D := D1) (xs := odd1 (one sn) zo zt) (ys := odd2 r.sg (one sn) zo zt) rfl o4 (by
      refine evl_cons (evn_tup (evis_cons evi_s (evis_cons (evi_v rfl) (evis_cons (evi_v rfl) evis_nil))) (by simp)) ?_
      refine evl_cons (evn_tup (evis_cons (evi_add (evi_v rfl) (evi_v rfl) (by omega)) (evis_cons (evi_v rfl) (evis_cons (evi_v rfl) evis_nil))) (by simp)) ?_
      refine evl_cons (evn_tup (evis_cons evi_s (evis_cons (evi_v rfl) (evis_cons (evi_v rfl) evis_nil))) (by simp)) ?_
      refine evl_cons (evn_tup (evis_cons (evi_v rfl) (evis_cons (evi_v rfl) (evis_cons evi_n evis_nil))) (by simp)) ?_
      refine evl_cons (evn_tup (evis_cons (evi_v rfl) (evis_cons (evi_v rfl) (evis_cons (evi_add (y := Txt.upper zt) (z := "A") (fun H s Q q => ?_) evi_s (by rw [up.2]; show zt.length + 1 ≤ 4000; omega)) evis_nil))) (by simp)) ?_
      · exact ⟨_, rfl, rfl, zt, rfl, rfl, by omega, q⟩
      refine evl_cons (evn_tup (evis_cons (evi_v rfl) (evis_cons (evi_v rfl) (evis_cons (evi_v rfl) (evis_cons evi_s evis_nil)))) (by simp)) ?_
      exact evl_cons (fun H s Q q => fun d nd => q _ _ (same_upd nd) ⟨d, rfl, upd_same⟩) evl_nil) (show 17 ≤ 50 by decide) H4 (Same.refl _) _ fun D2 H5 nD2 s5 o5 => ?_
    dsimp only [gName]
    have fE : Fine ("" : Str) := small_fine (by decide +kernel) (by decide +kernel)
    have fZ : Fine ("Z" : Str) := small_fine (by decide +kernel) (by decide +kernel)
    have ok12 : ∀ x ∈ odd1 (one sn) zo zt ++ odd2 r.sg (one sn) zo zt, okNv x := fun x hx => (List.mem_append.mp hx).elim (ok_odd1 fS fO fT x) (ok_odd2 fS fO fT fSS fU fE fZ x)
    have s35 := s4.trans s5
    have nD2c : D2 ≠ c := fun z => by
      have := s4 _ _ (hc3.choose_spec.choose_spec.choose_spec)
      rw [z, this] at nD2
      cases nD2
    refine two (fun σ H' => ∃ (D : Addr) (xs : List NV), σ = [some (.ref c), some (.ref p), some v, some (.str r.sg), some (.str zo), some (.str zt), some (.str (one sn)), some (.ref D)] ∧ OddAt H' D xs ∧ (∀ x ∈ xs, okNv x) ∧ 0 < xs.length ∧ xs.length < 100 ∧ D ≠ c ∧ Same H3 H') ?_ fun tl => ?_
    · rintro σ H6 ⟨D, xs, rfl, ⟨vs, eD, hvs⟩, okx, l0, l1, nDc, s36⟩
      refine ⟨_, rfl, _, rfl, c, hc3.same s36, .inl ⟨D, vs, rfl, nDc, eD, by rw [hvs.length]; exact l0, by rw [hvs.length]; exact l1, fun y H7 hy hc7 b7 => ?_⟩⟩
      obtain ⟨j, hj, ej⟩ := List.mem_iff_getElem.mp hy
      have hl := hvs.length
      have at_ := Lc.each_atP hvs (i := j) (List.getElem?_eq_getElem hj) (List.getElem?_eq_getElem (by omega))
      rw [ej] at at_
      exact q y _ H7 (NvAt.but (hc3.same s36) b7 at_) (okx _ (List.getElem_mem _)) hc7 (b03.trans ((But.of s36).trans b7))
    · refine ⟨_, rfl, rfl, _, rfl, ?_⟩
      cases hm : fMerge R with
      | none =>
        rw [hm] at hv3
        have hv3 : v = .non := hv3
        rw [hv3]
        refine iteF' (by decide) ?_
        rw [← hv3]
        exact tl _ _ ⟨D2, _, rfl, o5, ok12, show 0 < 17 by decide, show 17 < 100 by decide, nD2c, s35⟩
      | some mab =>
        obtain ⟨mc, ma, mb⟩ := mab
        rw [hm] at hv3
        obtain ⟨pd, rfl, epd⟩ := hv3
        obtain ⟨hmc, hab, hbn⟩ := fMerge_lt hm
        have hmc : mc ∈ cds r.sg := by rw [okR.ord, esg] at hmc; exact hmc
        have ta : ts.getD ma [] ∈ ts := by rw [List.getD_eq_getElem?_getD, List.getElem?_eq_getElem (by omega)]; exact List.getElem_mem _
        have tb : ts.getD mb [] ∈ ts := by rw [List.getD_eq_getElem?_getD, List.getElem?_eq_getElem (by omega)]; exact List.getElem_mem _
        obtain ⟨oa, la⟩ := hts _ ta
        obtain ⟨ob, lb⟩ := hts _ tb
        have ova : Over r.sg (tx (ts.getD ma [])) := fun y hy => oa y hy
        have ovb : Over r.sg (tx (ts.getD mb [])) := fun y hy => ob y hy
        have la' : (tx (ts.getD ma [])).length ≤ 60 := by rw [tx_len]; exact la
        have lb' : (tx (ts.getD mb [])).length ≤ 60 := by rw [tx_len]; exact lb
        generalize tx (ts.getD ma []) = za at epd ova la'
        generalize tx (ts.getD mb []) = zb at epd ovb lb'
        have fL : Fine (one mc) := over_fine ok.sg (fun y hy => by have hy : y ∈ [mc] := hy; rw [List.mem_singleton.mp hy]; exact hmc) (by show 1 ≤ 4000; decide)
        have fA : Fine za := over_fine ok.sg ova (by omega)
        have fB : Fine zb := over_fine ok.sg ovb (by omega)
        have ov1 : Over r.sg (one sn) := fun y hy => by have hy : y ∈ [sn] := hy; rw [List.mem_singleton.mp hy]; exact hsn
        have cat : ∀ {y z : Str}, Over r.sg y → Over r.sg z → Over r.sg (y ++ z) := fun h1 h2 y hy => by
          rw [cds_app] at hy
          exact (List.mem_append.mp hy).elim (h1 y) (h2 y)
        have fAO : Fine (za ++ zo) := over_fine ok.sg (cat ova ovo) (by rw [Str.length_append]; omega)
        have fBO : Fine (zb ++ zo) := over_fine ok.sg (cat ovb ovo) (by rw [Str.length_append]; omega)
        have l1' : (one sn).length = 1 := rfl
        have fAS : Fine (za ++ one sn) := over_fine ok.sg (cat ova ov1) (by rw [Str.length_append]; omega)
        have ed5 := s35 _ _ epd
        have i0 : ∀ {σ : L2.St}, σ[2]? = some (some (V.ref pd)) → EvI H5 (tOp (rIxT K) (tVar 2) (tC (.int 0))) σ (.s (one mc)) := fun h H s Q q => ⟨_, h, pd, _, _, _, rfl, rfl, SqT.of (s _ _ ed5), atI_nat (j := 0) rfl, q⟩
        have i1 : ∀ {σ : L2.St}, σ[2]? = some (some (V.ref pd)) → EvI H5 (tOp (rIxT K) (tVar 2) (tC (.int 1))) σ (.s za) := fun h H s Q q => ⟨_, h, pd, _, _, _, rfl, rfl, SqT.of (s _ _ ed5), atI_nat (j := 1) rfl, q⟩
        have i2 : ∀ {σ : L2.St}, σ[2]? = some (some (V.ref pd)) → EvI H5 (tOp (rIxT K) (tVar 2) (tC (.int 2))) σ (.s zb) := fun h H s Q q => ⟨_, h, pd, _, _, _, rfl, rfl, SqT.of (s _ _ ed5), atI_nat (j := 2) rfl, q⟩
        have dueV : ∀ {σ : L2.St}, σ[2]? = some (some (V.ref pd)) → EvN H5 (tVar 2) σ (.tup [.s (one mc), .s za, .s zb]) := fun h H s Q q => ⟨_, h, q _ _ (Same.refl _) ⟨pd, rfl, s _ _ ed5⟩⟩
        refine iteT' rfl ?_
        dsimp only [gName, tSeq]
        refine evo_cat (H0 := H5) (i := 7) (D := D2) (ys := odd3 (one sn) zo (one mc) za zb) rfl o5 (by
          refine evl_cons (dueV rfl) (evl_cons (dueV rfl) ?_)
          refine evl_cons (evn_tup (evis_cons (i0 rfl) (evis_cons (i2 rfl) (evis_cons (i1 rfl) evis_nil))) (by simp)) ?_
          refine evl_cons (fun H s Q q => ⟨_, rfl, pd, _, rfl, SqT.of (s _ _ ed5), fun z nz => q _ _ (same_upd nz) ⟨z, rfl, upd_same⟩⟩) ?_
          refine evl_cons (evn_tup (evis_cons (i0 rfl) (evis_cons (i1 rfl) (evis_cons (i1 rfl) evis_nil))) (by simp)) ?_
          refine evl_cons (evn_tup (evis_cons (i0 rfl) (evis_cons (evi_add (i1 rfl) (evi_v rfl) (by omega)) (evis_cons (evi_add (i2 rfl) (evi_v rfl) (by omega)) evis_nil))) (by simp)) ?_
          exact evl_cons (evn_tup (evis_cons (i0 rfl) (evis_cons (evi_add (i1 rfl) (evi_v rfl) (by rw [l1']; omega)) (evis_cons (i2 rfl) evis_nil))) (by simp)) evl_nil) (show 24 ≤ 50 by decide) H5 (Same.refl _) _ fun D3 H6 nD3 s6 o6 => ?_
        dsimp only [gName, tSeq]
        have ed6 := s6 _ _ ed5
        have j1 : ∀ {σ : L2.St}, σ[2]? = some (some (V.ref pd)) → EvI H6 (tOp (rIxT K) (tVar 2) (tC (.int 1))) σ (.s za) := fun h H s Q q => ⟨_, h, pd, _, _, _, rfl, rfl, SqT.of (s _ _ ed6), atI_nat (j := 1) rfl, q⟩
        have j2 : ∀ {σ : L2.St}, σ[2]? = some (some (V.ref pd)) → EvI H6 (tOp (rIxT K) (tVar 2) (tC (.int 2))) σ (.s zb) := fun h H s Q q => ⟨_, h, pd, _, _, _, rfl, rfl, SqT.of (s _ _ ed6), atI_nat (j := 2) rfl, q⟩
        refine evo_cat (H0 := H6) (i := 7) (D := D3) (ys := odd4 (one sn) (one mc) za zb) rfl o6 (by
          refine evl_cons (evn_tup (evis_cons (evi_v rfl) (evis_cons (j1 rfl) (evis_cons (j2 rfl) evis_nil))) (by simp)) ?_
          refine evl_cons (fun H s Q q => ⟨_, rfl, pd, _, rfl, .inr (SqT.of (s _ _ ed6)), fun z nz => q _ _ (same_upd nz) ⟨z, rfl, upd_same⟩⟩) ?_
          exact evl_cons (fun H s Q q => ⟨_, rfl, by show 1 ≤ sizeLine; decide, fun w nw => ⟨pd, w, _, _, rfl, rfl, SqT.of (same_upd nw _ _ (s _ _ ed6)), SqT.of upd_same, by show 4 ≤ sizeLine; decide, (fun z => nomatch z), (fun _ z => nomatch z), fun _ _ z nz => q _ _ ((same_upd nw).trans (same_upd nz)) ⟨z, rfl, upd_same⟩⟩⟩) evl_nil) (show 27 ≤ 50 by decide) H6 (Same.refl _) _ fun D4 H7 nD4 s7 o7 => ?_
        have ok34 : ∀ x ∈ (odd1 (one sn) zo zt ++ odd2 r.sg (one sn) zo zt) ++ odd3 (one sn) zo (one mc) za zb ++ odd4 (one sn) (one mc) za zb, okNv x := fun x hx => by
          rcases List.mem_append.mp hx with hx | hx
          · rcases List.mem_append.mp hx with hx | hx
            · exact ok12 x hx
            · exact ok_odd3 fL fA fB fAO fBO fAS x hx
          · exact ok_odd4 fS fL fA fB fE x hx
        refine tl _ _ ⟨D4, _, rfl, o7, ok34, show 0 < 27 by decide, show 27 < 100 by decide, fun z => ?_, s35.trans (s6.trans s7)⟩
        have := (s35.trans s6) _ _ (hc3.choose_spec.choose_spec.choose_spec)
        rw [z, this] at nD4
        cases nD4
end
end K24

set_option Elab.async false
set_option linter.all false
set_option maxRecDepth 100000
set_option maxHeartbeats 6400000
/-! what the law asks of merges, as mathematics -/
namespace K24
open PySem L2 Tx Tg Tm Da RZ Ek It2
/-- the walk of the least reader finds its states in their order -/
theorem walk_id {r : Rdr} {m : Nat → Nat} {l l2 : List (Nat × List Nat)} (ok : okR r) (okL : okR (leanOf r m l)) (ner : Au.Ner (cds r.sg) (aut r) m) (full : Au.Full (cds r.sg) (aut r).to 0 l) (full2 : Au.Full (cds r.sg) (aut (leanOf r m l)).to 0 l2) : ∀ (i : Nat) (x : Nat × List Nat), l2[i]? = some x → x.1 = i := by
  have nerL := ner_lean ok ner full
  have ans := lean_ans ok ner full
  have e : leanOf (leanOf r m l) id l2 = leanOf r m l := by
    have h1 : (leanOf r m l).sg = r.sg := rfl
    rw [← h1] at nerL ans
    have f2 : Au.Full (cds (leanOf r m l).sg) (aut (leanOf r m l)).to 0 l2 := by rw [h1]; exact full2
    exact lean_one (r := leanOf r m l) (r' := r) okL ok h1 nerL f2 ner full ans
  have ed : Au.dd id l2 = l2 := dd_id full2.nd
  generalize hR : leanOf r m l = R at *
  have esg : R.sg = r.sg := by rw [← hR]; rfl
  have ndW := okL.W.nodup okL.sg
  have st : ∀ c ∈ cds r.sg, ∀ (i : Nat) (x : Nat × List Nat), l2[i]? = some x → (aut R).to c i = (l2.map (·.1)).idxOf ((aut R).to c x.1) := fun c hc i x hx => by
    have hm : (c, Au.wayOf id (aut R) (Au.dd id l2) c) ∈ R.W := by
      rw [← congrArg Rdr.W e]
      exact List.mem_map.mpr ⟨c, by rw [esg]; exact hc, rfl⟩
    have e0 : (aut R).to c i = (row R.W c).getD i 0 := rfl
    rw [e0, row_eq ndW hm, ed]
    have := Au.way_get (m := id) (R := aut R) (c := c) hx
    have e2 : (Au.leanA id (aut R) l2).to c i = (Au.wayOf id (aut R) l2 c).getD i 0 := by rw [List.getD_eq_getElem?_getD]; rfl
    rw [← e2, this]
    rfl
  have key : ∀ (w : List Nat), (∀ c ∈ w, c ∈ cds r.sg) → ∀ s, s ∈ l2.map (·.1) → (l2.map (·.1)).idxOf s = s → (l2.map (·.1)).idxOf (Au.runs (aut R).to s w) = Au.runs (aut R).to s w := fun w => by
    induction w with
    | nil => exact fun _ s _ h => h
    | cons c w ih =>
      intro hw s hs h
      have hc := hw c List.mem_cons_self
      obtain ⟨x, hx, ex⟩ := List.mem_map.mp hs
      obtain ⟨i, hi, ei⟩ := List.mem_iff_getElem.mp hx
      have hx2 : l2[i]? = some x := by rw [List.getElem?_eq_getElem hi, ei]
      have hix : (l2.map (·.1)).idxOf s = i := by
        have e1 : (l2.map (·.1))[i]? = some s := by rw [List.getElem?_map, hx2]; exact congrArg some ex
        have hlt := (List.getElem?_eq_some_iff.mp e1).1
        have e2 := (List.getElem?_eq_some_iff.mp e1).2
        have := idx_at full2.nd hlt
        rw [e2] at this
        exact this
      have is : i = s := hix.symm.trans h
      have st1 := st c hc i x hx2
      rw [ex, is] at st1
      have a1 := full2.closed hx hc
      rw [ex] at a1
      generalize hq : (aut R).to c s = q at st1 a1
      have g := ih (fun d hd => hw d (List.mem_cons_of_mem _ hd)) q a1 st1.symm
      rw [← hq] at g
      exact g
  intro i x hx
  have xm := List.mem_of_getElem? hx
  obtain ⟨e1, hw⟩ := full2.led x xm
  have z0 : (l2.map (·.1)).idxOf 0 = 0 := by
    have h0 := full2.head
    have e1 : (l2.map (·.1))[0]? = some 0 := by rw [List.getElem?_map, h0]; rfl
    have hlt := (List.getElem?_eq_some_iff.mp e1).1
    have e2 := (List.getElem?_eq_some_iff.mp e1).2
    have := idx_at full2.nd hlt
    rw [e2] at this
    exact this
  have k := key x.2 hw 0 full2.start z0
  rw [← e1] at k
  have e1 : (l2.map (·.1))[i]? = some x.1 := by rw [List.getElem?_map, hx]; rfl
  have hlt := (List.getElem?_eq_some_iff.mp e1).1
  have e2 := (List.getElem?_eq_some_iff.mp e1).2
  have := idx_at full2.nd hlt
  rw [e2, k] at this
  exact this
/-- texts of the least reader's states: their letters, their lengths -/
theorem LeanR.txt {r R : Rdr} {ts : List (List Nat)} (ok : okR r) (h : LeanR r R ts) : ∀ t ∈ ts, (∀ y ∈ t, y ∈ cds r.sg) ∧ t.length ≤ 60 := by
  obtain ⟨m, l, ner, full, rfl, rfl⟩ := h
  intro t ht
  obtain ⟨x, hx, rfl⟩ := List.mem_map.mp ht
  have hx := Au.dd_sub x hx
  refine ⟨(full.led x hx).2, ?_⟩
  have lb := Au.full_lt (fit_of ok) full
  have llen : l.length ≤ r.n := by
    have := Pm.small_len full.nd fun x hx => by
      obtain ⟨y, hy, rfl⟩ := List.mem_map.mp hx
      exact lb y hy
    rwa [List.length_map] at this
  have n60 := ok.W.most
  obtain ⟨k, rfl, hk⟩ := full
  have e : Au.upTo (cds r.sg) (aut r).to 0 k = Au.upTo (cds r.sg) (aut r).to 0 (Au.upTo (cds r.sg) (aut r).to 0 k).length := Au.upTo_done (Au.upTo_le hk).length_le hk
  rw [e] at hx
  have := upTo_txtP _ _ _ x hx
  omega
/-- the text of a state leads to it -/
theorem LeanR.leads {r R : Rdr} {ts : List (List Nat)} (ok : okR r) (okL : okR R) (h : LeanR r R ts) (full2 : ∃ l2, Au.Full (cds r.sg) (aut R).to 0 l2) {i : Nat} (hi : i < R.n) : run R.W 0 (ts.getD i []) = i := by
  have lts := h.len
  obtain ⟨m, l, ner, full, rfl, rfl⟩ := h
  obtain ⟨l2, full2⟩ := full2
  have e := walk_lean ok okL ner full full2
  have hl : i < l2.length := by
    have := congrArg List.length e
    rw [List.length_map] at this
    omega
  have hx : l2[i]? = some l2[i] := List.getElem?_eq_getElem hl
  have h1 := walk_id ok okL ner full full2 i _ hx
  have h2 := (full2.led _ (List.getElem_mem hl)).1
  rw [← e, List.getD_eq_getElem?_getD, List.getElem?_map, hx]
  show run _ 0 l2[i].2 = i
  rw [h1] at h2
  exact h2.symm
theorem fMerge_same {R : Rdr} {c a b : Nat} (h : fMerge R = some (c, a, b)) : ∃ w ∈ R.W, w.1 = c ∧ w.2.getD a 0 = w.2.getD b 0 := by
  obtain ⟨w, hw, e⟩ := List.exists_of_findSome?_eq_some h
  cases z : fOne w.2 R.n with
  | none => rw [z] at e; cases e
  | some q =>
    rw [z] at e
    cases e
    obtain ⟨a', ha, e2⟩ := List.exists_of_findSome?_eq_some z
    cases z2 : fOther w.2 R.n a' with
    | none => rw [z2] at e2; cases e2
    | some b' =>
      rw [z2] at e2
      cases e2
      obtain ⟨y, hy, e3⟩ := List.exists_of_findSome?_eq_some z2
      split at e3
      · cases e3
        exact ⟨w, hw, rfl, by assumption⟩
      · cases e3
/-- the first merge is one -/
theorem due_self {r R : Rdr} {ts : List (List Nat)} (ok : okR r) (okL : okR R) (esg : R.sg = r.sg) (h : LeanR r R ts) (full2 : ∃ l2, Au.Full (cds r.sg) (aut R).to 0 l2) {c a b : Nat} (hm : fMerge R = some (c, a, b)) : dueN r.sg R (.tup [.s (one c), .s (tx (ts.getD a [])), .s (tx (ts.getD b []))]) = true := by
  obtain ⟨hc, hab, hb⟩ := fMerge_lt hm
  have lts := h.len
  have hc : c ∈ cds r.sg := by rw [okL.ord, esg] at hc; exact hc
  have ra := h.leads ok okL full2 (show a < R.n by omega)
  have rb := h.leads ok okL full2 hb
  have ta : ts.getD a [] ∈ ts := by rw [List.getD_eq_getElem?_getD, List.getElem?_eq_getElem (by omega)]; exact List.getElem_mem _
  have tb : ts.getD b [] ∈ ts := by rw [List.getD_eq_getElem?_getD, List.getElem?_eq_getElem (by omega)]; exact List.getElem_mem _
  obtain ⟨oa, la⟩ := h.txt ok _ ta
  obtain ⟨ob, lb⟩ := h.txt ok _ tb
  obtain ⟨w, hw, rfl, same⟩ := fMerge_same hm
  have er : ∀ i, rowAt R (one w.1) i = w.2.getD i 0 := fun i => by
    unfold rowAt
    show (row R.W w.1).getD i 0 = _
    rw [row_eq (okL.W.nodup okL.sg) hw]
  have h1 : has r.sg 4000 (.str (one w.1)) = true := over_has (fun y hy => by have hy : y ∈ [w.1] := hy; rw [List.mem_singleton.mp hy]; exact hc) (by show 1 ≤ 4000; decide)
  have h2 : has r.sg 4000 (.str (tx (ts.getD a []))) = true := over_has (fun y hy => oa y hy) (by rw [tx_len]; omega)
  have h3 : has r.sg 4000 (.str (tx (ts.getD b []))) = true := over_has (fun y hy => ob y hy) (by rw [tx_len]; omega)
  simp only [dueN]
  rw [h1, h2, h3, decide_eq_true (show (one w.1).length = 1 from rfl)]
  unfold dueT
  show (true && (true && (decide (run R.W 0 (ts.getD a []) ≠ run R.W 0 (ts.getD b [])) && decide (rowAt R (one w.1) (run R.W 0 (ts.getD a [])) = rowAt R (one w.1) (run R.W 0 (ts.getD b [])))))) = true
  rw [ra, rb, er, er, decide_eq_true same, decide_eq_true (show a ≠ b by omega)]
  rfl
/-- the opposite answers -/
theorem inv_says (r : Rdr) (ok : okR r) : ∀ (w : List Nat) (s : Nat), s < r.n → (∀ c ∈ w, c ∈ cds r.sg) → Au.says (aut (invR r)) s w = !Au.says (aut r) s w
  | [], s, hs, _ => by
    show decide (s ∈ (List.range r.n).filter fun s => decide (s ∉ r.G)) = !decide (s ∈ r.G)
    by_cases h : s ∈ r.G
    · rw [decide_eq_true h]
      exact decide_eq_false fun z => by simpa [h] using (List.mem_filter.mp z).2
    · rw [decide_eq_false h]
      exact decide_eq_true (List.mem_filter.mpr ⟨List.mem_range.mpr hs, decide_eq_true h⟩)
  | c :: w, s, hs, hw => inv_says r ok w _ ((fit_of ok).cl c (hw c List.mem_cons_self) s hs) fun d hd => hw d (List.mem_cons_of_mem _ hd)
theorem inv_ner {r : Rdr} {m : Nat → Nat} (ok : okR r) (ner : Au.Ner (cds r.sg) (aut r) m) : Au.Ner (cds r.sg) (aut (invR r)) m := fun s t hs ht => by
  refine (ner s t hs ht).trans ⟨fun h w hw => ?_, fun h w hw => ?_⟩
  · rw [inv_says r ok w s hs hw, inv_says r ok w t ht hw, h w hw]
  · have := h w hw
    rw [inv_says r ok w s hs hw, inv_says r ok w t ht hw] at this
    simpa using this
/-- the least reader of the opposite answers has the same moves -/
theorem inv_lean {r R R' : Rdr} {ts ts' : List (List Nat)} (ok : okR r) (ok' : okR (invR r)) (h : LeanR r R ts) (h' : LeanR (invR r) R' ts') : R'.W = R.W ∧ R'.n = R.n ∧ ts' = ts := by
  obtain ⟨m, l, ner, full, rfl, rfl⟩ := h
  have h2 : LeanR (invR r) (leanOf (invR r) m l) ((Au.dd m l).map (·.2)) := ⟨m, l, inv_ner ok ner, full, rfl, rfl⟩
  obtain ⟨rfl, rfl⟩ := LeanR.uniq ok' ok' rfl .refl h' h2
  exact ⟨rfl, rfl, rfl⟩
theorem fMerge_eq {R R' : Rdr} (hW : R'.W = R.W) (hn : R'.n = R.n) : fMerge R' = fMerge R := by
  unfold fMerge
  rw [hW, hn]
theorem due_eq {sg : Str} {R R' : Rdr} (hW : R'.W = R.W) (x : NV) : dueN sg R' x = dueN sg R x := by
  have : dueT R' = dueT R := by
    funext a b c
    unfold dueT rowAt
    rw [hW]
  unfold dueN
  rw [this]
theorem full_any {r : Rdr} (ok : okR r) : ∃ l2, Au.Full (cds r.sg) (aut r).to 0 l2 := ⟨_, r.n, rfl, by
  have := Pm.small_len (n := r.n) (Au.upTo_nd (L := cds r.sg) (nx := (aut r).to) (s := 0) (k := r.n)) fun x hx => by
    obtain ⟨y, hy, rfl⟩ := List.mem_map.mp hx
    exact upTo_lt ok.W ok.sg ok.W.one y hy
  rwa [List.length_map] at this⟩
theorem okR_lean {r : Rdr} {m : Nat → Nat} {l : List (Nat × List Nat)} (ok : okR r) (full : Au.Full (cds r.sg) (aut r).to 0 l) : okR (leanOf r m l) := by
  have lb := Au.full_lt (fit_of ok) full
  have Ond : ((Au.dd m l).map fun x => m x.1).Nodup := Au.dd_nd
  have Ofs : ((Au.dd m l).map (·.1)).Nodup := by
    rw [List.nodup_iff_pairwise_ne, List.pairwise_map] at Ond ⊢
    exact Ond.imp fun ne z => ne (by rw [z])
  have Olen : (Au.dd m l).length ≤ r.n := by
    have := Pm.small_len Ofs fun x hx => by
      obtain ⟨y, hy, rfl⟩ := List.mem_map.mp hx
      exact lb y (Au.dd_sub y hy)
    rwa [List.length_map] at this
  have O1 : 1 ≤ (Au.dd m l).length := (List.getElem?_eq_some_iff.mp (Au.dd_head full)).1
  have n60 := ok.W.most
  have gl : (Au.goodOf (aut r) (Au.dd m l)).length ≤ 60 := by
    refine Nat.le_trans (List.length_filter_le _ _) ?_
    rw [List.length_range]
    omega
  refine ⟨ok.sg, ?_, ⟨?_, fun w0 hw0 => ?_, O1, by show (Au.dd m l).length ≤ 60; omega⟩, ⟨fun i hi => List.mem_range.mp (List.mem_filter.mp hi).1, List.Pairwise.filter _ List.pairwise_lt_range⟩, gl⟩
  · show (((cds r.sg).map _).map _) = cds r.sg
    rw [List.map_map]
    exact List.map_id _
  · show ((((cds r.sg).map _).map _)).Perm (cds r.sg)
    rw [List.map_map]
    exact .of_eq (List.map_id _)
  · obtain ⟨c, hc, rfl⟩ := List.mem_map.mp hw0
    refine ⟨by show (List.map _ _).length = _; rw [List.length_map]; rfl, fun y hy => ?_⟩
    obtain ⟨x, hx, rfl⟩ := List.mem_map.mp hy
    have hin : m ((aut r).to c x.1) ∈ (Au.dd m l).map fun y => m y.1 := by
      rw [Au.dd_kinds]
      obtain ⟨z, hz, e⟩ := List.mem_map.mp (full.closed (Au.dd_sub x hx) hc)
      exact List.mem_map.mpr ⟨z, hz, by rw [e]⟩
    have := List.idxOf_lt_length_of_mem hin
    rwa [List.length_map] at this
/-! ### merges as data -/
def mgD (ts : List (List Nat)) : Option (Nat × Nat × Nat) → PyData
  | none => .none
  | some (c, a, b) => .tuple [.str (one c), .str (tx (ts.getD a [])), .str (tx (ts.getD b []))]
theorem mg_dp {K : PySem.W.Frag} {H : Hp} {v : V} {ts : List (List Nat)} : ∀ {o : Option (Nat × Nat × Nat)}, MgAt K H v ts o → Dp K H v (mgD ts o)
  | none, h => by
    cases (show v = .non from h)
    exact .non
  | some (_, _, _), ⟨p, e, h⟩ => by
    rw [e]
    exact .tup (SqT.of h) (.cons (.str _) (.cons (.str _) (.cons (.str _) .nil)))
theorem mgD_eqv (ts : List (List Nat)) : ∀ o, PyData.eqv (mgD ts o) (mgD ts o) = true
  | none => rfl
  | some (c, a, b) => by simp [mgD, PyData.eqv, PyData.eqvAll]
theorem mgD_sh {sg : Str} {ts : List (List Nat)} (hs : Signs sg) (h : ∀ t ∈ ts, (∀ y ∈ t, y ∈ cds sg) ∧ t.length ≤ 60) : ∀ o : Option (Nat × Nat × Nat), (∀ c a b, o = some (c, a, b) → c ∈ cds sg ∧ a < ts.length ∧ b < ts.length) → (mgD ts o).hasDict = false ∧ Sh 1 200 (mgD ts o)
  | none, _ => ⟨rfl, (⟨rfl, rfl, rfl, Nat.zero_le _, by decide⟩ : Sh 1 200 .none)⟩
  | some (c, a, b), hm => by
    obtain ⟨hc, ha, hb⟩ := hm c a b rfl
    have ta : ts.getD a [] ∈ ts := by rw [List.getD_eq_getElem?_getD, List.getElem?_eq_getElem ha]; exact List.getElem_mem _
    have tb : ts.getD b [] ∈ ts := by rw [List.getD_eq_getElem?_getD, List.getElem?_eq_getElem hb]; exact List.getElem_mem _
    obtain ⟨oa, la⟩ := h _ ta
    obtain ⟨ob, lb⟩ := h _ tb
    have pl : ∀ t : List Nat, (∀ y ∈ t, y ∈ cds sg) → plainS (tx t) := fun t ho y hy => by
      have := sg_range hs y (ho y hy)
      omega
    have s1 : Sh 0 1 (.str (one c)) := .str (pl [c] fun y hy => by rw [List.mem_singleton.mp hy]; exact hc) (Nat.le_refl _)
    have s2 : Sh 0 60 (.str (tx (ts.getD a []))) := .str (pl _ oa) (by rw [tx_len]; exact la)
    have s3 : Sh 0 60 (.str (tx (ts.getD b []))) := .str (pl _ ob) (by rw [tx_len]; exact lb)
    refine ⟨rfl, ?_⟩
    have := (ShA.cons (n := 0) (w := 122) s1 (ShA.cons (n := 0) (w := 61) s2 (ShA.cons (n := 0) (w := 0) s3 .nil (Nat.le_refl _) (by decide)) (Nat.le_refl _) (by decide)) (Nat.le_refl _) (show 1 + 1 + 122 ≤ 200 by decide)).tup
    exact this
theorem mgD_shaped {d : PyData} {n w : Nat} (h : Sh n w d) (hn : n ≤ 60 := by decide) : SeqAt.shaped d = true := by
  unfold SeqAt.shaped
  rw [Bool.and_eq_true]
  exact ⟨h.lay, decide_eq_true (Nat.le_trans h.dp (by omega))⟩
end K24

set_option Elab.async false
set_option linter.all false
set_option maxRecDepth 100000
set_option maxHeartbeats 12800000
namespace K24
open PySem L2 Tx Tg Tm Da RZ Ek It2
/-! ### a cell is right -/
abbrev sCl : Stmt := top 69
abbrev nCl : List Str := ["_law_cup_here", "_law_plain", "_law_made", "_law_due", "_law_lean_here", "_law_turn", "_law_value", "_law_again"]
theorem scCl : FnScope nCl ["_law_cup_here"] (defScope sCl) := ⟨rfl, rfl, rfl, by decide +kernel, rfl, by decide +kernel, by decide +kernel⟩
theorem mg_butL {K : PySem.W.Frag} {H : Hp} {D : Addr} {xs : List V} {o : HO} {v : V} {ts : List (List Nat)} (e : H D = some (.lst xs)) : ∀ {q : Option (Nat × Nat × Nat)}, MgAt K H v ts q → MgAt K (upd H D o) v ts q
  | none, h => h
  | some (_, _, _), ⟨p, e1, h⟩ => ⟨p, e1, by rw [upd_ne (fun z => by rw [z, e] at h; cases h)]; exact h⟩
theorem two_way {A : TT} {σ : L2.St} {H : Hp} {Z : Bool → Hp → Prop} (P : Hp → Prop) (h1 : ∀ H', P H' → Z false H') (h2 : (∀ H', P H' → Z false H') → A σ H Z) : A σ H Z := h2 h1
theorem bools2 (b : Bool) : (PyData.list [.bool b, .bool b]).showable = true ∧ (PyData.list [.bool b, .bool b]).depth < 60 ∧ (PyData.list [.bool b, .bool b]).shown.length ≤ sizeLine := by
  cases b
  · exact ⟨rfl, by decide, Nat.le_trans (show _ ≤ 50 by decide +kernel) (by decide)⟩
  · exact ⟨rfl, by decide, Nat.le_trans (show _ ≤ 50 by decide +kernel) (by decide)⟩
section
variable {P : Program} {w : World} {K : PySem.W.Frag} {mg : Str → Option Value} {base : Heap} {CC : Addr}
structure UpM (P : Program) (w : World) (K : PySem.W.Frag) (mg : Str → Option Value) (base : Heap) (CC : Addr) (fSg fPl fMd fMT fLL fFM fIT fIM fV fNr fID fIv : Addr) (dSg dPl dMd dMT dLL dFM dIT dIM dV dNr dID dIv : FuncData) : Prop where
  DSg : Df K mg "_law_signs" sSigns ["_law_cup_here"] fSg dSg
  DPl : Df K mg "_law_plain_reader" sPlain ["_law_cup_here", "_law_signs_here"] fPl dPl
  DMd : Df K mg "_law_made_reader" sMade ["_law_plain"] fMd dMd
  DMT : Df K mg "_law_merge_there" sMT ["_law_plain"] fMT dMT
  DLL : Df K mg "_law_lean" sLL ["_law_plain"] fLL dLL
  DFM : Df K mg "first_merge" sFM ["reader"] fFM dFM
  DIT : Df K mg "is_turning" sIsT ["reader"] fIT dIT
  DIM : Df K mg "is_merge" sIM ["reader", "value"] fIM dIM
  DV : Df K mg "least_reader" sLean ["reader"] fV dV
  DNr : Df K mg "_law_near" sNr ["_law_cup_here", "_law_plain", "_law_due"] fNr dNr
  DID : Df K mg "_law_is_due" sID ["_law_plain", "_law_lean_here", "_law_value"] fID dID
  GSg : FnOk P w K mg base CX0 3 fSg dSg ["_law_cup_here"] spSigns
  GPl : FnOk P w K mg base CX0 5 fPl dPl ["_law_cup_here", "_law_signs_here"] spPlain
  GMd : FnOk P w K mg base CX0 7 fMd dMd ["_law_plain"] (spMade CC)
  GMT : FnOk P w K mg base CX0 3 fMT dMT ["_law_plain"] (spMT K)
  GLL : FnOk P w K mg base CX0 2 fLL dLL ["_law_plain"] spLL
  GFM : FnOk P w K mg base CX0 8 fFM dFM ["reader"] (spFM K CC)
  GIT : FnOk P w K mg base CX0 9 fIT dIT ["reader"] (spIsT CC)
  GIM : FnOk P w K mg base CX0 8 fIM dIM ["reader", "value"] (spIM CC)
  GV : FnOk P w K mg base CX0 7 fV dV ["reader"] (spLean CC)
  GNr : FnOk P w K mg base CX0 4 fNr dNr ["_law_cup_here", "_law_plain", "_law_due"] (spNr K)
  GID : FnOk P w K mg base CX0 2 fID dID ["_law_plain", "_law_lean_here", "_law_value"] spID
  GIv : FnOk P w K mg base CX0 7 fIv dIv ["self"] (spInv CC)
  bIv : Binds K dIv ["self"] []
  sIv : PySem.W.findIn K (.ref CC) "__invert__" = some (some (.ref fIv))
  fnIv : PySem.W.isFn K (.ref fIv) = true
variable {fSg fPl fMd fMT fLL fFM fIT fIM fV fNr fID fIv : Addr} {dSg dPl dMd dMT dLL dFM dIT dIM dV dNr dID dIv : FuncData}
def spCl : Sp := fun vs H Q _ => ∃ c : Addr, vs = [.ref c] ∧ Cup H c ∧ ∀ H', Cup H' c → But c H H' → Q (.bl true) H'
theorem ok_cl {f : Addr} {fd : FuncData} (F : Fun K "_law_cell_right" "_law_cell_right" sCl f fd) (T : Txt K mg) (C : Cl P w K mg base CC) (U : UpM P w K mg base CC fSg fPl fMd fMT fLL fFM fIT fIM fV fNr fID fIv dSg dPl dMd dMT dLL dFM dIT dIM dV dNr dID dIv) : Kept P w K mg base CX0 10 f fd ["_law_cup_here"] spCl := by
  obtain ⟨DSg, DPl, DMd, DMT, DLL, DFM, DIT, DIM, DV, DNr, DID, GSg, GPl, GMd, GMT, GLL, GFM, GIT, GIM, GV, GNr, GID, GIv, bIv, sIv, fnIv⟩ := U
  refine Kept.fn F scCl (fun vs H Q E h => ?_) (fun cdv A outer s H vs Q E hr still h => ?_)
  · obtain ⟨c, rfl, _⟩ := h
    rfl
  · obtain ⟨c, rfl, hc, q⟩ := h
    have hu := hu_of hr
    refine ⟨_, (pss_cons (ps_set (i := 1) scCl.nd rfl (Or.inl rfl) (pe_call GPl (hr.mono (by decide)) (by rfl) DPl.m DPl.F.kp DPl.b .nil pass0 (pa_cons (pv 0) (pa_cons (pe_call GSg (hr.mono (by decide)) (by rfl) DSg.m DSg.F.kp DSg.b .nil pass0 (pa_cons (pv 0) pa_nil)) pa_nil))))
    (pss_cons (ps_asg (pe_tup (pa_cons (pe_call GMd (hr.mono (by decide)) (by rfl) DMd.m DMd.F.kp DMd.b .nil pass0 (pa_cons (pv 1) pa_nil)) (pa_cons (pe_call GMT (hr.mono (by decide)) (by rfl) DMT.m DMT.F.kp DMT.b .nil pass0 (pa_cons (pv 1) pa_nil)) (pa_cons (pe_call GLL (hr.mono (by decide)) (by rfl) DLL.m DLL.F.kp DLL.b .nil pass0 (pa_cons (pv 1) pa_nil)) pa_nil)))) (pg_tup rfl (pgs_cons (pg_name (i := 2) scCl.nd rfl (Or.inr rfl)) (pgs_cons (pg_name (i := 3) scCl.nd rfl (Or.inl rfl)) (pgs_cons (pg_name (i := 4) scCl.nd rfl (Or.inl rfl)) pgs_nil)))))
    (pss_cons (ps_if (PW.pt (pw_or (pt_cmpR op_ne (pe_callB (call_show still hr.units) (by rfl) T.repr (by decide +kernel) (pa_cons (pe_lc (own := [("_law_again", 7)]) (g := (gName 7)) (tt := tYes) (te := tCall (spFM K CC) [] E0 (tCons (tVar 2) tNil)) rfl scCl.nd (pi_range1 rfl T.range (pa_cons pe_int pa_nil)) (blkOk_by (own := [("_law_again", 7)]) (N := nCl) (sc := defScope sCl) (by decide +kernel)) (fun _ _ _ _ _ => (pg_name (i := 7) scCl.nd rfl (Or.inl rfl))) (fun _ _ _ _ _ => pts_nil) (fun _ _ _ _ _ => (pe_call GFM (hr.mono (by decide)) (by rfl) DFM.m DFM.F.kp DFM.b .nil pass0 (pa_cons (pv 2) pa_nil)))) pa_nil)) (pe_callB (call_show still hr.units) (by rfl) T.repr (by decide +kernel) (pa_cons (pe_lst (pa_cons (pv 3) (pa_cons (pv 3) pa_nil))) pa_nil)) (nomark _)) (pw_or1 (pt_cmpR op_ne (pe_callB (call_show still hr.units) (by rfl) T.repr (by decide +kernel) (pa_cons (pe_call GIT (hr.mono (by decide)) (by rfl) DIT.m DIT.F.kp DIT.b .nil pass0 (pa_cons (pv 2) pa_nil)) pa_nil)) (pe_callB (call_show still hr.units) (by rfl) T.repr (by decide +kernel) (pa_cons (pe_cmpR op_isN (pv 3) pe_non (nomark _)) pa_nil)) (nomark _))))) (pss_one (ps_ret pe_bl)) pss_nil)
    (pss_cons (ps_if (PW.pt (pw_or (pt_cmpR (op_neD hr.units) (pe_call GFM (hr.mono (by decide)) (by rfl) DFM.m DFM.F.kp DFM.b .nil pass0 (pa_cons (pe_un (Ow.un_own GIv (hr.mono (by decide)) sIv fnIv bIv pass0) (pv 2)) pa_nil)) (pv 3) (nomark _)) (pw_or (pt_cmpR (op_neD hr.units) (pe_call GFM (hr.mono (by decide)) (by rfl) DFM.m DFM.F.kp DFM.b .nil pass0 (pa_cons (pe_call GV (hr.mono (by decide)) (by rfl) DV.m DV.F.kp DV.b .nil pass0 (pa_cons (pv 2) pa_nil)) pa_nil)) (pv 3) (nomark _)) (pw_or1 (PW.pt (pw_and (pt_cmpR op_notN (pv 3) pe_non (nomark _)) (pw_and1 (pt_not (pt_val (pe_call GIM (hr.mono (by decide)) (by rfl) DIM.m DIM.F.kp DIM.b .nil pass0 (pa_cons (pv 2) (pa_cons (pv 3) pa_nil)))))))))))) (pss_one (ps_ret pe_bl)) pss_nil)
    (pss_cons (ps_for PassesOwn.never rfl (pi_range1 rfl T.range (pa_cons pe_int pa_nil)) (pg_name (i := 5) scCl.nd rfl (Or.inl rfl))
      (pss_cons (ps_set (i := 6) scCl.nd rfl (Or.inl rfl) (pe_call GNr (hr.mono (by decide)) (by rfl) DNr.m DNr.F.kp DNr.b .nil pass0 (pa_cons (pv 0) (pa_cons (pv 1) (pa_cons (pv 3) pa_nil)))))
      (pss_one (ps_if (pt_cmpR op_ne (pe_callB (call_show still hr.units) (by rfl) T.repr (by decide +kernel) (pa_cons (pe_lst (pa_cons (pe_call GIM (hr.mono (by decide)) (by rfl) DIM.m DIM.F.kp DIM.b .nil pass0 (pa_cons (pv 2) (pa_cons (pv 6) pa_nil))) (pa_cons (pe_call GIM (hr.mono (by decide)) (by rfl) DIM.m DIM.F.kp DIM.b .nil pass0 (pa_cons (pe_un (Ow.un_own GIv (hr.mono (by decide)) sIv fnIv bIv pass0) (pv 2)) (pa_cons (pv 6) pa_nil))) pa_nil))) pa_nil)) (pe_callB (call_show still hr.units) (by rfl) T.repr (by decide +kernel) (pa_cons (pe_op op_rep (pe_lst (pa_cons (pe_call GID (hr.mono (by decide)) (by rfl) DID.m DID.F.kp DID.b .nil pass0 (pa_cons (pv 1) (pa_cons (pv 4) (pa_cons (pv 6) pa_nil)))) pa_nil)) pe_int) pa_nil)) (nomark _)) (pss_one (ps_ret pe_bl)) pss_nil))))
    (pss_one (ps_ret pe_bl))))))), ?_⟩
    refine ⟨_, rfl, _, rfl, c, rfl, hc, fun sg H1 hsg hc1 b1 => ⟨c, sg, rfl, hc1, hsg, fun p r H2 hP esg n9 hc2 b2 => ?_⟩⟩
    dsimp only [gName]
    have ok := hP.ok
    refine ⟨_, rfl, p, r, rfl, hP, fun x H3 s3 hX => ⟨_, rfl, p, r, rfl, hP.same s3, fun v H4 R ts s4 lean hv => ⟨_, rfl, p, r, rfl, (hP.same s3).same s4, fun L d g ln H5 m l s5 ner full eL hM hG eln => ⟨by show 3 ≤ sizeLine; decide, fun T0 nT0 => ⟨T0, _, rfl, SqT.of upd_same, rfl, _, _, rfl, _, _, rfl, _, _, rfl, rfl, ?_⟩⟩⟩⟩⟩
    have okL : okR R := by
      obtain ⟨m', l', n1, f1, rfl, _⟩ := id lean
      exact okR_lean ok f1
    have eRn : R.sg = r.sg := by
      obtain ⟨m', l', n1, f1, rfl, _⟩ := id lean
      rfl
    have eR : R = leanOf r m l := (LeanR.uniq ok ok rfl .refl lean ⟨m, l, ner, full, rfl, rfl⟩).1
    rw [← eR] at hM
    have sT := same_upd (o := .tup [.ref x, v, .ref L]) nT0
    have hv6 := (hv.same s5).same sT
    have hX6 := ((hX.same s4).same s5).same sT
    have hP6 := (((hP.same s3).same s4).same s5).same sT
    have eL6 := sT _ _ eL
    have hM6 := hM.same sT
    have hc6 := (((hc2.same s3).same s4).same s5).same sT
    have b6 : But c H (upd H5 T0 (.tup [.ref x, v, .ref L])) := (b1.trans b2).trans (But.of (((s3.trans s4).trans s5).trans sT))
    dsimp only [gName]
    show tSeq _ _ _ _ (upd H5 T0 (.tup [.ref x, v, .ref L]))
    generalize upd H5 T0 (.tup [.ref x, v, .ref L]) = H6 at hv6 hX6 hP6 eL6 hM6 hc6 b6 ⊢
    clear sT nT0 hM eln hG eL s5 s4 s3
    have full2 := full_any okL
    rw [eRn] at full2
    have lts := lean.len
    have hts := lean.txt ok
    have mlt : ∀ c' a b, fMerge R = some (c', a, b) → c' ∈ cds r.sg ∧ a < ts.length ∧ b < ts.length := fun c' a b e => by
      obtain ⟨h1, h2, h3⟩ := fMerge_lt e
      rw [okL.ord, eRn] at h1
      exact ⟨h1, by omega, by omega⟩
    obtain ⟨nd, sh⟩ := mgD_sh ok.sg hts (fMerge R) mlt
    have uniq : ∀ {R' : Rdr} {ts' : List (List Nat)}, LeanR r R' ts' → R' = R ∧ ts' = ts := fun h => LeanR.uniq ok ok rfl .refl h lean
    have inv : ∀ {R' : Rdr} {ts' : List (List Nat)}, okR (invR r) → LeanR (invR r) R' ts' → fMerge R' = fMerge R ∧ ts' = ts ∧ ∀ x, dueN r.sg R' x = dueN r.sg R x := fun ok' h => by
      obtain ⟨h1, h2, h3⟩ := inv_lean ok ok' lean h
      exact ⟨fMerge_eq h1 h2, h3, due_eq h1⟩
    have idem : ∀ {R' : Rdr} {ts' : List (List Nat)}, LeanR R R' ts' → R' = R ∧ ts' = ts := fun h => by
      obtain ⟨m', l', n1, f1, e1, e2⟩ := id lean
      have a : Au.Like (cds R.sg) (aut R) 0 (aut r) 0 := by
        rw [eRn, e1]
        exact lean_ans ok n1 f1
      exact LeanR.uniq okL ok eRn a h lean
    -- data of the merge, twice
    have sh2 : Sh 2 402 (.list [mgD ts (fMerge R), mgD ts (fMerge R)]) := (ShA.cons (n := 1) (w := 201) sh (ShA.cons (n := 1) (w := 0) sh .nil (Nat.le_refl _) (by decide)) (Nat.le_refl _) (by decide)).lst
    have dp2 : (PyData.list [mgD ts (fMerge R), mgD ts (fMerge R)]).depth < 60 := Nat.lt_of_le_of_lt sh2.dp (by decide)
    have ln2 := sh2.len (by decide)
    have nol2 : (PyData.list [mgD ts (fMerge R), mgD ts (fMerge R)]).hasDict = false := by
      show ((mgD ts (fMerge R)).hasDict || ((mgD ts (fMerge R)).hasDict || false)) = false
      rw [nd]
      rfl
    refine ⟨_, rfl, by decide, by decide, fun D nD => ?_⟩
    refine lc_range (lo := 0) (n := 2) (fun i H7 => Same H6 H7 ∧ ∃ vs : List V, H7 D = some (.lst vs) ∧ vs.length = i ∧ ∀ y ∈ vs, MgAt K H7 y ts (fMerge R)) ⟨same_upd nD, [], upd_same, rfl, fun y hy => by cases hy⟩ ?_ ?_
    · rintro i H7 hi ⟨s7, vs, eD, lvs, hvs⟩
      refine ⟨rfl, iteT (B := False) ?_⟩
      refine ⟨_, rfl, x, r, rfl, hX6.same s7, fun v' H8 R' ts' s8 lean' hv' => ?_⟩
      obtain ⟨rfl, rfl⟩ := uniq lean'
      have eD8 := s8 _ _ eD
      have keep : ∀ {y : V}, MgAt K H8 y ts' (fMerge R') → MgAt K (upd H8 D (.lst (vs ++ [v']))) y ts' (fMerge R') := fun h => mg_butL eD8 h
      refine ⟨vs, eD8, by rw [lvs]; exact Nat.lt_of_lt_of_le hi (by decide), same_put (s7.trans s8) nD, vs ++ [v'], upd_same, by rw [List.length_append, lvs]; rfl, fun y hy => ?_⟩
      rcases List.mem_append.mp hy with hy | hy
      · exact keep ((hvs y hy).same s8)
      · rw [List.mem_singleton.mp hy]
        exact keep hv'
    · rintro H7 ⟨s7, vs, eD, lvs, hvs⟩
      obtain ⟨v1, v2, rfl⟩ : ∃ v1 v2, vs = [v1, v2] := match vs, lvs with | [a, b], _ => ⟨a, b, rfl⟩
      have d1 := mg_dp (hvs v1 List.mem_cons_self)
      have d2 := mg_dp (hvs v2 (List.mem_cons_of_mem _ List.mem_cons_self))
      refine ⟨_, _, rfl, .flat (.lst (SqL.of eD) (.cons d1 (.cons d2 .nil))) nol2, sh2.sh, dp2, ln2, ?_⟩
      have hv7 := hv6.same s7
      refine ⟨_, rfl, _, rfl, by show 2 ≤ sizeLine; decide, fun A nA => ?_⟩
      have sA := same_upd (o := .lst [v, v]) nA
      have dvA := mg_dp (hv7.same sA)
      refine ⟨_, _, rfl, .flat (.lst (SqL.of upd_same) (.cons dvA (.cons dvA .nil))) nol2, sh2.sh, dp2, ln2, rfl, _, rfl, ?_⟩
      rw [decide_eq_true rfl]
      refine iteF' Bool.false_ne_true ?_
      have s7A := s7.trans sA
      have hv8 := hv7.same sA
      generalize upd H7 A (.lst [v, v]) = H8 at s7A hv8 ⊢
      have bsh : ∀ b : Bool, (PyData.bool b).shown.length ≤ sizeLine := fun b => by
        cases b
        · exact Nat.le_trans (show _ ≤ 10 by decide +kernel) (by decide)
        · exact Nat.le_trans (show _ ≤ 10 by decide +kernel) (by decide)
      refine ⟨_, rfl, x, r, rfl, hX6.same s7A, fun H9 R' ts' s9 lean' => ?_⟩
      obtain ⟨e1, e2⟩ := uniq lean'
      rw [e1]
      clear lean' e1 e2
      have hv9 := hv8.same s9
      refine ⟨_, _, rfl, .flat (.bl _) rfl, rfl, by show 0 < 60; decide, bsh _, _, rfl, rfl, ?_⟩
      rw [mg_non hv9]
      refine ⟨_, _, rfl, .flat (.bl _) rfl, rfl, by show 0 < 60; decide, bsh _, rfl, _, rfl, ?_⟩
      rw [decide_eq_true rfl]
      refine iteF' Bool.false_ne_true ?_
      have s89 := s7A.trans s9
      have hX9 := hX6.same s89
      obtain ⟨dx9, _, _, ex9, _⟩ := id hX9
      have dpM : SeqAt.shaped (mgD ts (fMerge R)) = true := mgD_shaped sh
      refine ⟨_, rfl, x, dx9, _, rfl, ex9, x, r, rfl, hX9, fun z H10 s10 hz => ⟨z, invR r, rfl, hz, fun v' H11 R' ts' s11 lean' hv' => ?_⟩⟩
      obtain ⟨e1, e2, _⟩ := inv hz.ok lean'
      rw [e1, e2] at hv'
      clear lean' e1 e2
      have hv11 := (hv9.same s10).same s11
      refine ⟨_, rfl, _, _, mg_dp hv', mg_dp hv11, dpM, dpM, _, rfl, ?_⟩
      rw [mgD_eqv]
      refine iteF' Bool.false_ne_true ?_
      have hX11 := (hX9.same s10).same s11
      refine ⟨_, rfl, x, r, rfl, hX11, fun y H12 m2 l2 s12 ner2 full3 hy => ?_⟩
      have eR2 : leanOf r m2 l2 = R := (uniq ⟨m2, l2, ner2, full3, rfl, rfl⟩).1
      rw [eR2] at hy
      refine ⟨y, R, rfl, hy, fun v2' H13 R' ts' s13 lean' hv2 => ?_⟩
      obtain ⟨e1, e2⟩ := idem lean'
      rw [e1, e2] at hv2
      clear lean' e1 e2
      have hv13 := (hv11.same s12).same s13
      have hX13 := (hX11.same s12).same s13
      refine ⟨_, rfl, _, _, mg_dp hv2, mg_dp hv13, dpM, dpM, _, rfl, ?_⟩
      rw [mgD_eqv]
      refine iteF' Bool.false_ne_true ?_
      have s13a := (((s89.trans s10).trans s11).trans s12).trans s13
      refine two_way (fun H' => Same H6 H') ?_ fun tl => ?_
      · intro H14 s14
        refine iteF' Bool.false_ne_true ?_
        refine ⟨_, rfl, by decide, by decide, for_range (n := 10) (fun i σ H' => ∃ o5 o6 : Option V, σ = [some (.ref c), some (.ref p), some (.ref x), some v, some (.ref L), o5, o6, none] ∧ Cup H' c ∧ But c H6 H') ⟨_, _, rfl, hc6.same s14, But.of s14⟩ ?_ ?_⟩
        · rintro i σ H15 hi ⟨o5, o6, rfl, hc15, b15⟩
          dsimp only [gName]
          have hP15 := hP6.but hc6 b15
          have hv15 := mg_but hc6 b15 hv6
          refine ⟨_, rfl, _, rfl, _, rfl, c, p, r, R, ts, v, rfl, hc15, hP15, eRn, okL, lts, hts, hv15, fun u nv H16 hu16 oku hc16 b16 => ?_⟩
          dsimp only [gName]
          have b616 : But c H6 H16 := b15.trans b16
          have hX16 := hX6.but hc6 b616
          refine ⟨_, rfl, _, rfl, x, r, u, nv, rfl, hX16, hu16, oku, fun H17 R' ts' s17 lean' => ?_⟩
          obtain ⟨e1, e2⟩ := uniq lean'
          rw [e1]
          clear lean' e1 e2
          have hX17 := hX16.same s17
          obtain ⟨dx17, _, _, ex17, _⟩ := id hX17
          refine ⟨_, rfl, x, dx17, _, rfl, ex17, x, r, rfl, hX17, fun z H18 s18 hz => ⟨_, rfl, z, invR r, u, nv, rfl, hz, (hu16.same s17).same s18, oku, fun H19 R' ts' s19 lean' => ?_⟩⟩
          obtain ⟨_, _, e3⟩ := inv hz.ok lean'
          have e3 : dueN (invR r).sg R' nv = dueN r.sg R nv := e3 nv
          rw [e3]
          clear lean' e3
          generalize hb : dueN r.sg R nv = bb
          refine ⟨by show 2 ≤ sizeLine; decide, fun A2 nA2 => ?_⟩
          have sA2 := same_upd (o := .lst [.bl bb, .bl bb]) nA2
          obtain ⟨bs2, bd2, bl2⟩ := bools2 bb
          refine ⟨_, .list [.bool bb, .bool bb], rfl, .flat (.lst (SqL.of upd_same) (.cons (.bl _) (.cons (.bl _) .nil))) rfl, bs2, bd2, bl2, ?_⟩
          have s16a := ((s17.trans s18).trans s19).trans sA2
          generalize upd H19 A2 (.lst [.bl bb, .bl bb]) = H20 at s16a ⊢
          have b620 : But c H6 H20 := b616.trans (But.of s16a)
          have hc20 := hc16.same s16a
          have hP20 := hP6.but hc6 b620
          have hM20 := hM6.but hc6 b620
          have eL20 : H20 L = some (.dK (kvL r.sg d g ln)) := by
            obtain ⟨_, _, _, ec⟩ := hc6
            exact b620 _ _ (fun z => by rw [z, ec] at eL6; cases eL6) eL6
          refine ⟨_, rfl, _, rfl, _, rfl, p, L, d, r, R, u, nv, rfl, hP20, DGet.k (k := (Sum.inr "ways" : Key)) eL20, hM20, okL, eRn, hu16.same s16a, oku, fun H21 s21 => ?_⟩
          rw [hb]
          refine ⟨by show 1 ≤ sizeLine; decide, fun A3 nA3 => ?_⟩
          have sA3 := same_upd (o := .lst [.bl bb]) nA3
          refine ⟨A3, 2, _, rfl, rfl, upd_same, by decide, by decide, by show 1 * 2 ≤ sizeLine; decide, fun A4 nA4 => ?_⟩
          have sA4 := same_upd (o := .lst (List.replicate (Int.toNat 2) [V.bl bb]).flatten) nA4
          refine ⟨_, .list [.bool bb, .bool bb], rfl, .flat (.lst (SqL.of upd_same) (.cons (.bl _) (.cons (.bl _) .nil))) rfl, bs2, bd2, bl2, rfl, _, rfl, ?_⟩
          rw [decide_eq_true rfl]
          refine iteF' Bool.false_ne_true ?_
          have sF := (s21.trans sA3).trans sA4
          exact ⟨_, _, rfl, hc20.same sF, b620.trans (But.of sF)⟩
        · rintro σ H15 ⟨o5, o6, rfl, hc15, b15⟩
          exact q _ hc15 (b6.trans b15)
      · refine ⟨_, rfl, rfl, _, rfl, ?_⟩
        cases hm : fMerge R with
        | none =>
          rw [hm] at hv13
          have hv13 : v = .non := hv13
          rw [hv13]
          refine iteF' (by decide) ?_
          rw [← hv13]
          exact tl _ s13a
        | some mab =>
          obtain ⟨mc, ma, mb⟩ := mab
          rw [hm] at hv13
          obtain ⟨pd, rfl, epd⟩ := hv13
          refine iteT' rfl ?_
          obtain ⟨fc, fa, fb⟩ := mlt _ _ _ hm
          have fin1 : ∀ t ∈ ts, Fine (tx t) := fun t ht => over_fine ok.sg (fun y hy => (hts t ht).1 y hy) (by rw [tx_len]; have := (hts t ht).2; omega)
          have ta : ts.getD ma [] ∈ ts := by rw [List.getD_eq_getElem?_getD, List.getElem?_eq_getElem fa]; exact List.getElem_mem _
          have tb : ts.getD mb [] ∈ ts := by rw [List.getD_eq_getElem?_getD, List.getElem?_eq_getElem fb]; exact List.getElem_mem _
          refine ⟨_, rfl, _, rfl, x, r, .ref pd, .tup [.s (one mc), .s (tx (ts.getD ma [])), .s (tx (ts.getD mb []))], rfl, hX13, ⟨pd, rfl, epd⟩, ⟨fun a ha => ?_, by show 3 ≤ 10; decide⟩, fun H14 R' ts' s14 lean' => ⟨_, rfl, ?_⟩⟩
          · rcases List.mem_cons.mp ha with rfl | ha
            · exact over_fine ok.sg (fun y hy => by have hy : y ∈ [mc] := hy; rw [List.mem_singleton.mp hy]; exact fc) (by show 1 ≤ 4000; decide)
            · rcases List.mem_cons.mp ha with rfl | ha
              · exact fin1 _ ta
              · rw [List.mem_singleton.mp ha]
                exact fin1 _ tb
          · obtain ⟨e1, e2⟩ := uniq lean'
            rw [e1, due_self ok okL eRn lean full2 hm]
            exact tl _ (s13a.trans s14)
end
end K24

set_option Elab.async false
set_option linter.all false
set_option maxRecDepth 100000
set_option maxHeartbeats 6400000
/-! text * n -/
namespace Mt
open PySem PySem.Spec PyProof.Rows L2 Tx
section
variable {X : Cx}
theorem mulT_ok {z : Str} {n : Int} (hz : z.length ≤ 100) (h1 : 1 ≤ n) (h2 : n ≤ 100) : MulOk z n := by
  refine ⟨?_, fun _ _ => ?_, fun _ _ => ?_⟩
  · rw [decide_eq_false (by omega), decide_eq_false (by omega)]
    rfl
  · have : (100 : Int) ≤ (2 ^ 63 - 1) / n := Int.le_ediv_of_mul_le (by omega) (by omega)
    omega
  · have e : PySem.Builtin.Str.tooLong (z.length * n.toNat) = decide (z.length * n.toNat > sizeLine) := rfl
    rw [e]
    refine decide_eq_false ?_
    have := Nat.mul_le_mul hz (show n.toNat ≤ 100 by omega)
    rw [sizeLine_eq]
    omega
theorem op_mulT : OpR X (binaryOp .Mult) (fun x y H Q => ∃ (z : Str) (n : Int), x = .str z ∧ y = .int n ∧ z.length ≤ 100 ∧ 1 ≤ n ∧ n ≤ 100 ∧ Q (.str (Txt.mul z n)) H) := by
  intro pins s σ H x y v u Q I rx ry h
  obtain ⟨z, n, rfl, rfl, hz, h1, h2, q⟩ := h
  obtain ⟨t, rfl⟩ := rx
  obtain ⟨t', rfl⟩ := ry
  exact SB.mul (mulT_ok hz h1 h2) fun t2 k => ⟨.str (Txt.mul z n), H, I.tok _, ⟨t2, rfl⟩, q⟩
theorem mulL_ok {z : Str} {n : Int} (hz : z.length ≤ 10) (h1 : 1 ≤ n) (h2 : n ≤ 10000) : MulOk z n := by
  refine ⟨?_, fun _ _ => ?_, fun _ _ => ?_⟩
  · rw [decide_eq_false (by omega), decide_eq_false (by omega)]
    rfl
  · have : (100 : Int) ≤ (2 ^ 63 - 1) / n := Int.le_ediv_of_mul_le (by omega) (by omega)
    omega
  · have e : PySem.Builtin.Str.tooLong (z.length * n.toNat) = decide (z.length * n.toNat > sizeLine) := rfl
    rw [e]
    refine decide_eq_false ?_
    have := Nat.mul_le_mul hz (show n.toNat ≤ 10000 by omega)
    rw [sizeLine_eq]
    omega
theorem op_mulL : OpR X (binaryOp .Mult) (fun x y H Q => ∃ (z : Str) (n : Int), x = .str z ∧ y = .int n ∧ z.length ≤ 10 ∧ 1 ≤ n ∧ n ≤ 10000 ∧ Q (.str (Txt.mul z n)) H) := by
  intro pins s σ H x y v u Q I rx ry h
  obtain ⟨z, n, rfl, rfl, hz, h1, h2, q⟩ := h
  obtain ⟨t, rfl⟩ := rx
  obtain ⟨t', rfl⟩ := ry
  exact SB.mul (mulL_ok hz h1 h2) fun t2 k => ⟨.str (Txt.mul z n), H, I.tok _, ⟨t2, rfl⟩, q⟩
end
end Mt

set_option Elab.async false
set_option linter.all false
set_option maxRecDepth 100000
set_option maxHeartbeats 6400000
/-! the law's fixed readers, as mathematics -/
namespace K24
open PySem L2 Tx Tg Tm Da RZ Ek It2
def rEnds : Rdr := ⟨"ab", [(97, [1, 1]), (98, [0, 0])], [1], 2⟩
def rAll : Rdr := ⟨"a", [(97, [1, 1])], [0, 1], 2⟩
def rNil : Rdr := ⟨"a", [(97, [0])], [0], 1⟩
theorem cds_ab : cds ("ab" : Str) = [97, 98] := by decide +kernel
theorem cds_a1 : cds ("a" : Str) = [97] := by decide +kernel
theorem sg_ab : Signs "ab" := .inl rfl
theorem sg_a : Signs "a" := .inr (.inr (.inl rfl))
theorem ok_of2 {n : Nat} {a b G : List Nat} (ha : a.length = n) (hb : b.length = n) (qa : ∀ q ∈ a, q < n) (qb : ∀ q ∈ b, q < n) (h1 : 1 ≤ n) (h2 : n ≤ 60) (hG : okG n G) (few : G.length ≤ 60) : okR ⟨"ab", [(97, a), (98, b)], G, n⟩ where
  sg := sg_ab
  ord := cds_ab.symm
  W := ⟨by rw [cds_ab]; exact .refl _, fun w hw => by
    rcases List.mem_cons.mp hw with rfl | hw
    · exact ⟨ha, qa⟩
    · rw [List.mem_singleton.mp hw]
      exact ⟨hb, qb⟩, h1, h2⟩
  G := hG
  few := few
theorem ok_of1 {n : Nat} {a G : List Nat} (ha : a.length = n) (qa : ∀ q ∈ a, q < n) (h1 : 1 ≤ n) (h2 : n ≤ 60) (hG : okG n G) (few : G.length ≤ 60) : okR ⟨"a", [(97, a)], G, n⟩ where
  sg := sg_a
  ord := cds_a1.symm
  W := ⟨by rw [cds_a1]; exact .refl _, fun w hw => by
    rw [List.mem_singleton.mp hw]
    exact ⟨ha, qa⟩, h1, h2⟩
  G := hG
  few := few
theorem okR_ends : okR rEnds := ok_of2 rfl rfl (by decide) (by decide) (by decide) (by decide) ⟨by decide, by decide⟩ (by decide)
theorem okR_all : okR rAll := ok_of1 rfl (by decide) (by decide) (by decide) ⟨by decide, by decide⟩ (by decide)
/-- texts that part all states -/
theorem ner_id {r : Rdr} (ws : List (List Nat)) (hl : ∀ w ∈ ws, ∀ c ∈ w, c ∈ cds r.sg) (h : ∀ s, s < r.n → ∀ t, t < r.n → s ≠ t → ∃ w ∈ ws, Au.says (aut r) s w ≠ Au.says (aut r) t w) : Au.Ner (cds r.sg) (aut r) id := fun s t hs ht => by
  constructor
  · intro e
    have e : s = t := e
    rw [e]
    exact fun _ _ => rfl
  · intro like
    by_cases e : s = t
    · exact e
    · obtain ⟨w, hw, ne⟩ := h s hs t ht e
      exact absurd (like w (hl w hw)) ne
def lEnds : List (Nat × List Nat) := [(0, []), (1, [97])]
theorem full_ends : Au.Full (cds rEnds.sg) (aut rEnds).to 0 lEnds := ⟨2, by decide +kernel, by decide⟩
theorem ner_ends : Au.Ner (cds rEnds.sg) (aut rEnds) id := by
  refine ner_id [[]] (by intro w hw c hc; rw [List.mem_singleton.mp hw] at hc; cases hc) ?_
  show ∀ s, s < 2 → ∀ t, t < 2 → s ≠ t → _
  decide +kernel
theorem lean_ends : LeanR rEnds rEnds [[], [97]] := ⟨id, lEnds, ner_ends, full_ends, by
  unfold leanOf
  rw [show cds rEnds.sg = [97, 98] from cds_ab]
  rfl, rfl⟩
theorem ends_uniq {R : Rdr} {ts : List (List Nat)} (h : LeanR rEnds R ts) : R = rEnds ∧ ts = [[], [97]] := LeanR.uniq okR_ends okR_ends rfl .refl h lean_ends
theorem merge_ends : fMerge rEnds = some (97, 0, 1) := by decide +kernel
theorem full_all : Au.Full (cds rAll.sg) (aut rAll).to 0 [(0, []), (1, [97])] := ⟨2, by decide +kernel, by decide⟩
theorem ner_all : Au.Ner (cds rAll.sg) (aut rAll) (fun _ => 0) := fun s t hs ht => by
  refine ⟨fun _ => ?_, fun _ => rfl⟩
  have says : ∀ (w : List Nat) (s : Nat), s < 2 → (∀ c ∈ w, c ∈ cds rAll.sg) → Au.says (aut rAll) s w = true := fun w => by
    induction w with
    | nil =>
      intro s hs _
      show decide (s ∈ [0, 1]) = true
      exact decide_eq_true (by have : s = 0 ∨ s = 1 := by omega
                               rcases this with rfl | rfl <;> decide)
    | cons c w ih => exact fun s hs hw => ih _ ((fit_of okR_all).cl c (hw c List.mem_cons_self) s hs) fun d hd => hw d (List.mem_cons_of_mem _ hd)
  exact fun w hw => (says w s hs hw).trans (says w t ht hw).symm
theorem lean_all : LeanR rAll rNil [[]] := ⟨fun _ => 0, _, ner_all, full_all, by
  unfold leanOf
  rw [show cds rAll.sg = [97] from cds_a1]
  rfl, rfl⟩
theorem all_uniq {R : Rdr} {ts : List (List Nat)} (h : LeanR rAll R ts) : fMerge R = none := by
  rw [(LeanR.uniq okR_all okR_all rfl .refl h lean_all).1]
  decide +kernel
theorem v1 : dueN rEnds.sg rEnds (.tup [.s "b", .s "bb", .s "aa"]) = true := by decide +kernel
theorem v2 : dueN rEnds.sg rEnds (.tup [.s "b", .s "bb", .s "ab"]) = false := by decide +kernel
theorem v3 : dueN rEnds.sg rEnds (.tup [.s "a", .s (Txt.mul "a" 4000), .s (Txt.mul "b" 4000)]) = true := by decide +kernel
theorem v4 : dueN rEnds.sg rEnds (.tup [.s "a", .s (Txt.mul "a" 4001), .s "b"]) = false := by decide +kernel
theorem cds_mul : (cds (Txt.mul "a" 4000) = List.replicate 4000 97 ∧ cds (Txt.mul "b" 4000) = List.replicate 4000 98) ∧ cds (Txt.mul "a" 4001) = List.replicate 4001 97 := by decide +kernel
theorem fine_rep {z : Str} {c n : Nat} (h : cds z = List.replicate n c) (hn : n ≤ 4001) (hc : c < 128) : Fine z := ⟨by rw [← cds_len, h, List.length_replicate]; exact hn, by
  have h1 := (ups_perm (cds z)).length_eq
  rw [← h1]
  have h2 : (ups (cds z)).length ≤ [c].length := Pm.len_le (ups_nodup (cds z)) fun y hy => by
    have := (ups_mem _ y).mp hy
    rw [h] at this
    rw [(List.mem_replicate.mp this).2]
    exact List.mem_singleton_self _
  exact Nat.lt_of_le_of_lt h2 (show 1 < 64 by decide), fun y hy => by
  rw [h] at hy
  rw [(List.mem_replicate.mp hy).2]
  exact hc⟩
end K24

set_option Elab.async false
set_option linter.all false
set_option maxRecDepth 100000
set_option maxHeartbeats 12800000
namespace K24
open PySem L2 Tx Tg Tm Da RZ Ek It2
/-! ### the law -/
abbrev nLaw : List Str := ["_law_script", "_law_at", "_law_cup_here", "_law_ends", "_law_found"]
abbrev sLaw2 : Stmt := top 70
theorem scLaw : FnScope nLaw ["_law_script"] (defScope sLaw2) := ⟨rfl, rfl, rfl, by decide +kernel, rfl, by decide +kernel, by decide +kernel⟩
def spLaw (K : PySem.W.Frag) : Sp := fun vs H Q _ => ∃ (a : Addr) (ns : List Int), vs = [.ref a] ∧ SqL K H a (ns.map V.int) ∧ ns.length ≤ 63 ∧ ∀ H', Q (.bl true) H'
abbrev dTold : List PyData := [.tuple [.str ("a" : Str), .str ("" : Str), .str ("a" : Str)], .bool true, .bool false, .bool true, .bool false, .bool true]
theorem told_sh : SeqAt.shaped (.list dTold) = true := by decide +kernel
theorem told_eq : PyData.eqv (.list dTold) (.list dTold) = true := by decide +kernel
section
variable {P : Program} {w : World} {K : PySem.W.Frag} {mg : Str → Option Value} {base : Heap} {CC : Addr}
/-- a term that gives a new row of numbers -/
def RowE (te : TE) (σ : L2.St) (l : List Nat) : Prop := ∀ (H : Hp) (Q : VK), (∀ p H', Same H H' → RowAt H' p l → Q (.ref p) H') → te σ H Q
theorem one_ab : one 97 = ("a" : Str) ∧ one 98 = ("b" : Str) := by decide +kernel
theorem mk_two {σ : L2.St} {H : Hp} {Q : VK} {ta tb tg : TE} {a b G : List Nat} {n : Nat} (ok : okR ⟨"ab", [(97, a), (98, b)], G, n⟩) (ha : RowE ta σ a) (hb : RowE tb σ b) (hg : RowE tg σ G)
    (q : ∀ x H', Same H H' → RdAt CC H' x ⟨"ab", [(97, a), (98, b)], G, n⟩ → Q (.ref x) H') : tMake CC (spInit CC) [] E0 (tCons (tC (.str ("ab" : Str))) (tCons (tDisp [(tC (.str ("a" : Str)), ta), (tC (.str ("b" : Str)), tb)]) (tCons tg tNil))) σ H Q := by
  obtain ⟨oa, ob⟩ := one_ab
  intro pD nD
  refine ha _ _ fun pa H1 s1 ra => hb _ _ fun pb H2 s2 rb => ?_
  have eD : H2 pD = some (.dK []) := s2 _ _ (s1 _ _ upd_same)
  refine ⟨eD, [(Sum.inr "a", .ref pa), (Sum.inr "b", .ref pb)], rfl, (by show 2 ≤ 15; decide), hg _ _ fun pg H3 s3 rg => ?_⟩
  have s02 : Same (upd H pD (.dK [])) H2 := s1.trans s2
  have sP : Same H (upd H2 pD (.dK (mergeK [] [(Sum.inr ("a" : Str), V.ref pa), (Sum.inr ("b" : Str), V.ref pb)]))) := same_put ((same_upd nD).trans s02) nD
  have kT : KeepT H2 (upd H2 pD (.dK (mergeK [] [(Sum.inr ("a" : Str), V.ref pa), (Sum.inr ("b" : Str), V.ref pb)]))) := KeepT.upd (.dK eD)
  have hM : MovAt H3 pD [(97, a), (98, b)] := by
    refine MovAt.same s3 ⟨[(Sum.inr ("a" : Str), V.ref pa), (Sum.inr ("b" : Str), V.ref pb)], ?_, .cons ⟨pa, by rw [oa], kT _ _ (s2 _ _ ra)⟩ (.cons ⟨pb, by rw [ob], kT _ _ rb⟩ .nil)⟩
    rw [upd_same]
    rfl
  refine made_tail ok.sg hM ok.W rg ok.G ok.few fun x H' s h => q x H' ((sP.trans s3).trans s) ?_
  rw [ordW_self ok.sg ok.ord] at h
  exact h
theorem mk_one {σ : L2.St} {H : Hp} {Q : VK} {ta tg : TE} {a G : List Nat} {n : Nat} (ok : okR ⟨"a", [(97, a)], G, n⟩) (ha : RowE ta σ a) (hg : RowE tg σ G)
    (q : ∀ x H', Same H H' → RdAt CC H' x ⟨"a", [(97, a)], G, n⟩ → Q (.ref x) H') : tMake CC (spInit CC) [] E0 (tCons (tC (.str ("a" : Str))) (tCons (tDisp [(tC (.str ("a" : Str)), ta)]) (tCons tg tNil))) σ H Q := by
  obtain ⟨oa, ob⟩ := one_ab
  intro pD nD
  refine ha _ _ fun pa H2 s1 ra => ?_
  have eD : H2 pD = some (.dK []) := s1 _ _ upd_same
  refine ⟨eD, [(Sum.inr "a", .ref pa)], rfl, (by show 1 ≤ 15; decide), hg _ _ fun pg H3 s3 rg => ?_⟩
  have sP : Same H (upd H2 pD (.dK (mergeK [] [(Sum.inr ("a" : Str), V.ref pa)]))) := same_put ((same_upd nD).trans s1) nD
  have kT : KeepT H2 (upd H2 pD (.dK (mergeK [] [(Sum.inr ("a" : Str), V.ref pa)]))) := KeepT.upd (.dK eD)
  have hM : MovAt H3 pD [(97, a)] := by
    refine MovAt.same s3 ⟨[(Sum.inr ("a" : Str), V.ref pa)], ?_, .cons ⟨pa, by rw [oa], kT _ _ ra⟩ .nil⟩
    rw [upd_same]
    rfl
  refine made_tail ok.sg hM ok.W rg ok.G ok.few fun x H' s h => q x H' ((sP.trans s3).trans s) ?_
  rw [ordW_self ok.sg ok.ord] at h
  exact h
theorem row2 {σ : L2.St} {a b : Nat} : RowE (tTup (tCons (tC (V.int (a : Int))) (tCons (tC (V.int (b : Int))) tNil))) σ [a, b] := fun H Q q => ⟨by show 2 ≤ sizeLine; decide, fun p np => q p _ (same_upd np) upd_same⟩
theorem row1 {σ : L2.St} {a : Nat} : RowE (tTup (tCons (tC (V.int (a : Int))) tNil)) σ [a] := fun H Q q => ⟨by show 1 ≤ sizeLine; decide, fun p np => q p _ (same_upd np) upd_same⟩
theorem ev_im {H : Hp} {σ : L2.St} {x : Addr} {te : TE} {nv : NV} {b : Bool} {Q : VK} (h3 : σ[3]? = some (some (.ref x))) (hx : RdAt CC H x rEnds) (hn : EvN H te σ nv) (okn : okNv nv) (hd : dueN rEnds.sg rEnds nv = b) (q : ∀ H', Same H H' → Q (.bl b) H') : tCall (spIM CC) [] E0 (tCons (tVar 3) (tCons te tNil)) σ H Q :=
  ⟨_, h3, hn H (Same.refl _) _ fun v H1 s1 hv => ⟨x, rEnds, v, nv, rfl, hx.same s1, hv, okn, fun H2 R ts s2 lean => by
    rw [(ends_uniq lean).1, hd]
    exact q H2 (s1.trans s2)⟩⟩
theorem ev_ist {H : Hp} {σ : L2.St} {te : TE} {Q : VK} (h : ∀ Q : VK, (∀ y H', Same H H' → RdAt CC H' y rAll → Q (.ref y) H') → te σ H Q) (q : ∀ H', Same H H' → Q (.bl true) H') : tCall (spIsT CC) [] E0 (tCons te tNil) σ H Q :=
  h _ fun y H1 s1 hy => ⟨y, rAll, rfl, hy, fun H2 R ts s2 lean => by
    rw [all_uniq lean]
    exact q H2 (s1.trans s2)⟩
theorem evi_mul {H0 : Hp} {σ : L2.St} {z : Str} {n : Int} (hz : z.length ≤ 10) (h1 : 1 ≤ n) (h2 : n ≤ 10000) : EvI H0 (tOp (fun x y H Q => ∃ (z : Str) (n : Int), x = .str z ∧ y = .int n ∧ z.length ≤ 10 ∧ 1 ≤ n ∧ n ≤ 10000 ∧ Q (.str (Txt.mul z n)) H) (tC (.str z)) (tC (.int n))) σ (.s (Txt.mul z n)) := fun H s Q q => ⟨z, n, rfl, rfl, hz, h1, h2, q⟩
theorem okt {a b c : Str} (ha : Fine a) (hb : Fine b) (hc : Fine c) : okNv (.tup [.s a, .s b, .s c]) := by simp [okNv, okIt, ha, hb, hc]
theorem ok_law {f fC fT fFM fIM fIT : Addr} {fd dC dT dFM dIM dIT : FuncData} (F : Fun K "law" "law" sLaw2 f fd) (T : Txt K mg) (C : Cl P w K mg base CC)
    (DC : Df K mg "_law_cup" sCup ["_law_script", "_law_at"] fC dC) (DT : Df K mg "_law_cell_right" sCl ["_law_cup_here"] fT dT) (DFM : Df K mg "first_merge" sFM ["reader"] fFM dFM) (DIM : Df K mg "is_merge" sIM ["reader", "value"] fIM dIM) (DIT : Df K mg "is_turning" sIsT ["reader"] fIT dIT)
    (GC : FnOk P w K mg base CX0 1 fC dC ["_law_script", "_law_at"] (spCup K)) (GT : Kept P w K mg base CX0 10 fT dT ["_law_cup_here"] spCl) (GFM : FnOk P w K mg base CX0 8 fFM dFM ["reader"] (spFM K CC)) (GIM : FnOk P w K mg base CX0 8 fIM dIM ["reader", "value"] (spIM CC)) (GIT : FnOk P w K mg base CX0 9 fIT dIT ["reader"] (spIsT CC)) :
    Kept P w K mg base CX0 11 f fd ["_law_script"] (spLaw K) := by
  refine Kept.fn F scLaw (fun vs H Q E h => ?_) (fun cdv A outer s H vs Q E hr still h => ?_)
  · obtain ⟨a, ns, rfl, _⟩ := h
    rfl
  · obtain ⟨a, ns, rfl, hS, hlen, q⟩ := h
    refine ⟨_, (pss_cons (ps_for PassesOwn.never rfl (pi_range1 rfl T.range (pa_cons (pe_callB (call_max2 rfl) (by rfl) T.max (by decide +kernel) (pa_cons pe_int (pa_cons (pe_callB (call_min2 rfl) (by rfl) T.min (by decide +kernel) (pa_cons pe_int (pa_cons (pe_callB call_len (by rfl) T.len PySem.boot_len (pa_cons (pv 0) pa_nil)) pa_nil))) pa_nil))) pa_nil)) (pg_name (i := 1) scLaw.nd rfl (Or.inl rfl))
      (pss_cons (ps_set (i := 2) scLaw.nd rfl (Or.inl rfl) (pe_call GC (hr.mono (by decide)) (by rfl) DC.m DC.F.kp DC.b .nil pass0 (pa_cons (pv 0) (pa_cons (pv 1) pa_nil))))
      (pss_one (ps_if (PW.pt (pw_or (pt_not (pt_val (pe_callG GT (hr.mono (by decide)) still (by rfl) DT.m DT.F.kp DT.b .nil pass0 (pa_cons (pv 2) pa_nil)))) (pw_or1 (pt_not (pt_val (pe_callG GT (hr.mono (by decide)) still (by rfl) DT.m DT.F.kp DT.b .nil pass0 (pa_cons (pv 2) pa_nil))))))) (pss_one (ps_ret pe_bl)) pss_nil))))
    (pss_cons (ps_set (i := 3) scLaw.nd rfl (Or.inl rfl) (pe_make C.MK.M C.MK.gi (hr.mono (by decide)) (by rfl) C.MK.W.gR C.MK.bi .nil pass0 (pa_cons pe_str (pa_cons (pe_disp (pps_cons pe_str (pe_tup (pa_cons pe_int (pa_cons pe_int pa_nil))) (pps_cons pe_str (pe_tup (pa_cons pe_int (pa_cons pe_int pa_nil))) pps_nil)) (by rfl) (by rfl) (fun z => by cases z) (by decide)) (pa_cons (pe_tup (pa_cons pe_int pa_nil)) pa_nil)))))
    (pss_cons (ps_set (i := 4) scLaw.nd rfl (Or.inl rfl) (pe_lst (pa_cons (pe_call GFM (hr.mono (by decide)) (by rfl) DFM.m DFM.F.kp DFM.b .nil pass0 (pa_cons (pv 3) pa_nil)) (pa_cons (pe_call GIM (hr.mono (by decide)) (by rfl) DIM.m DIM.F.kp DIM.b .nil pass0 (pa_cons (pv 3) (pa_cons (pe_tup (pa_cons pe_str (pa_cons pe_str (pa_cons pe_str pa_nil)))) pa_nil))) (pa_cons (pe_call GIM (hr.mono (by decide)) (by rfl) DIM.m DIM.F.kp DIM.b .nil pass0 (pa_cons (pv 3) (pa_cons (pe_tup (pa_cons pe_str (pa_cons pe_str (pa_cons pe_str pa_nil)))) pa_nil))) (pa_cons (pe_call GIM (hr.mono (by decide)) (by rfl) DIM.m DIM.F.kp DIM.b .nil pass0 (pa_cons (pv 3) (pa_cons (pe_tup (pa_cons pe_str (pa_cons (pe_op Mt.op_mulL pe_str pe_int) (pa_cons (pe_op Mt.op_mulL pe_str pe_int) pa_nil)))) pa_nil))) pa_nil))))))
    (pss_one (ps_ret (pe_cmpR (op_eqD hr.units) (pe_op op_cat (pv 4) (pe_lst (pa_cons (pe_call GIM (hr.mono (by decide)) (by rfl) DIM.m DIM.F.kp DIM.b .nil pass0 (pa_cons (pv 3) (pa_cons (pe_tup (pa_cons pe_str (pa_cons (pe_op Mt.op_mulL pe_str pe_int) (pa_cons pe_str pa_nil)))) pa_nil))) (pa_cons (pe_call GIT (hr.mono (by decide)) (by rfl) DIT.m DIT.F.kp DIT.b .nil pass0 (pa_cons (pe_make C.MK.M C.MK.gi (hr.mono (by decide)) (by rfl) C.MK.W.gR C.MK.bi .nil pass0 (pa_cons pe_str (pa_cons (pe_disp (pps_cons pe_str (pe_tup (pa_cons pe_int (pa_cons pe_int pa_nil))) pps_nil) (by rfl) (by rfl) (fun z => by cases z) (by decide)) (pa_cons (pe_tup (pa_cons pe_int (pa_cons pe_int pa_nil))) pa_nil)))) pa_nil)) pa_nil)))) (pe_lst (pa_cons (pe_tup (pa_cons pe_str (pa_cons pe_str (pa_cons pe_str pa_nil)))) (pa_cons pe_bl (pa_cons pe_bl (pa_cons pe_bl (pa_cons pe_bl (pa_cons pe_bl pa_nil))))))) (nomark _))))))), ?_⟩
    have bj : ∀ n : Int, 0 ≤ n → n ≤ 63 → (-(2 ^ 62) ≤ (if (if n < 2 then n else 2) > 1 then (if n < 2 then n else 2) else 1) ∧ (if (if n < 2 then n else 2) > 1 then (if n < 2 then n else 2) else 1) < 2 ^ 62) ∧ (if (if n < 2 then n else 2) > 1 then (if n < 2 then n else 2) else (1 : Int)).toNat ≤ 2 := by
      intro n h0 h1
      repeat' split
      all_goals omega
    obtain ⟨⟨bj1, bj2⟩, bj3⟩ := bj ns.length (by omega) (by omega)
    refine ⟨_, rfl, _, ns.length, rfl, .inl ⟨_, hS, by rw [List.length_map]⟩, _, _, rfl, _, _, rfl, _, rfl, bj1, bj2, for_range (n := _) (fun i σ H1 => ∃ u1 u2 : Option V, σ = [some (.ref a), u1, u2, none, none] ∧ Same H H1)
      ⟨none, none, rfl, Same.refl H⟩ ?_ ?_⟩
    · rintro k σ H1 hk ⟨u1, u2, rfl, s1⟩
      have hk3 : k < 2 := Nat.lt_of_lt_of_le hk bj3
      refine ⟨_, rfl, _, rfl, a, ns, k, congrArg (fun z => [V.ref a, V.int z]) (Int.zero_add _), s1.seq hS, hlen, by omega, fun c H2 nc s2 hc2 => ?_⟩
      have nc0 : H c = none := free_none s1 nc
      refine ⟨_, rfl, c, rfl, hc2, fun H3 hc3 b3 => ⟨true, rfl, iteF' Bool.false_ne_true ⟨_, rfl, c, rfl, hc3, fun H4 hc4 b4 => ⟨true, rfl, iteF' Bool.false_ne_true ?_⟩⟩⟩⟩
      refine ⟨_, _, rfl, fun b o e => ?_⟩
      exact b4 _ _ (ne_of_none e nc0) (b3 _ _ (ne_of_none e nc0) (s2 _ _ (s1 _ _ e)))
    · rintro σ H1 ⟨u1, u2, rfl, s1⟩
      clear s1 hS
      dsimp only [tSeq, tPar]
      refine mk_two okR_ends row2 row2 row1 fun x H2 s2 hx => ?_
      have hx : RdAt CC H2 x rEnds := hx
      dsimp only [tSeq, gName]
      have fa : Fine ("a" : Str) := small_fine (by decide +kernel) (by decide +kernel)
      have fb : Fine ("b" : Str) := small_fine (by decide +kernel) (by decide +kernel)
      have fbb : Fine ("bb" : Str) := small_fine (by decide +kernel) (by decide +kernel)
      have faa : Fine ("aa" : Str) := small_fine (by decide +kernel) (by decide +kernel)
      have fab : Fine ("ab" : Str) := small_fine (by decide +kernel) (by decide +kernel)
      have f4a : Fine (Txt.mul "a" 4000) := fine_rep cds_mul.1.1 (by decide) (by decide)
      have f4b : Fine (Txt.mul "b" 4000) := fine_rep cds_mul.1.2 (by decide) (by decide)
      have f41 : Fine (Txt.mul "a" 4001) := fine_rep cds_mul.2 (by decide) (by decide)
      have la : ("a" : Str).length ≤ 10 := by decide +kernel
      have lb : ("b" : Str).length ≤ 10 := by decide +kernel
      refine ⟨_, rfl, x, rEnds, rfl, hx, fun v H3 R ts s3 lean hv => ?_⟩
      obtain ⟨e1, e2⟩ := ends_uniq lean
      rw [e1, e2, merge_ends] at hv
      clear lean e1 e2
      obtain ⟨pd, rfl, epd⟩ := hv
      have hx3 := hx.same s3
      refine ev_im rfl hx3 (evn_tup (evis_cons evi_s (evis_cons evi_s (evis_cons evi_s evis_nil))) (by simp)) (okt fb fbb faa) v1 fun H4 s4 => ?_
      have hx4 := hx3.same s4
      refine ev_im rfl hx4 (evn_tup (evis_cons evi_s (evis_cons evi_s (evis_cons evi_s evis_nil))) (by simp)) (okt fb fbb fab) v2 fun H5 s5 => ?_
      have hx5 := hx4.same s5
      refine ev_im rfl hx5 (evn_tup (evis_cons evi_s (evis_cons (evi_mul la (by decide) (by decide)) (evis_cons (evi_mul lb (by decide) (by decide)) evis_nil))) (by simp)) (okt fa f4a f4b) v3 fun H6 s6 => ?_
      have hx6 := hx5.same s6
      refine ⟨by show 4 ≤ sizeLine; decide, fun L1 nL1 => ?_⟩
      have sL1 := same_upd (o := .lst [.ref pd, .bl true, .bl false, .bl true]) nL1
      have eL1 : (upd H6 L1 (.lst [.ref pd, .bl true, .bl false, .bl true])) L1 = some (.lst [.ref pd, .bl true, .bl false, .bl true]) := upd_same
      have epd7 := sL1 _ _ (s6 _ _ (s5 _ _ (s4 _ _ epd)))
      have hx7 := hx6.same sL1
      dsimp only [tSeq, gName]
      show tRet _ _ _ (upd H6 L1 (.lst [.ref pd, .bl true, .bl false, .bl true]))
      generalize upd H6 L1 (.lst [.ref pd, .bl true, .bl false, .bl true]) = H7 at eL1 epd7 hx7 ⊢
      refine ⟨_, rfl, ?_⟩
      refine ev_im rfl hx7 (evn_tup (evis_cons evi_s (evis_cons (evi_mul la (by decide) (by decide)) (evis_cons evi_s evis_nil))) (by simp)) (okt fa f41 fb) v4 fun H8 s8 => ?_
      refine ev_ist (fun Q q => mk_one okR_all row2 row2 q) fun H10 s10 => ?_
      have s710 := s8.trans s10
      refine ⟨by show 2 ≤ sizeLine; decide, fun L2 nL2 => ?_⟩
      have sL2 := same_upd (o := .lst [.bl false, .bl true]) nL2
      refine ⟨L1, L2, _, _, rfl, rfl, sL2 _ _ (s710 _ _ eL1), upd_same, by show 6 ≤ sizeLine; decide, fun L3 nL3 => ⟨by show 3 ≤ sizeLine; decide, fun T1 nT1 => ⟨by show 6 ≤ sizeLine; decide, fun L4 nL4 => ?_⟩⟩⟩
      have sL3 := same_upd (o := .lst ([V.ref pd, .bl true, .bl false, .bl true] ++ [.bl false, .bl true])) nL3
      have sT1 := same_upd (o := .tup [V.str ("a" : Str), .str ("" : Str), .str ("a" : Str)]) nT1
      have sL4 := same_upd (o := .lst [V.ref T1, .bl true, .bl false, .bl true, .bl false, .bl true]) nL4
      have epd11 := sL4 _ _ (sT1 _ _ (sL3 _ _ (sL2 _ _ (s710 _ _ epd7))))
      have bl5 : ∀ Hq, DpAll K Hq [V.bl true, .bl false, .bl true, .bl false, .bl true] [.bool true, .bool false, .bool true, .bool false, .bool true] := fun Hq => .cons (.bl _) (.cons (.bl _) (.cons (.bl _) (.cons (.bl _) (.cons (.bl _) .nil))))
      refine ⟨.list dTold, .list dTold, .lst (SqL.of (sL4 _ _ (sT1 _ _ upd_same))) (.cons (.tup (SqT.of epd11) ?_) (bl5 _)), .lst (SqL.of upd_same) (.cons (.tup (SqT.of (sL4 _ _ upd_same)) (.cons (.str _) (.cons (.str _) (.cons (.str _) .nil)))) (bl5 _)), told_sh, told_sh, ?_⟩
      · exact .cons (.str _) (.cons (.str _) (.cons (.str _) .nil))
      · rw [told_eq]
        exact q _
end
end K24

set_option Elab.async false
set_option linter.all false
set_option maxRecDepth 100000
set_option maxHeartbeats 6400000
namespace K24
open PySem L2 Tx Tg Tm Da RZ Ek It2
theorem df_mk {K : PySem.W.Frag} {h : Heap} {mg : Str → Option Value} {x : Str} {st : Stmt} {ps : List Str} {f : Addr} {oc kV dc pm cd ct : Value} {od an : Option Addr} {sl : Array (Option Value)} (X : K.In h) (G : h.Ns mainGlobals mg)
    (a : PySem.W.nsIn K mainGlobals x = some (some (.ref f))) (l : K.lookup f = some ⟨oc, od, .func (PySem.W.fnOf x x (defArgs st) (defBody st) (defScope st) .none kV dc pm an cd ct), sl⟩)
    (c : PySem.W.codeIn K cd x = true) (k : PySem.W.keepIn K (.ref f) = true)
    (hb : ∀ (kV doc pm : Value) (an : Option Addr) (cdv ct : Value) (us : List Value), us.length = ps.length → bindArgs (PySem.W.fnOf x x (defArgs st) (defBody st) (defScope st) .none kV doc pm an cdv ct) ⟨us, []⟩ = pure (ps.zip us)) :
    Df K mg x st ps f (PySem.W.fnOf x x (defArgs st) (defBody st) (defScope st) .none kV dc pm an cd ct) :=
  have F := fun_mk (st := st) l c k
  ⟨F, PySem.W.mg_of X G a, F.binds hb⟩
theorem kit_self {K : PySem.W.Frag} {C : Addr} : PySem.W.kitOne K (.ref C) (.ref C) = some true := by
  unfold PySem.W.kitOne
  rw [if_pos (beq_self_eq_true _)]
theorem all_mk {l : PySem.W.OpenLaw} {w : World} {K : PySem.W.Frag} {h : Heap} {mg : Str → Option Value} {fa CR : Addr} (X : K.In h) (G : h.Ns mainGlobals mg) (hfa : mg "law" = some (.ref fa))
    (hx1 : ∃ n t, n = 10 ^ 200 ∧ mg "LEAST_TOO_LONG" = some (.int n t))
    {f1 : Addr} {od1 an1 : Option Addr} {sl1 : Array (Option Value)} {oc1 kV1 dc1 pm1 cd1 ct1 : Value}
    (a1 : PySem.W.nsIn K mainGlobals "is_integer" = some (some (.ref f1))) (l1 : K.lookup f1 = some ⟨oc1, od1, .func (PySem.W.fnOf "is_integer" "is_integer" (defArgs sInt) (defBody sInt) (defScope sInt) .none kV1 dc1 pm1 an1 cd1 ct1), sl1⟩) (c1 : PySem.W.codeIn K cd1 "is_integer" = true) (k1 : PySem.W.keepIn K (.ref f1) = true)
    {f2 : Addr} {od2 an2 : Option Addr} {sl2 : Array (Option Value)} {oc2 kV2 dc2 pm2 cd2 ct2 : Value}
    (a2 : PySem.W.nsIn K mainGlobals "is_letters" = some (some (.ref f2))) (l2 : K.lookup f2 = some ⟨oc2, od2, .func (PySem.W.fnOf "is_letters" "is_letters" (defArgs sLetters) (defBody sLetters) (defScope sLetters) .none kV2 dc2 pm2 an2 cd2 ct2), sl2⟩) (c2 : PySem.W.codeIn K cd2 "is_letters" = true) (k2 : PySem.W.keepIn K (.ref f2) = true)
    {f3 : Addr} {od3 an3 : Option Addr} {sl3 : Array (Option Value)} {oc3 kV3 dc3 pm3 cd3 ct3 : Value}
    (a3 : PySem.W.nsIn K mainGlobals "is_text" = some (some (.ref f3))) (l3 : K.lookup f3 = some ⟨oc3, od3, .func (PySem.W.fnOf "is_text" "is_text" (defArgs sText) (defBody sText) (defScope sText) .none kV3 dc3 pm3 an3 cd3 ct3), sl3⟩) (c3 : PySem.W.codeIn K cd3 "is_text" = true) (k3 : PySem.W.keepIn K (.ref f3) = true)
    {f4 : Addr} {od4 an4 : Option Addr} {sl4 : Array (Option Value)} {oc4 kV4 dc4 pm4 cd4 ct4 : Value}
    (a4 : PySem.W.nsIn K mainGlobals "check_letters" = some (some (.ref f4))) (l4 : K.lookup f4 = some ⟨oc4, od4, .func (PySem.W.fnOf "check_letters" "check_letters" (defArgs sCheck) (defBody sCheck) (defScope sCheck) .none kV4 dc4 pm4 an4 cd4 ct4), sl4⟩) (c4 : PySem.W.codeIn K cd4 "check_letters" = true) (k4 : PySem.W.keepIn K (.ref f4) = true)
    {f5 : Addr} {od5 an5 : Option Addr} {sl5 : Array (Option Value)} {oc5 kV5 dc5 pm5 cd5 ct5 : Value}
    (a5 : PySem.W.nsIn K mainGlobals "has_only" = some (some (.ref f5))) (l5 : K.lookup f5 = some ⟨oc5, od5, .func (PySem.W.fnOf "has_only" "has_only" (defArgs sHas) (defBody sHas) (defScope sHas) .none kV5 dc5 pm5 an5 cd5 ct5), sl5⟩) (c5 : PySem.W.codeIn K cd5 "has_only" = true) (k5 : PySem.W.keepIn K (.ref f5) = true)
    {f6 : Addr} {od6 an6 : Option Addr} {sl6 : Array (Option Value)} {oc6 kV6 dc6 pm6 cd6 ct6 : Value}
    (a6 : PySem.W.nsIn K mainGlobals "check_text" = some (some (.ref f6))) (l6 : K.lookup f6 = some ⟨oc6, od6, .func (PySem.W.fnOf "check_text" "check_text" (defArgs sCText) (defBody sCText) (defScope sCText) .none kV6 dc6 pm6 an6 cd6 ct6), sl6⟩) (c6 : PySem.W.codeIn K cd6 "check_text" = true) (k6 : PySem.W.keepIn K (.ref f6) = true)
    {f7 : Addr} {od7 an7 : Option Addr} {sl7 : Array (Option Value)} {oc7 kV7 dc7 pm7 cd7 ct7 : Value}
    (a7 : PySem.W.nsIn K mainGlobals "is_state" = some (some (.ref f7))) (l7 : K.lookup f7 = some ⟨oc7, od7, .func (PySem.W.fnOf "is_state" "is_state" (defArgs sIsState) (defBody sIsState) (defScope sIsState) .none kV7 dc7 pm7 an7 cd7 ct7), sl7⟩) (c7 : PySem.W.codeIn K cd7 "is_state" = true) (k7 : PySem.W.keepIn K (.ref f7) = true)
    {f8 : Addr} {od8 an8 : Option Addr} {sl8 : Array (Option Value)} {oc8 kV8 dc8 pm8 cd8 ct8 : Value}
    (a8 : PySem.W.nsIn K mainGlobals "is_row_of_states" = some (some (.ref f8))) (l8 : K.lookup f8 = some ⟨oc8, od8, .func (PySem.W.fnOf "is_row_of_states" "is_row_of_states" (defArgs sRowOk) (defBody sRowOk) (defScope sRowOk) .none kV8 dc8 pm8 an8 cd8 ct8), sl8⟩) (c8 : PySem.W.codeIn K cd8 "is_row_of_states" = true) (k8 : PySem.W.keepIn K (.ref f8) = true)
    {f9 : Addr} {od9 an9 : Option Addr} {sl9 : Array (Option Value)} {oc9 kV9 dc9 pm9 cd9 ct9 : Value}
    (a9 : PySem.W.nsIn K mainGlobals "are_reader_moves" = some (some (.ref f9))) (l9 : K.lookup f9 = some ⟨oc9, od9, .func (PySem.W.fnOf "are_reader_moves" "are_reader_moves" (defArgs sMovesOk) (defBody sMovesOk) (defScope sMovesOk) .none kV9 dc9 pm9 an9 cd9 ct9), sl9⟩) (c9 : PySem.W.codeIn K cd9 "are_reader_moves" = true) (k9 : PySem.W.keepIn K (.ref f9) = true)
    {f10 : Addr} {od10 an10 : Option Addr} {sl10 : Array (Option Value)} {oc10 kV10 dc10 pm10 cd10 ct10 : Value}
    (a10 : PySem.W.nsIn K mainGlobals "are_yes_states" = some (some (.ref f10))) (l10 : K.lookup f10 = some ⟨oc10, od10, .func (PySem.W.fnOf "are_yes_states" "are_yes_states" (defArgs sYesOk) (defBody sYesOk) (defScope sYesOk) .none kV10 dc10 pm10 an10 cd10 ct10), sl10⟩) (c10 : PySem.W.codeIn K cd10 "are_yes_states" = true) (k10 : PySem.W.keepIn K (.ref f10) = true)
    {f11 : Addr} {od11 an11 : Option Addr} {sl11 : Array (Option Value)} {oc11 kV11 dc11 pm11 cd11 ct11 : Value}
    (a11 : PySem.W.nsIn K mainGlobals "first_texts" = some (some (.ref f11))) (l11 : K.lookup f11 = some ⟨oc11, od11, .func (PySem.W.fnOf "first_texts" "first_texts" (defArgs sFT) (defBody sFT) (defScope sFT) .none kV11 dc11 pm11 an11 cd11 ct11), sl11⟩) (c11 : PySem.W.codeIn K cd11 "first_texts" = true) (k11 : PySem.W.keepIn K (.ref f11) = true)
    {f12 : Addr} {od12 an12 : Option Addr} {sl12 : Array (Option Value)} {oc12 kV12 dc12 pm12 cd12 ct12 : Value}
    (a12 : PySem.W.nsIn K mainGlobals "numbered" = some (some (.ref f12))) (l12 : K.lookup f12 = some ⟨oc12, od12, .func (PySem.W.fnOf "numbered" "numbered" (defArgs sNum) (defBody sNum) (defScope sNum) .none kV12 dc12 pm12 an12 cd12 ct12), sl12⟩) (c12 : PySem.W.codeIn K cd12 "numbered" = true) (k12 : PySem.W.keepIn K (.ref f12) = true)
    {f13 : Addr} {od13 an13 : Option Addr} {sl13 : Array (Option Value)} {oc13 kV13 dc13 pm13 cd13 ct13 : Value}
    (a13 : PySem.W.nsIn K mainGlobals "check_reader" = some (some (.ref f13))) (l13 : K.lookup f13 = some ⟨oc13, od13, .func (PySem.W.fnOf "check_reader" "check_reader" (defArgs sChk) (defBody sChk) (defScope sChk) .none kV13 dc13 pm13 an13 cd13 ct13), sl13⟩) (c13 : PySem.W.codeIn K cd13 "check_reader" = true) (k13 : PySem.W.keepIn K (.ref f13) = true)
    {f14 : Addr} {od14 an14 : Option Addr} {sl14 : Array (Option Value)} {oc14 kV14 dc14 pm14 cd14 ct14 : Value}
    (a14 : PySem.W.nsIn K mainGlobals "least_reader" = some (some (.ref f14))) (l14 : K.lookup f14 = some ⟨oc14, od14, .func (PySem.W.fnOf "least_reader" "least_reader" (defArgs sLean) (defBody sLean) (defScope sLean) .none kV14 dc14 pm14 an14 cd14 ct14), sl14⟩) (c14 : PySem.W.codeIn K cd14 "least_reader" = true) (k14 : PySem.W.keepIn K (.ref f14) = true)
    {f15 : Addr} {od15 an15 : Option Addr} {sl15 : Array (Option Value)} {oc15 kV15 dc15 pm15 cd15 ct15 : Value}
    (a15 : PySem.W.nsIn K mainGlobals "kinds_of_states" = some (some (.ref f15))) (l15 : K.lookup f15 = some ⟨oc15, od15, .func (PySem.W.fnOf "kinds_of_states" "kinds_of_states" (defArgs sKinds) (defBody sKinds) (defScope sKinds) .none kV15 dc15 pm15 an15 cd15 ct15), sl15⟩) (c15 : PySem.W.codeIn K cd15 "kinds_of_states" = true) (k15 : PySem.W.keepIn K (.ref f15) = true)
    {f16 : Addr} {od16 an16 : Option Addr} {sl16 : Array (Option Value)} {oc16 kV16 dc16 pm16 cd16 ct16 : Value}
    (a16 : PySem.W.nsIn K mainGlobals "first_merge" = some (some (.ref f16))) (l16 : K.lookup f16 = some ⟨oc16, od16, .func (PySem.W.fnOf "first_merge" "first_merge" (defArgs sFM) (defBody sFM) (defScope sFM) .none kV16 dc16 pm16 an16 cd16 ct16), sl16⟩) (c16 : PySem.W.codeIn K cd16 "first_merge" = true) (k16 : PySem.W.keepIn K (.ref f16) = true)
    {f17 : Addr} {od17 an17 : Option Addr} {sl17 : Array (Option Value)} {oc17 kV17 dc17 pm17 cd17 ct17 : Value}
    (a17 : PySem.W.nsIn K mainGlobals "is_merge" = some (some (.ref f17))) (l17 : K.lookup f17 = some ⟨oc17, od17, .func (PySem.W.fnOf "is_merge" "is_merge" (defArgs sIM) (defBody sIM) (defScope sIM) .none kV17 dc17 pm17 an17 cd17 ct17), sl17⟩) (c17 : PySem.W.codeIn K cd17 "is_merge" = true) (k17 : PySem.W.keepIn K (.ref f17) = true)
    {f18 : Addr} {od18 an18 : Option Addr} {sl18 : Array (Option Value)} {oc18 kV18 dc18 pm18 cd18 ct18 : Value}
    (a18 : PySem.W.nsIn K mainGlobals "is_turning" = some (some (.ref f18))) (l18 : K.lookup f18 = some ⟨oc18, od18, .func (PySem.W.fnOf "is_turning" "is_turning" (defArgs sIsT) (defBody sIsT) (defScope sIsT) .none kV18 dc18 pm18 an18 cd18 ct18), sl18⟩) (c18 : PySem.W.codeIn K cd18 "is_turning" = true) (k18 : PySem.W.keepIn K (.ref f18) = true)
    {f19 : Addr} {od19 an19 : Option Addr} {sl19 : Array (Option Value)} {oc19 kV19 dc19 pm19 cd19 ct19 : Value}
    (a19 : PySem.W.nsIn K mainGlobals "_law_first_lines" = some (some (.ref f19))) (l19 : K.lookup f19 = some ⟨oc19, od19, .func (PySem.W.fnOf "_law_first_lines" "_law_first_lines" (defArgs sFL) (defBody sFL) (defScope sFL) .none kV19 dc19 pm19 an19 cd19 ct19), sl19⟩) (c19 : PySem.W.codeIn K cd19 "_law_first_lines" = true) (k19 : PySem.W.keepIn K (.ref f19) = true)
    {f20 : Addr} {od20 an20 : Option Addr} {sl20 : Array (Option Value)} {oc20 kV20 dc20 pm20 cd20 ct20 : Value}
    (a20 : PySem.W.nsIn K mainGlobals "_law_kin" = some (some (.ref f20))) (l20 : K.lookup f20 = some ⟨oc20, od20, .func (PySem.W.fnOf "_law_kin" "_law_kin" (defArgs sKin) (defBody sKin) (defScope sKin) .none kV20 dc20 pm20 an20 cd20 ct20), sl20⟩) (c20 : PySem.W.codeIn K cd20 "_law_kin" = true) (k20 : PySem.W.keepIn K (.ref f20) = true)
    {f21 : Addr} {od21 an21 : Option Addr} {sl21 : Array (Option Value)} {oc21 kV21 dc21 pm21 cd21 ct21 : Value}
    (a21 : PySem.W.nsIn K mainGlobals "_law_lean" = some (some (.ref f21))) (l21 : K.lookup f21 = some ⟨oc21, od21, .func (PySem.W.fnOf "_law_lean" "_law_lean" (defArgs sLL) (defBody sLL) (defScope sLL) .none kV21 dc21 pm21 an21 cd21 ct21), sl21⟩) (c21 : PySem.W.codeIn K cd21 "_law_lean" = true) (k21 : PySem.W.keepIn K (.ref f21) = true)
    {f22 : Addr} {od22 an22 : Option Addr} {sl22 : Array (Option Value)} {oc22 kV22 dc22 pm22 cd22 ct22 : Value}
    (a22 : PySem.W.nsIn K mainGlobals "_law_merge_there" = some (some (.ref f22))) (l22 : K.lookup f22 = some ⟨oc22, od22, .func (PySem.W.fnOf "_law_merge_there" "_law_merge_there" (defArgs sMT) (defBody sMT) (defScope sMT) .none kV22 dc22 pm22 an22 cd22 ct22), sl22⟩) (c22 : PySem.W.codeIn K cd22 "_law_merge_there" = true) (k22 : PySem.W.keepIn K (.ref f22) = true)
    {f23 : Addr} {od23 an23 : Option Addr} {sl23 : Array (Option Value)} {oc23 kV23 dc23 pm23 cd23 ct23 : Value}
    (a23 : PySem.W.nsIn K mainGlobals "_law_cup" = some (some (.ref f23))) (l23 : K.lookup f23 = some ⟨oc23, od23, .func (PySem.W.fnOf "_law_cup" "_law_cup" (defArgs sCup) (defBody sCup) (defScope sCup) .none kV23 dc23 pm23 an23 cd23 ct23), sl23⟩) (c23 : PySem.W.codeIn K cd23 "_law_cup" = true) (k23 : PySem.W.keepIn K (.ref f23) = true)
    {f24 : Addr} {od24 an24 : Option Addr} {sl24 : Array (Option Value)} {oc24 kV24 dc24 pm24 cd24 ct24 : Value}
    (a24 : PySem.W.nsIn K mainGlobals "_law_bit" = some (some (.ref f24))) (l24 : K.lookup f24 = some ⟨oc24, od24, .func (PySem.W.fnOf "_law_bit" "_law_bit" (defArgs sBit) (defBody sBit) (defScope sBit) .none kV24 dc24 pm24 an24 cd24 ct24), sl24⟩) (c24 : PySem.W.codeIn K cd24 "_law_bit" = true) (k24 : PySem.W.keepIn K (.ref f24) = true)
    {f25 : Addr} {od25 an25 : Option Addr} {sl25 : Array (Option Value)} {oc25 kV25 dc25 pm25 cd25 ct25 : Value}
    (a25 : PySem.W.nsIn K mainGlobals "_law_pick" = some (some (.ref f25))) (l25 : K.lookup f25 = some ⟨oc25, od25, .func (PySem.W.fnOf "_law_pick" "_law_pick" (defArgs sPick) (defBody sPick) (defScope sPick) .none kV25 dc25 pm25 an25 cd25 ct25), sl25⟩) (c25 : PySem.W.codeIn K cd25 "_law_pick" = true) (k25 : PySem.W.keepIn K (.ref f25) = true)
    {f26 : Addr} {od26 an26 : Option Addr} {sl26 : Array (Option Value)} {oc26 kV26 dc26 pm26 cd26 ct26 : Value}
    (a26 : PySem.W.nsIn K mainGlobals "_law_dealt" = some (some (.ref f26))) (l26 : K.lookup f26 = some ⟨oc26, od26, .func (PySem.W.fnOf "_law_dealt" "_law_dealt" (defArgs sDealt) (defBody sDealt) (defScope sDealt) .none kV26 dc26 pm26 an26 cd26 ct26), sl26⟩) (c26 : PySem.W.codeIn K cd26 "_law_dealt" = true) (k26 : PySem.W.keepIn K (.ref f26) = true)
    {f27 : Addr} {od27 an27 : Option Addr} {sl27 : Array (Option Value)} {oc27 kV27 dc27 pm27 cd27 ct27 : Value}
    (a27 : PySem.W.nsIn K mainGlobals "_law_signs" = some (some (.ref f27))) (l27 : K.lookup f27 = some ⟨oc27, od27, .func (PySem.W.fnOf "_law_signs" "_law_signs" (defArgs sSigns) (defBody sSigns) (defScope sSigns) .none kV27 dc27 pm27 an27 cd27 ct27), sl27⟩) (c27 : PySem.W.codeIn K cd27 "_law_signs" = true) (k27 : PySem.W.keepIn K (.ref f27) = true)
    {f28 : Addr} {od28 an28 : Option Addr} {sl28 : Array (Option Value)} {oc28 kV28 dc28 pm28 cd28 ct28 : Value}
    (a28 : PySem.W.nsIn K mainGlobals "_law_line" = some (some (.ref f28))) (l28 : K.lookup f28 = some ⟨oc28, od28, .func (PySem.W.fnOf "_law_line" "_law_line" (defArgs sLine) (defBody sLine) (defScope sLine) .none kV28 dc28 pm28 an28 cd28 ct28), sl28⟩) (c28 : PySem.W.codeIn K cd28 "_law_line" = true) (k28 : PySem.W.keepIn K (.ref f28) = true)
    {f29 : Addr} {od29 an29 : Option Addr} {sl29 : Array (Option Value)} {oc29 kV29 dc29 pm29 cd29 ct29 : Value}
    (a29 : PySem.W.nsIn K mainGlobals "_law_some_of" = some (some (.ref f29))) (l29 : K.lookup f29 = some ⟨oc29, od29, .func (PySem.W.fnOf "_law_some_of" "_law_some_of" (defArgs sSome) (defBody sSome) (defScope sSome) .none kV29 dc29 pm29 an29 cd29 ct29), sl29⟩) (c29 : PySem.W.codeIn K cd29 "_law_some_of" = true) (k29 : PySem.W.keepIn K (.ref f29) = true)
    {f30 : Addr} {od30 an30 : Option Addr} {sl30 : Array (Option Value)} {oc30 kV30 dc30 pm30 cd30 ct30 : Value}
    (a30 : PySem.W.nsIn K mainGlobals "_law_any_ways" = some (some (.ref f30))) (l30 : K.lookup f30 = some ⟨oc30, od30, .func (PySem.W.fnOf "_law_any_ways" "_law_any_ways" (defArgs sAny) (defBody sAny) (defScope sAny) .none kV30 dc30 pm30 an30 cd30 ct30), sl30⟩) (c30 : PySem.W.codeIn K cd30 "_law_any_ways" = true) (k30 : PySem.W.keepIn K (.ref f30) = true)
    {f31 : Addr} {od31 an31 : Option Addr} {sl31 : Array (Option Value)} {oc31 kV31 dc31 pm31 cd31 ct31 : Value}
    (a31 : PySem.W.nsIn K mainGlobals "_law_turning_ways" = some (some (.ref f31))) (l31 : K.lookup f31 = some ⟨oc31, od31, .func (PySem.W.fnOf "_law_turning_ways" "_law_turning_ways" (defArgs sTurning) (defBody sTurning) (defScope sTurning) .none kV31 dc31 pm31 an31 cd31 ct31), sl31⟩) (c31 : PySem.W.codeIn K cd31 "_law_turning_ways" = true) (k31 : PySem.W.keepIn K (.ref f31) = true)
    {f32 : Addr} {od32 an32 : Option Addr} {sl32 : Array (Option Value)} {oc32 kV32 dc32 pm32 cd32 ct32 : Value}
    (a32 : PySem.W.nsIn K mainGlobals "_law_ring_ways" = some (some (.ref f32))) (l32 : K.lookup f32 = some ⟨oc32, od32, .func (PySem.W.fnOf "_law_ring_ways" "_law_ring_ways" (defArgs sRing) (defBody sRing) (defScope sRing) .none kV32 dc32 pm32 an32 cd32 ct32), sl32⟩) (c32 : PySem.W.codeIn K cd32 "_law_ring_ways" = true) (k32 : PySem.W.keepIn K (.ref f32) = true)
    {f33 : Addr} {od33 an33 : Option Addr} {sl33 : Array (Option Value)} {oc33 kV33 dc33 pm33 cd33 ct33 : Value}
    (a33 : PySem.W.nsIn K mainGlobals "_law_pair_ways" = some (some (.ref f33))) (l33 : K.lookup f33 = some ⟨oc33, od33, .func (PySem.W.fnOf "_law_pair_ways" "_law_pair_ways" (defArgs sPair) (defBody sPair) (defScope sPair) .none kV33 dc33 pm33 an33 cd33 ct33), sl33⟩) (c33 : PySem.W.codeIn K cd33 "_law_pair_ways" = true) (k33 : PySem.W.keepIn K (.ref f33) = true)
    {f34 : Addr} {od34 an34 : Option Addr} {sl34 : Array (Option Value)} {oc34 kV34 dc34 pm34 cd34 ct34 : Value}
    (a34 : PySem.W.nsIn K mainGlobals "_law_turner" = some (some (.ref f34))) (l34 : K.lookup f34 = some ⟨oc34, od34, .func (PySem.W.fnOf "_law_turner" "_law_turner" (defArgs sTurner) (defBody sTurner) (defScope sTurner) .none kV34 dc34 pm34 an34 cd34 ct34), sl34⟩) (c34 : PySem.W.codeIn K cd34 "_law_turner" = true) (k34 : PySem.W.keepIn K (.ref f34) = true)
    {f35 : Addr} {od35 an35 : Option Addr} {sl35 : Array (Option Value)} {oc35 kV35 dc35 pm35 cd35 ct35 : Value}
    (a35 : PySem.W.nsIn K mainGlobals "_law_plain_reader" = some (some (.ref f35))) (l35 : K.lookup f35 = some ⟨oc35, od35, .func (PySem.W.fnOf "_law_plain_reader" "_law_plain_reader" (defArgs sPlain) (defBody sPlain) (defScope sPlain) .none kV35 dc35 pm35 an35 cd35 ct35), sl35⟩) (c35 : PySem.W.codeIn K cd35 "_law_plain_reader" = true) (k35 : PySem.W.keepIn K (.ref f35) = true)
    {f36 : Addr} {od36 an36 : Option Addr} {sl36 : Array (Option Value)} {oc36 kV36 dc36 pm36 cd36 ct36 : Value}
    (a36 : PySem.W.nsIn K mainGlobals "_law_read" = some (some (.ref f36))) (l36 : K.lookup f36 = some ⟨oc36, od36, .func (PySem.W.fnOf "_law_read" "_law_read" (defArgs sRead) (defBody sRead) (defScope sRead) .none kV36 dc36 pm36 an36 cd36 ct36), sl36⟩) (c36 : PySem.W.codeIn K cd36 "_law_read" = true) (k36 : PySem.W.keepIn K (.ref f36) = true)
    {f37 : Addr} {od37 an37 : Option Addr} {sl37 : Array (Option Value)} {oc37 kV37 dc37 pm37 cd37 ct37 : Value}
    (a37 : PySem.W.nsIn K mainGlobals "_law_made_reader" = some (some (.ref f37))) (l37 : K.lookup f37 = some ⟨oc37, od37, .func (PySem.W.fnOf "_law_made_reader" "_law_made_reader" (defArgs sMade) (defBody sMade) (defScope sMade) .none kV37 dc37 pm37 an37 cd37 ct37), sl37⟩) (c37 : PySem.W.codeIn K cd37 "_law_made_reader" = true) (k37 : PySem.W.keepIn K (.ref f37) = true)
    {f38 : Addr} {od38 an38 : Option Addr} {sl38 : Array (Option Value)} {oc38 kV38 dc38 pm38 cd38 ct38 : Value}
    (a38 : PySem.W.nsIn K mainGlobals "_law_is_due" = some (some (.ref f38))) (l38 : K.lookup f38 = some ⟨oc38, od38, .func (PySem.W.fnOf "_law_is_due" "_law_is_due" (defArgs sID) (defBody sID) (defScope sID) .none kV38 dc38 pm38 an38 cd38 ct38), sl38⟩) (c38 : PySem.W.codeIn K cd38 "_law_is_due" = true) (k38 : PySem.W.keepIn K (.ref f38) = true)
    {f39 : Addr} {od39 an39 : Option Addr} {sl39 : Array (Option Value)} {oc39 kV39 dc39 pm39 cd39 ct39 : Value}
    (a39 : PySem.W.nsIn K mainGlobals "_law_near" = some (some (.ref f39))) (l39 : K.lookup f39 = some ⟨oc39, od39, .func (PySem.W.fnOf "_law_near" "_law_near" (defArgs sNr) (defBody sNr) (defScope sNr) .none kV39 dc39 pm39 an39 cd39 ct39), sl39⟩) (c39 : PySem.W.codeIn K cd39 "_law_near" = true) (k39 : PySem.W.keepIn K (.ref f39) = true)
    {f40 : Addr} {od40 an40 : Option Addr} {sl40 : Array (Option Value)} {oc40 kV40 dc40 pm40 cd40 ct40 : Value}
    (a40 : PySem.W.nsIn K mainGlobals "_law_cell_right" = some (some (.ref f40))) (l40 : K.lookup f40 = some ⟨oc40, od40, .func (PySem.W.fnOf "_law_cell_right" "_law_cell_right" (defArgs sCl) (defBody sCl) (defScope sCl) .none kV40 dc40 pm40 an40 cd40 ct40), sl40⟩) (c40 : PySem.W.codeIn K cd40 "_law_cell_right" = true) (k40 : PySem.W.keepIn K (.ref f40) = true)
    {f41 : Addr} {od41 an41 : Option Addr} {sl41 : Array (Option Value)} {oc41 kV41 dc41 pm41 cd41 ct41 : Value}
    (a41 : PySem.W.nsIn K mainGlobals "law" = some (some (.ref f41))) (l41 : K.lookup f41 = some ⟨oc41, od41, .func (PySem.W.fnOf "law" "law" (defArgs sLaw2) (defBody sLaw2) (defScope sLaw2) .none kV41 dc41 pm41 an41 cd41 ct41), sl41⟩) (c41 : PySem.W.codeIn K cd41 "law" = true) (k41 : PySem.W.keepIn K (.ref f41) = true)
    (aXR : PySem.W.nsIn K mainGlobals "Reader" = some (some (.ref CR)))
    {fIn : Addr} {odIn anIn : Option Addr} {slIn : Array (Option Value)} {ocIn kVIn dcIn pmIn cdIn ctIn : Value}
    (aIn : PySem.W.findIn K (.ref CR) "__init__" = some (some (.ref fIn))) (iIn : PySem.W.isFn K (.ref fIn) = true) (lIn : K.lookup fIn = some ⟨ocIn, odIn, .func (PySem.W.fnOf "__init__" "Reader.__init__" (defArgs sInit) (defBody sInit) (defScope sInit) .none kVIn dcIn pmIn anIn cdIn ctIn), slIn⟩) (cIn : PySem.W.codeIn K cdIn "Reader.__init__" = true) (kIn : PySem.W.keepIn K (.ref fIn) = true)
    {fLd : Addr} {odLd anLd : Option Addr} {slLd : Array (Option Value)} {ocLd kVLd dcLd pmLd cdLd ctLd : Value}
    (aLd : PySem.W.findIn K (.ref CR) "led" = some (some (.ref fLd))) (iLd : PySem.W.isFn K (.ref fLd) = true) (lLd : K.lookup fLd = some ⟨ocLd, odLd, .func (PySem.W.fnOf "led" "Reader.led" (defArgs sLed) (defBody sLed) (defScope sLed) .none kVLd dcLd pmLd anLd cdLd ctLd), slLd⟩) (cLd : PySem.W.codeIn K cdLd "Reader.led" = true) (kLd : PySem.W.keepIn K (.ref fLd) = true)
    {fLn : Addr} {odLn anLn : Option Addr} {slLn : Array (Option Value)} {ocLn kVLn dcLn pmLn cdLn ctLn : Value}
    (aLn : PySem.W.findIn K (.ref CR) "__len__" = some (some (.ref fLn))) (iLn : PySem.W.isFn K (.ref fLn) = true) (lLn : K.lookup fLn = some ⟨ocLn, odLn, .func (PySem.W.fnOf "__len__" "Reader.__len__" (defArgs sLen) (defBody sLen) (defScope sLen) .none kVLn dcLn pmLn anLn cdLn ctLn), slLn⟩) (cLn : PySem.W.codeIn K cdLn "Reader.__len__" = true) (kLn : PySem.W.keepIn K (.ref fLn) = true)
    {fCn : Addr} {odCn anCn : Option Addr} {slCn : Array (Option Value)} {ocCn kVCn dcCn pmCn cdCn ctCn : Value}
    (aCn : PySem.W.findIn K (.ref CR) "__contains__" = some (some (.ref fCn))) (iCn : PySem.W.isFn K (.ref fCn) = true) (lCn : K.lookup fCn = some ⟨ocCn, odCn, .func (PySem.W.fnOf "__contains__" "Reader.__contains__" (defArgs sIn) (defBody sIn) (defScope sIn) .none kVCn dcCn pmCn anCn cdCn ctCn), slCn⟩) (cCn : PySem.W.codeIn K cdCn "Reader.__contains__" = true) (kCn : PySem.W.keepIn K (.ref fCn) = true)
    {fEq : Addr} {odEq anEq : Option Addr} {slEq : Array (Option Value)} {ocEq kVEq dcEq pmEq cdEq ctEq : Value}
    (aEq : PySem.W.findIn K (.ref CR) "__eq__" = some (some (.ref fEq))) (iEq : PySem.W.isFn K (.ref fEq) = true) (lEq : K.lookup fEq = some ⟨ocEq, odEq, .func (PySem.W.fnOf "__eq__" "Reader.__eq__" (defArgs sEq) (defBody sEq) (defScope sEq) .none kVEq dcEq pmEq anEq cdEq ctEq), slEq⟩) (cEq : PySem.W.codeIn K cdEq "Reader.__eq__" = true) (kEq : PySem.W.keepIn K (.ref fEq) = true)
    {fSr : Addr} {odSr anSr : Option Addr} {slSr : Array (Option Value)} {ocSr kVSr dcSr pmSr cdSr ctSr : Value}
    (aSr : PySem.W.findIn K (.ref CR) "__str__" = some (some (.ref fSr))) (iSr : PySem.W.isFn K (.ref fSr) = true) (lSr : K.lookup fSr = some ⟨ocSr, odSr, .func (PySem.W.fnOf "__str__" "Reader.__str__" (defArgs sStr) (defBody sStr) (defScope sStr) .none kVSr dcSr pmSr anSr cdSr ctSr), slSr⟩) (cSr : PySem.W.codeIn K cdSr "Reader.__str__" = true) (kSr : PySem.W.keepIn K (.ref fSr) = true)
    {fL2 : Addr} {odL2 anL2 : Option Addr} {slL2 : Array (Option Value)} {ocL2 kVL2 dcL2 pmL2 cdL2 ctL2 : Value}
    (aL2 : PySem.W.findIn K (.ref CR) "_led" = some (some (.ref fL2))) (iL2 : PySem.W.isFn K (.ref fL2) = true) (lL2 : K.lookup fL2 = some ⟨ocL2, odL2, .func (PySem.W.fnOf "_led" "Reader._led" (defArgs sLed2) (defBody sLed2) (defScope sLed2) .none kVL2 dcL2 pmL2 anL2 cdL2 ctL2), slL2⟩) (cL2 : PySem.W.codeIn K cdL2 "Reader._led" = true) (kL2 : PySem.W.keepIn K (.ref fL2) = true)
    {fIv : Addr} {odIv anIv : Option Addr} {slIv : Array (Option Value)} {ocIv kVIv dcIv pmIv cdIv ctIv : Value}
    (aIv : PySem.W.findIn K (.ref CR) "__invert__" = some (some (.ref fIv))) (iIv : PySem.W.isFn K (.ref fIv) = true) (lIv : K.lookup fIv = some ⟨ocIv, odIv, .func (PySem.W.fnOf "__invert__" "Reader.__invert__" (defArgs sInv) (defBody sInv) (defScope sInv) .none kVIv dcIv pmIv anIv cdIv ctIv), slIv⟩) (cIv : PySem.W.codeIn K cdIv "Reader.__invert__" = true) (kIv : PySem.W.keepIn K (.ref fIv) = true)
    {fLe : Addr} {odLe anLe : Option Addr} {slLe : Array (Option Value)} {ocLe kVLe dcLe pmLe cdLe ctLe : Value}
    {pLe : Addr} {restLe : List Value} (aLe : PySem.W.findIn K (.ref CR) "letters" = some (some (.ref pLe))) (gLe' : PySem.W.specialIn K (.ref pLe) "__get__" = some (some (.builtin "property.__get__"))) (tLe : PySem.W.takesIn K (.ref pLe) = some true) (rLe : PySem.W.recIn K pLe "property" = some (.ref fLe :: restLe)) (lLe : K.lookup fLe = some ⟨ocLe, odLe, .func (PySem.W.fnOf "letters" "Reader.letters" (defArgs sLet) (defBody sLet) (defScope sLet) .none kVLe dcLe pmLe anLe cdLe ctLe), slLe⟩) (cLe : PySem.W.codeIn K cdLe "Reader.letters" = true) (kLe : PySem.W.keepIn K (.ref fLe) = true)
    {fMo : Addr} {odMo anMo : Option Addr} {slMo : Array (Option Value)} {ocMo kVMo dcMo pmMo cdMo ctMo : Value}
    {pMo : Addr} {restMo : List Value} (aMo : PySem.W.findIn K (.ref CR) "moves" = some (some (.ref pMo))) (gMo' : PySem.W.specialIn K (.ref pMo) "__get__" = some (some (.builtin "property.__get__"))) (tMo : PySem.W.takesIn K (.ref pMo) = some true) (rMo : PySem.W.recIn K pMo "property" = some (.ref fMo :: restMo)) (lMo : K.lookup fMo = some ⟨ocMo, odMo, .func (PySem.W.fnOf "moves" "Reader.moves" (defArgs sMov) (defBody sMov) (defScope sMov) .none kVMo dcMo pmMo anMo cdMo ctMo), slMo⟩) (cMo : PySem.W.codeIn K cdMo "Reader.moves" = true) (kMo : PySem.W.keepIn K (.ref fMo) = true)
    {fYe : Addr} {odYe anYe : Option Addr} {slYe : Array (Option Value)} {ocYe kVYe dcYe pmYe cdYe ctYe : Value}
    {pYe : Addr} {restYe : List Value} (aYe : PySem.W.findIn K (.ref CR) "yes" = some (some (.ref pYe))) (gYe' : PySem.W.specialIn K (.ref pYe) "__get__" = some (some (.builtin "property.__get__"))) (tYe : PySem.W.takesIn K (.ref pYe) = some true) (rYe : PySem.W.recIn K pYe "property" = some (.ref fYe :: restYe)) (lYe : K.lookup fYe = some ⟨ocYe, odYe, .func (PySem.W.fnOf "yes" "Reader.yes" (defArgs sYes) (defBody sYes) (defScope sYes) .none kVYe dcYe pmYe anYe cdYe ctYe), slYe⟩) (cYe : PySem.W.codeIn K cdYe "Reader.yes" = true) (kYe : PySem.W.keepIn K (.ref fYe) = true)
    (pgXR : PySem.W.plainGet K CR Str.empty = true) (hdXR : PySem.W.hasDictIn K CR = true) (poXR : PySem.W.plainOver K CR = true) (saXR : PySem.W.findIn K (.ref CR) "__setattr__" = some (some (.builtin "object.__setattr__"))) (mkXR : PySem.W.makesIn K CR = true) (kcXR : PySem.W.keepIn K (.ref CR) = true)
    (haXR : PySem.W.findIn K (.ref CR) "__class__" = some (some (.builtin "object.__class__"))) (hmXR : PySem.W.mroIn K CR (.type "object") = some true)
    (qHn : PySem.W.specialIn K (.builtin "object.__class__") "__get__" = some (some (.builtin "getset_descriptor.__get__"))) (qHt : PySem.W.takesIn K (.builtin "object.__class__") = some true)
    (nL : PySem.W.findIn K (.ref CR) "_letters" = some none)
    (nM : PySem.W.findIn K (.ref CR) "_moves" = some none)
    (nY : PySem.W.findIn K (.ref CR) "_yes" = some none)
    (qNf : PySem.W.notFirst K CR (.ref CR) = true)
    (qOb : PySem.W.subIn K (.ref CR) (.type "object") = some true)
    (qNe : PySem.W.findIn K (.ref CR) "__ne__" = some (some (.builtin "object.__ne__")))
    (z1 : PySem.W.nsIn K mainGlobals "isinstance" = some none)
    (z2 : PySem.W.nsIn K mainGlobals "int" = some none)
    (z3 : PySem.W.nsIn K mainGlobals "str" = some none)
    (z4 : PySem.W.nsIn K mainGlobals "bool" = some none)
    (z5 : PySem.W.nsIn K mainGlobals "abs" = some none)
    (z6 : PySem.W.nsIn K mainGlobals "len" = some none)
    (z7 : PySem.W.nsIn K mainGlobals "list" = some none)
    (z8 : PySem.W.nsIn K mainGlobals "set" = some none)
    (z9 : PySem.W.nsIn K mainGlobals "sorted" = some none)
    (z10 : PySem.W.nsIn K mainGlobals "repr" = some none)
    (z11 : PySem.W.nsIn K mainGlobals "range" = some none)
    (z12 : PySem.W.nsIn K mainGlobals "max" = some none)
    (z13 : PySem.W.nsIn K mainGlobals "min" = some none)
    (z14 : PySem.W.nsIn K mainGlobals "all" = some none)
    (z15 : PySem.W.nsIn K mainGlobals "tuple" = some none)
    (z16 : PySem.W.nsIn K mainGlobals "dict" = some none)
    (z17 : PySem.W.nsIn K mainGlobals "zip" = some none)
    (z18 : PySem.W.nsIn K mainGlobals "enumerate" = some none)
    {t1 : Tok} (v1 : PySem.W.nsIn K mainGlobals "ALPHABET" = some (some (.str alpha t1)))
    {t2 : Tok} (v2 : PySem.W.nsIn K mainGlobals "MAX_LETTERS" = some (some (.int 3 t2)))
    {t3 : Tok} (v3 : PySem.W.nsIn K mainGlobals "MAX_TEXT" = some (some (.int 4000 t3)))
    {t4 : Tok} (v4 : PySem.W.nsIn K mainGlobals "MAX_STATES" = some (some (.int 60 t4))) :
    ∃ fd : FuncData, (∀ (s : Shared) (v : Value), BindsTo s fd ⟨[v], []⟩ [("_law_script", v)]) ∧ ∀ base : Heap, K.In base → base.Ns mainGlobals mg → Kept l.prog w K mg base CX0 11 fa fd ["_law_script"] (spLaw K) := by
  have e := hfa.symm.trans (PySem.W.mg_of X G a41)
  cases e
  obtain ⟨n1, t01, en1, hx1⟩ := hx1
  subst en1
  have T : Txt K mg := ⟨PySem.W.mg_none_of X G z1, PySem.W.mg_none_of X G z2, PySem.W.mg_none_of X G z3, PySem.W.mg_none_of X G z4, PySem.W.mg_none_of X G z5, PySem.W.mg_none_of X G z6, PySem.W.mg_none_of X G z7, PySem.W.mg_none_of X G z8, PySem.W.mg_none_of X G z9, PySem.W.mg_none_of X G z10, PySem.W.mg_none_of X G z11, PySem.W.mg_none_of X G z12, PySem.W.mg_none_of X G z13, PySem.W.mg_none_of X G z14, PySem.W.mg_none_of X G z15, PySem.W.mg_none_of X G z16, PySem.W.mg_none_of X G z17, ⟨_, hx1⟩, ⟨_, PySem.W.mg_of X G v1⟩, ⟨_, PySem.W.mg_of X G v2⟩, ⟨_, PySem.W.mg_of X G v3⟩, ⟨_, PySem.W.mg_of X G v4⟩⟩
  have D1 : Df K mg "is_integer" sInt ["value"] f1 _ := df_mk X G a1 l1 c1 k1 fun _ _ _ _ _ _ us hl => match us, hl with | [_], _ => rfl
  have D2 : Df K mg "is_letters" sLetters ["value"] f2 _ := df_mk X G a2 l2 c2 k2 fun _ _ _ _ _ _ us hl => match us, hl with | [_], _ => rfl
  have D3 : Df K mg "is_text" sText ["letters", "value"] f3 _ := df_mk X G a3 l3 c3 k3 fun _ _ _ _ _ _ us hl => match us, hl with | [_, _], _ => rfl
  have D4 : Df K mg "check_letters" sCheck ["value"] f4 _ := df_mk X G a4 l4 c4 k4 fun _ _ _ _ _ _ us hl => match us, hl with | [_], _ => rfl
  have D5 : Df K mg "has_only" sHas ["value", "signs", "most"] f5 _ := df_mk X G a5 l5 c5 k5 fun _ _ _ _ _ _ us hl => match us, hl with | [_, _, _], _ => rfl
  have D6 : Df K mg "check_text" sCText ["letters", "value"] f6 _ := df_mk X G a6 l6 c6 k6 fun _ _ _ _ _ _ us hl => match us, hl with | [_, _], _ => rfl
  have D7 : Df K mg "is_state" sIsState ["value", "many"] f7 _ := df_mk X G a7 l7 c7 k7 fun _ _ _ _ _ _ us hl => match us, hl with | [_, _], _ => rfl
  have D8 : Df K mg "is_row_of_states" sRowOk ["value", "many"] f8 _ := df_mk X G a8 l8 c8 k8 fun _ _ _ _ _ _ us hl => match us, hl with | [_, _], _ => rfl
  have D9 : Df K mg "are_reader_moves" sMovesOk ["letters", "value"] f9 _ := df_mk X G a9 l9 c9 k9 fun _ _ _ _ _ _ us hl => match us, hl with | [_, _], _ => rfl
  have D10 : Df K mg "are_yes_states" sYesOk ["value", "many"] f10 _ := df_mk X G a10 l10 c10 k10 fun _ _ _ _ _ _ us hl => match us, hl with | [_, _], _ => rfl
  have D11 : Df K mg "first_texts" sFT ["moves", "start"] f11 _ := df_mk X G a11 l11 c11 k11 fun _ _ _ _ _ _ us hl => match us, hl with | [_, _], _ => rfl
  have D12 : Df K mg "numbered" sNum ["states"] f12 _ := df_mk X G a12 l12 c12 k12 fun _ _ _ _ _ _ us hl => match us, hl with | [_], _ => rfl
  have D13 : Df K mg "check_reader" sChk ["value"] f13 _ := df_mk X G a13 l13 c13 k13 fun _ _ _ _ _ _ us hl => match us, hl with | [_], _ => rfl
  have D14 : Df K mg "least_reader" sLean ["reader"] f14 _ := df_mk X G a14 l14 c14 k14 fun _ _ _ _ _ _ us hl => match us, hl with | [_], _ => rfl
  have D15 : Df K mg "kinds_of_states" sKinds ["reader"] f15 _ := df_mk X G a15 l15 c15 k15 fun _ _ _ _ _ _ us hl => match us, hl with | [_], _ => rfl
  have D16 : Df K mg "first_merge" sFM ["reader"] f16 _ := df_mk X G a16 l16 c16 k16 fun _ _ _ _ _ _ us hl => match us, hl with | [_], _ => rfl
  have D17 : Df K mg "is_merge" sIM ["reader", "value"] f17 _ := df_mk X G a17 l17 c17 k17 fun _ _ _ _ _ _ us hl => match us, hl with | [_, _], _ => rfl
  have D18 : Df K mg "is_turning" sIsT ["reader"] f18 _ := df_mk X G a18 l18 c18 k18 fun _ _ _ _ _ _ us hl => match us, hl with | [_], _ => rfl
  have D19 : Df K mg "_law_first_lines" sFL ["_law_plain"] f19 _ := df_mk X G a19 l19 c19 k19 fun _ _ _ _ _ _ us hl => match us, hl with | [_], _ => rfl
  have D20 : Df K mg "_law_kin" sKin ["_law_plain"] f20 _ := df_mk X G a20 l20 c20 k20 fun _ _ _ _ _ _ us hl => match us, hl with | [_], _ => rfl
  have D21 : Df K mg "_law_lean" sLL ["_law_plain"] f21 _ := df_mk X G a21 l21 c21 k21 fun _ _ _ _ _ _ us hl => match us, hl with | [_], _ => rfl
  have D22 : Df K mg "_law_merge_there" sMT ["_law_plain"] f22 _ := df_mk X G a22 l22 c22 k22 fun _ _ _ _ _ _ us hl => match us, hl with | [_], _ => rfl
  have D23 : Df K mg "_law_cup" sCup ["_law_script", "_law_at"] f23 _ := df_mk X G a23 l23 c23 k23 fun _ _ _ _ _ _ us hl => match us, hl with | [_, _], _ => rfl
  have D24 : Df K mg "_law_bit" sBit ["_law_cup_here", "_law_much"] f24 _ := df_mk X G a24 l24 c24 k24 fun _ _ _ _ _ _ us hl => match us, hl with | [_, _], _ => rfl
  have D25 : Df K mg "_law_pick" sPick ["_law_cup_here", "_law_items"] f25 _ := df_mk X G a25 l25 c25 k25 fun _ _ _ _ _ _ us hl => match us, hl with | [_, _], _ => rfl
  have D26 : Df K mg "_law_dealt" sDealt ["_law_cup_here", "_law_items"] f26 _ := df_mk X G a26 l26 c26 k26 fun _ _ _ _ _ _ us hl => match us, hl with | [_, _], _ => rfl
  have D27 : Df K mg "_law_signs" sSigns ["_law_cup_here"] f27 _ := df_mk X G a27 l27 c27 k27 fun _ _ _ _ _ _ us hl => match us, hl with | [_], _ => rfl
  have D28 : Df K mg "_law_line" sLine ["_law_cup_here", "_law_signs_here", "_law_most"] f28 _ := df_mk X G a28 l28 c28 k28 fun _ _ _ _ _ _ us hl => match us, hl with | [_, _, _], _ => rfl
  have D29 : Df K mg "_law_some_of" sSome ["_law_cup_here", "_law_many"] f29 _ := df_mk X G a29 l29 c29 k29 fun _ _ _ _ _ _ us hl => match us, hl with | [_, _], _ => rfl
  have D30 : Df K mg "_law_any_ways" sAny ["_law_cup_here", "_law_signs_here", "_law_many"] f30 _ := df_mk X G a30 l30 c30 k30 fun _ _ _ _ _ _ us hl => match us, hl with | [_, _, _], _ => rfl
  have D31 : Df K mg "_law_turning_ways" sTurning ["_law_cup_here", "_law_signs_here", "_law_many"] f31 _ := df_mk X G a31 l31 c31 k31 fun _ _ _ _ _ _ us hl => match us, hl with | [_, _, _], _ => rfl
  have D32 : Df K mg "_law_ring_ways" sRing ["_law_cup_here", "_law_signs_here", "_law_many"] f32 _ := df_mk X G a32 l32 c32 k32 fun _ _ _ _ _ _ us hl => match us, hl with | [_, _, _], _ => rfl
  have D33 : Df K mg "_law_pair_ways" sPair ["_law_cup_here", "_law_signs_here", "_law_many"] f33 _ := df_mk X G a33 l33 c33 k33 fun _ _ _ _ _ _ us hl => match us, hl with | [_, _, _], _ => rfl
  have D34 : Df K mg "_law_turner" sTurner ["_law_cup_here", "_law_signs_here"] f34 _ := df_mk X G a34 l34 c34 k34 fun _ _ _ _ _ _ us hl => match us, hl with | [_, _], _ => rfl
  have D35 : Df K mg "_law_plain_reader" sPlain ["_law_cup_here", "_law_signs_here"] f35 _ := df_mk X G a35 l35 c35 k35 fun _ _ _ _ _ _ us hl => match us, hl with | [_, _], _ => rfl
  have D36 : Df K mg "_law_read" sRead ["_law_plain", "_law_at", "_law_line_here"] f36 _ := df_mk X G a36 l36 c36 k36 fun _ _ _ _ _ _ us hl => match us, hl with | [_, _, _], _ => rfl
  have D37 : Df K mg "_law_made_reader" sMade ["_law_plain"] f37 _ := df_mk X G a37 l37 c37 k37 fun _ _ _ _ _ _ us hl => match us, hl with | [_], _ => rfl
  have D38 : Df K mg "_law_is_due" sID ["_law_plain", "_law_lean_here", "_law_value"] f38 _ := df_mk X G a38 l38 c38 k38 fun _ _ _ _ _ _ us hl => match us, hl with | [_, _, _], _ => rfl
  have D39 : Df K mg "_law_near" sNr ["_law_cup_here", "_law_plain", "_law_due"] f39 _ := df_mk X G a39 l39 c39 k39 fun _ _ _ _ _ _ us hl => match us, hl with | [_, _, _], _ => rfl
  have D40 : Df K mg "_law_cell_right" sCl ["_law_cup_here"] f40 _ := df_mk X G a40 l40 c40 k40 fun _ _ _ _ _ _ us hl => match us, hl with | [_], _ => rfl
  have D41 : Df K mg "law" sLaw2 ["_law_script"] fa _ := df_mk X G a41 l41 c41 k41 fun _ _ _ _ _ _ us hl => match us, hl with | [_], _ => rfl
  have FIn := fun_mk (st := sInit) lIn cIn kIn
  have bIn := FIn.binds (ps := ["self", "letters", "moves", "yes"]) fun _ _ _ _ _ _ us hl => match us, hl with | [_, _, _, _], _ => rfl
  have FLd := fun_mk (st := sLed) lLd cLd kLd
  have bLd := FLd.binds (ps := ["self", "state", "text"]) fun _ _ _ _ _ _ us hl => match us, hl with | [_, _, _], _ => rfl
  have FLn := fun_mk (st := sLen) lLn cLn kLn
  have bLn := FLn.binds (ps := ["self"]) fun _ _ _ _ _ _ us hl => match us, hl with | [_], _ => rfl
  have FCn := fun_mk (st := sIn) lCn cCn kCn
  have bCn := FCn.binds (ps := ["self", "value"]) fun _ _ _ _ _ _ us hl => match us, hl with | [_, _], _ => rfl
  have FEq := fun_mk (st := sEq) lEq cEq kEq
  have bEq := FEq.binds (ps := ["self", "other"]) fun _ _ _ _ _ _ us hl => match us, hl with | [_, _], _ => rfl
  have FSr := fun_mk (st := sStr) lSr cSr kSr
  have bSr := FSr.binds (ps := ["self"]) fun _ _ _ _ _ _ us hl => match us, hl with | [_], _ => rfl
  have FL2 := fun_mk (st := sLed2) lL2 cL2 kL2
  have bL2 := FL2.binds (ps := ["self", "state", "text"]) fun _ _ _ _ _ _ us hl => match us, hl with | [_, _, _], _ => rfl
  have FIv := fun_mk (st := sInv) lIv cIv kIv
  have bIv := FIv.binds (ps := ["self"]) fun _ _ _ _ _ _ us hl => match us, hl with | [_], _ => rfl
  have FLe := fun_mk (st := sLet) lLe cLe kLe
  have bLe := FLe.binds (ps := ["self"]) fun _ _ _ _ _ _ us hl => match us, hl with | [_], _ => rfl
  have FMo := fun_mk (st := sMov) lMo cMo kMo
  have bMo := FMo.binds (ps := ["self"]) fun _ _ _ _ _ _ us hl => match us, hl with | [_], _ => rfl
  have FYe := fun_mk (st := sYes) lYe cYe kYe
  have bYe := FYe.binds (ps := ["self"]) fun _ _ _ _ _ _ us hl => match us, hl with | [_], _ => rfl
  have clXR : Cls K CR := ⟨pgXR, hdXR, poXR, saXR⟩
  have W : WR K mg CR := ⟨PySem.W.mg_of X G aXR, clXR, nL, nM, nY, fun H a dx fs e => .base (.ins e clXR haXR qHn qHt hmXR), kit_self⟩
  have hE : mg "enumerate" = none := PySem.W.mg_none_of X G z18
  refine ⟨PySem.W.fnOf "law" "law" (defArgs sLaw) (defBody sLaw) (defScope sLaw) .none kV41 dc41 pm41 an41 cd41 ct41, fun s v => .of_eq rfl, fun base _ _ => ?_⟩
  have LO : Low K mg _ _ _ _ _ _ _ _ _ _ := ⟨D1, D5, D2, D4, D3⟩
  have B : LowR K mg _ _ _ _ _ _ _ _ _ _ _ _ _ _ _ _ _ _ _ _ := ⟨LO, D7, D8, D9, D10, D6⟩
  have N : LenR l.prog w K mg base CR fLn _ := ⟨ok_len FLn T W, bLn, aLn, iLn⟩
  have L : LedR l.prog w K mg base CR fL2 _ := ⟨ok_led2 FL2 W, bL2, ⟨aL2, iL2, kL2⟩⟩
  have MK : MkR l.prog w K mg base CR fIn _ := ⟨W, ⟨mkXR, aIn, iIn, kcXR⟩, ok_init FIn T W B, bIn⟩
  obtain ⟨C, GMoN⟩ : ∃ C : Cl l.prog w K mg base CR, FnOk l.prog w K mg base CX0 1 C.fMo C.dMo ["self"] (spMovN CR) := ⟨
    { fI := fIn, fLe := fLe, fMo := fMo, fYe := fYe, fLd := fLd, fLn := fLn, fIn := fCn, fEq := fEq, fSr := fSr, pL := pLe, pM := pMo, pY := pYe
      dI := _, dLe := _, dMo := PySem.W.fnOf "moves" "Reader.moves" (defArgs sMov) (defBody sMov) (defScope sMov) .none kVMo dcMo pmMo anMo cdMo ctMo, dYe := _, dLd := _, dLn := _, dIn := _, dEq := _, dSr := _, MK := MK
      gLe := ok_let FLe W, gMo := ok_mov FMo T W, gYe := ok_yesp FYe W, gLd := ok_led FLd T W B N L, gLn := ok_len FLn T W, gIn := ok_in FCn T W B L, gEq := ok_eq FEq T W, gEqX := ok_eqX FEq T W, gSr := ok_str FSr T W N
      bLe := bLe, bMo := bMo, bYe := bYe, bLd := bLd, bLn := bLn, bIn := bCn, bEq := bEq, bSr := bSr, nf := qNf, ob := qOb, sEq := aEq, sNe := qNe, sLn := aLn, sIn := aCn, sSr := aSr, fnEq := iEq, fnLn := iLn, fnIn := iCn, fnSr := iSr
      mLd := ⟨aLd, iLd, kLd⟩, pLe := ⟨aLe, gLe', tLe, restLe, rLe⟩, pMo := ⟨aMo, gMo', tMo, restMo, rMo⟩, pYe := ⟨aYe, gYe', tYe, restYe, rYe⟩ }, ok_movN FMo T W⟩
  have R : Dr1 K mg _ _ _ _ _ _ _ _ _ _ _ _ _ _ _ _ := ⟨D24, D25, D26, D29, D30, D31, D32, D33⟩
  have GV := ok_lean (P := l.prog) (w := w) (base := base) D14.F T C D13 D15 D12 D11 hE GMoN
  have GLL := ok_ll (P := l.prog) (w := w) (base := base) D21.F T D20 D19 hE
  have GFM := ok_fm D16.F T C D14 D11 GV GMoN
  have GIM := ok_im D17.F T C LO D14 GV
  have GIT := ok_ist D18.F D16 GFM
  have U : UpM l.prog w K mg base CR _ _ _ _ _ _ _ _ _ _ _ _ _ _ _ _ _ _ _ _ _ _ _ _ := ⟨D27, D35, D37, D22, D21, D16, D18, D17, D14, D39, D38,
    ok_signs D27.F T D24 D25, ok_plain D35.F T R D34, ok_made D37.F C, ok_mt D22.F T D21 GLL fun r m l ok _ full => okR_lean ok full, GLL, GFM, GIT, GIM, GV,
    ok_nr D39.F T D28 D25 D24, ok_id2 D38.F T D36, ok_inv FIv T C, bIv, aIv, iIv⟩
  exact ok_law D41.F T C D23 D40 D16 D17 D18 (ok_cup D23.F T) (ok_cl D40.F T C U) GFM GIM GIT
theorem fin {l : PySem.W.OpenLaw} {q : Program} {loose : List Str} {XP : (Str → Option Value) → Heap → Prop} {YP : World → Heap → Prop} {d : DefRec} {K : Params → PySem.W.Frag} (hn : l.most = some 63) (hdf : d.params.defaults = [])
    (hY : ∀ (w : World) (h : Heap), YP w h → (K w.params).In h)
    (F : ∀ (w : World) (mg : Str → Option Value) (fa : Addr) (h : Heap), (K w.params).In h → h.Ns mainGlobals mg → mg d.name = some (.ref fa) → XP mg h →
      ∃ fd : FuncData, (∀ (s : Shared) (u : Value), BindsTo s fd ⟨[u], []⟩ [("_law_script", u)]) ∧ ∀ base : Heap, (K w.params).In base → base.Ns mainGlobals mg → Kept l.prog w (K w.params) mg base CX0 11 fa fd ["_law_script"] (spLaw (K w.params))) :
    PySem.W.WalkO q loose XP YP l.row.toRowW d [] (fun f vs => PySem.call f vs) :=
  Tg.walk (n := 63) (k := 11) (x := "_law_script") (cx := fun _ => CX0) (sp := fun w => spLaw (K w.params)) hn (by decide) hdf ⟨rfl, by decide, by decide⟩ hY F (fun _ _ a ns hl _ hS => ⟨a, ns, rfl, hS, hl, fun _ => rfl⟩) fun _ _ _ _ _ z => z
end K24

set_option Elab.async false
set_option maxRecDepth 100000
open PySem PySem.W PyProof.Rows
set_option maxRecDepth 100000 in
set_option maxHeartbeats 0 in
theorem PySem.Challenge.cw_whatcounts_k29_whole_merges_holds : PySem.Challenge.rw_whatcounts_k29_whole_merges.Holds := by
  w_on; o_law; k_head; (case hw => w_witness2)
  k_fill
  refine K24.fin (l := PySem.Challenge.rw_whatcounts_k29_whole_merges) rfl rfl (fun w h Y => PySem.W.kIn_of Y) ?F
  case F =>
    intro w mg fa h KX G hmg hx
    have hx1 : ∃ n t, n = 10 ^ 200 ∧ mg "LEAST_TOO_LONG" = some (.int n t) := by
      first
      | (obtain ⟨v, e, r⟩ := hx.2.val _ (List.Mem.head _); cases r; exact ⟨_, _, by decide +kernel, e⟩)
      | (obtain ⟨v, e, r⟩ := hx.2.val _ (List.Mem.tail _ (List.Mem.head _)); cases r; exact ⟨_, _, by decide +kernel, e⟩)
      | (obtain ⟨v, e, r⟩ := hx.2.val _ (List.Mem.tail _ (List.Mem.tail _ (List.Mem.head _))); cases r; exact ⟨_, _, by decide +kernel, e⟩)
      | (obtain ⟨v, e, r⟩ := hx.2.val _ (List.Mem.tail _ (List.Mem.tail _ (List.Mem.tail _ (List.Mem.head _)))); cases r; exact ⟨_, _, by decide +kernel, e⟩)
      | (obtain ⟨v, e, r⟩ := hx.2.val _ (List.Mem.tail _ (List.Mem.tail _ (List.Mem.tail _ (List.Mem.tail _ (List.Mem.head _))))); cases r; exact ⟨_, _, by decide +kernel, e⟩)
      | (obtain ⟨v, e, r⟩ := hx.2.val _ (List.Mem.tail _ (List.Mem.tail _ (List.Mem.tail _ (List.Mem.tail _ (List.Mem.tail _ (List.Mem.head _)))))); cases r; exact ⟨_, _, by decide +kernel, e⟩)
      | (obtain ⟨v, e, r⟩ := hx.2.val _ (List.Mem.tail _ (List.Mem.tail _ (List.Mem.tail _ (List.Mem.tail _ (List.Mem.tail _ (List.Mem.tail _ (List.Mem.head _))))))); cases r; exact ⟨_, _, by decide +kernel, e⟩)
      | (obtain ⟨v, e, r⟩ := hx.2.val _ (List.Mem.tail _ (List.Mem.tail _ (List.Mem.tail _ (List.Mem.tail _ (List.Mem.tail _ (List.Mem.tail _ (List.Mem.tail _ (List.Mem.head _)))))))); cases r; exact ⟨_, _, by decide +kernel, e⟩)
    refine' K24.all_mk KX G hmg hx1 ?a1 ?l1 ?c1 ?k1 ?a2 ?l2 ?c2 ?k2 ?a3 ?l3 ?c3 ?k3 ?a4 ?l4 ?c4 ?k4 ?a5 ?l5 ?c5 ?k5 ?a6 ?l6 ?c6 ?k6 ?a7 ?l7 ?c7 ?k7 ?a8 ?l8 ?c8 ?k8 ?a9 ?l9 ?c9 ?k9 ?a10 ?l10 ?c10 ?k10 ?a11 ?l11 ?c11 ?k11 ?a12 ?l12 ?c12 ?k12 ?a13 ?l13 ?c13 ?k13 ?a14 ?l14 ?c14 ?k14 ?a15 ?l15 ?c15 ?k15 ?a16 ?l16 ?c16 ?k16 ?a17 ?l17 ?c17 ?k17 ?a18 ?l18 ?c18 ?k18 ?a19 ?l19 ?c19 ?k19 ?a20 ?l20 ?c20 ?k20 ?a21 ?l21 ?c21 ?k21 ?a22 ?l22 ?c22 ?k22 ?a23 ?l23 ?c23 ?k23 ?a24 ?l24 ?c24 ?k24 ?a25 ?l25 ?c25 ?k25 ?a26 ?l26 ?c26 ?k26 ?a27 ?l27 ?c27 ?k27 ?a28 ?l28 ?c28 ?k28 ?a29 ?l29 ?c29 ?k29 ?a30 ?l30 ?c30 ?k30 ?a31 ?l31 ?c31 ?k31 ?a32 ?l32 ?c32 ?k32 ?a33 ?l33 ?c33 ?k33 ?a34 ?l34 ?c34 ?k34 ?a35 ?l35 ?c35 ?k35 ?a36 ?l36 ?c36 ?k36 ?a37 ?l37 ?c37 ?k37 ?a38 ?l38 ?c38 ?k38 ?a39 ?l39 ?c39 ?k39 ?a40 ?l40 ?c40 ?k40 ?a41 ?l41 ?c41 ?k41 ?aXR ?aIn ?iIn ?lIn ?cIn ?kIn ?aLd ?iLd ?lLd ?cLd ?kLd ?aLn ?iLn ?lLn ?cLn ?kLn ?aCn ?iCn ?lCn ?cCn ?kCn ?aEq ?iEq ?lEq ?cEq ?kEq ?aSr ?iSr ?lSr ?cSr ?kSr ?aL2 ?iL2 ?lL2 ?cL2 ?kL2 ?aIv ?iIv ?lIv ?cIv ?kIv ?aLe ?gLe' ?tLe ?rLe ?lLe ?cLe ?kLe ?aMo ?gMo' ?tMo ?rMo ?lMo ?cMo ?kMo ?aYe ?gYe' ?tYe ?rYe ?lYe ?cYe ?kYe ?pgXR ?hdXR ?poXR ?saXR ?mkXR ?kcXR ?haXR ?hmXR ?qHn ?qHt ?nL ?nM ?nY ?qNf ?qOb ?qNe ?z1 ?z2 ?z3 ?z4 ?z5 ?z6 ?z7 ?z8 ?z9 ?z10 ?z11 ?z12 ?z13 ?z14 ?z15 ?z16 ?z17 ?z18 ?v1 ?v2 ?v3 ?v4
    (case a1 => k_is)
    (case l1 => k_is)
    (case c1 => k_is)
    (case k1 => k_is)
    (case a2 => k_is)
    (case l2 => k_is)
    (case c2 => k_is)
    (case k2 => k_is)
    (case a3 => k_is)
    (case l3 => k_is)
    (case c3 => k_is)
    (case k3 => k_is)
    (case a4 => k_is)
    (case l4 => k_is)
    (case c4 => k_is)
    (case k4 => k_is)
    (case a5 => k_is)
    (case l5 => k_is)
    (case c5 => k_is)
    (case k5 => k_is)
    (case a6 => k_is)
    (case l6 => k_is)
    (case c6 => k_is)
    (case k6 => k_is)
    (case a7 => k_is)
    (case l7 => k_is)
    (case c7 => k_is)
    (case k7 => k_is)
    (case a8 => k_is)
    (case l8 => k_is)
    (case c8 => k_is)
    (case k8 => k_is)
    (case a9 => k_is)
    (case l9 => k_is)
    (case c9 => k_is)
    (case k9 => k_is)
    (case a10 => k_is)
    (case l10 => k_is)
    (case c10 => k_is)
    (case k10 => k_is)
    (case a11 => k_is)
    (case l11 => k_is)
    (case c11 => k_is)
    (case k11 => k_is)
    (case a12 => k_is)
    (case l12 => k_is)
    (case c12 => k_is)
    (case k12 => k_is)
    (case a13 => k_is)
    (case l13 => k_is)
    (case c13 => k_is)
    (case k13 => k_is)
    (case a14 => k_is)
    (case l14 => k_is)
    (case c14 => k_is)
    (case k14 => k_is)
    (case a15 => k_is)
    (case l15 => k_is)
    (case c15 => k_is)
    (case k15 => k_is)
    (case a16 => k_is)
    (case l16 => k_is)
    (case c16 => k_is)
    (case k16 => k_is)
    (case a17 => k_is)
    (case l17 => k_is)
    (case c17 => k_is)
    (case k17 => k_is)
    (case a18 => k_is)
    (case l18 => k_is)
    (case c18 => k_is)
    (case k18 => k_is)
    (case a19 => k_is)
    (case l19 => k_is)
    (case c19 => k_is)
    (case k19 => k_is)
    (case a20 => k_is)
    (case l20 => k_is)
    (case c20 => k_is)
    (case k20 => k_is)
    (case a21 => k_is)
    (case l21 => k_is)
    (case c21 => k_is)
    (case k21 => k_is)
    (case a22 => k_is)
    (case l22 => k_is)
    (case c22 => k_is)
    (case k22 => k_is)
    (case a23 => k_is)
    (case l23 => k_is)
    (case c23 => k_is)
    (case k23 => k_is)
    (case a24 => k_is)
    (case l24 => k_is)
    (case c24 => k_is)
    (case k24 => k_is)
    (case a25 => k_is)
    (case l25 => k_is)
    (case c25 => k_is)
    (case k25 => k_is)
    (case a26 => k_is)
    (case l26 => k_is)
    (case c26 => k_is)
    (case k26 => k_is)
    (case a27 => k_is)
    (case l27 => k_is)
    (case c27 => k_is)
    (case k27 => k_is)
    (case a28 => k_is)
    (case l28 => k_is)
    (case c28 => k_is)
    (case k28 => k_is)
    (case a29 => k_is)
    (case l29 => k_is)
    (case c29 => k_is)
    (case k29 => k_is)
    (case a30 => k_is)
    (case l30 => k_is)
    (case c30 => k_is)
    (case k30 => k_is)
    (case a31 => k_is)
    (case l31 => k_is)
    (case c31 => k_is)
    (case k31 => k_is)
    (case a32 => k_is)
    (case l32 => k_is)
    (case c32 => k_is)
    (case k32 => k_is)
    (case a33 => k_is)
    (case l33 => k_is)
    (case c33 => k_is)
    (case k33 => k_is)
    (case a34 => k_is)
    (case l34 => k_is)
    (case c34 => k_is)
    (case k34 => k_is)
    (case a35 => k_is)
    (case l35 => k_is)
    (case c35 => k_is)
    (case k35 => k_is)
    (case a36 => k_is)
    (case l36 => k_is)
    (case c36 => k_is)
    (case k36 => k_is)
    (case a37 => k_is)
    (case l37 => k_is)
    (case c37 => k_is)
    (case k37 => k_is)
    (case a38 => k_is)
    (case l38 => k_is)
    (case c38 => k_is)
    (case k38 => k_is)
    (case a39 => k_is)
    (case l39 => k_is)
    (case c39 => k_is)
    (case k39 => k_is)
    (case a40 => k_is)
    (case l40 => k_is)
    (case c40 => k_is)
    (case k40 => k_is)
    (case a41 => k_is)
    (case l41 => k_is)
    (case c41 => k_is)
    (case k41 => k_is)
    (case aXR => k_is)
    (case aIn => k_is)
    (case iIn => k_is)
    (case lIn => k_is)
    (case cIn => k_is)
    (case kIn => k_is)
    (case aLd => k_is)
    (case iLd => k_is)
    (case lLd => k_is)
    (case cLd => k_is)
    (case kLd => k_is)
    (case aLn => k_is)
    (case iLn => k_is)
    (case lLn => k_is)
    (case cLn => k_is)
    (case kLn => k_is)
    (case aCn => k_is)
    (case iCn => k_is)
    (case lCn => k_is)
    (case cCn => k_is)
    (case kCn => k_is)
    (case aEq => k_is)
    (case iEq => k_is)
    (case lEq => k_is)
    (case cEq => k_is)
    (case kEq => k_is)
    (case aSr => k_is)
    (case iSr => k_is)
    (case lSr => k_is)
    (case cSr => k_is)
    (case kSr => k_is)
    (case aL2 => k_is)
    (case iL2 => k_is)
    (case lL2 => k_is)
    (case cL2 => k_is)
    (case kL2 => k_is)
    (case aIv => k_is)
    (case iIv => k_is)
    (case lIv => k_is)
    (case cIv => k_is)
    (case kIv => k_is)
    (case aLe => k_is)
    (case gLe' => k_is)
    (case tLe => k_is)
    (case rLe => k_is)
    (case lLe => k_is)
    (case cLe => k_is)
    (case kLe => k_is)
    (case aMo => k_is)
    (case gMo' => k_is)
    (case tMo => k_is)
    (case rMo => k_is)
    (case lMo => k_is)
    (case cMo => k_is)
    (case kMo => k_is)
    (case aYe => k_is)
    (case gYe' => k_is)
    (case tYe => k_is)
    (case rYe => k_is)
    (case lYe => k_is)
    (case cYe => k_is)
    (case kYe => k_is)
    (case pgXR => k_is)
    (case hdXR => k_is)
    (case poXR => k_is)
    (case saXR => k_is)
    (case mkXR => k_is)
    (case kcXR => k_is)
    (case haXR => k_is)
    (case hmXR => k_is)
    (case qHn => k_is)
    (case qHt => k_is)
    (case nL => k_is)
    (case nM => k_is)
    (case nY => k_is)
    (case qNf => first | rfl | k_is)
    (case qOb => k_is)
    (case qNe => k_is)
    (case z1 => k_is)
    (case z2 => k_is)
    (case z3 => k_is)
    (case z4 => k_is)
    (case z5 => k_is)
    (case z6 => k_is)
    (case z7 => k_is)
    (case z8 => k_is)
    (case z9 => k_is)
    (case z10 => k_is)
    (case z11 => k_is)
    (case z12 => k_is)
    (case z13 => k_is)
    (case z14 => k_is)
    (case z15 => k_is)
    (case z16 => k_is)
    (case z17 => k_is)
    (case z18 => k_is)
    (case v1 => k_is)
    (case v2 => k_is)
    (case v3 => k_is)
    (case v4 => k_is)

