import PyProof.Rows.All
import Wide.All
import OpenK.AllK
import Wide.FinOn
import HandS.ForMost
import HandS.IsInst
import HandS.Wide
import HandS.Strs
import HandS.SetTxt0
import HandS.Set
import HandS.SetTxtIn
import HandS.Exc
import HandS.TryOnly
import HandS.ExcOwn
import HandS.WordsExc
import PyProof.ReprReads
import PyProof.Rows.StrCut
import HandS.StrMore
import KE.SortLaws
import HandS.TupAny
import HandS.Style
import KE.KRevSl
import HandS.Text
import HandS.Iter
import HandS.ClsMeth
import HandS.Property
import KE.KOpsOwn
import PyProof.InstNe
import KE.KCallOwn
import KE.KOwnIter
import HandS.IterNext
import PyProof.WalksMore
import HandS.IterVal
import HandS.FStr
import KE.GoesMore
import PyProof.EnumMake
import PyProof.Draws
import PyProof.Rows.SortShell
import HandS.Walk
import HandS.SortKw
import KE.SortKeyHeap
import HandS.Zip
import HandS.DictComp
import HandS.ListItems
import HandS.Conv
import KE.KDictSum
import KE.DatumOrd
import HandS.Comp
import HandS.Lambda
import KE.KNest
import HandS.EndTab
import HandS.EndBits
import HandS.List
import PyProof.AutoSeq1
import PyProof.EqAt
import PyProof.EqKinds
import PyProof.TupleCall
import HandS.Base
import HandS.Call
import HandS.TryMany
import PyProof.FString
import PyProof.FString4
import KE.KExcSuper
import HandS.Ends
import HandS.ExcSuper
import HandS.RaiseMore
import HandS.CallLocal
import PySem.Challenge.RW_whatcounts_k10_errors_of_leading_pattern
set_option Elab.async false
set_option linter.all false
set_option maxRecDepth 100000
set_option maxHeartbeats 3200000
/-! sets of texts: made of a text, sorted -/
namespace Tx
open PySem PySem.Spec PyProof.Rows L2

/-- the text that an entry holds -/
def tx (e : Int × Value) : Str := match e.2 with
  | .str y _ => y
  | _ => Str.empty
/-- an entry of a set of texts -/
def Ent (w : World) (e : Int × Value) : Prop := ∃ y u, e.2 = Value.str y u ∧ e.1 = hashStr w y

/-- at a stands a set whose members are the texts ys, in some order -/
def At (w : World) (h : Heap) (a : Addr) (ys : List Str) : Prop :=
  ∃ (o : Obj) (es : Array (Int × Value)) (ep : Nat) (t : SetTable), h.get? a = some o ∧ o.ExactSet ∧ o.data = .set es ep t ∧
    (∀ e ∈ es.toList, Ent w e) ∧ (es.toList.map tx).Perm ys ∧ es.size < scanBound ∧ t.fits es.size = true ∧
    Ris t.place.toList ∧ (w.params.followText "set-order" = true ∨ t.led = true)

section
variable {P : Program} {w : World} {h h' : Heap} {a : Addr} {ys : List Str}
theorem At.stays (R : At w h a ys) (k : ∀ o, h.get? a = some o → h'.get? a = some o) : At w h' a ys :=
  let ⟨o, es, ep, t, ho, r⟩ := R
  ⟨o, es, ep, t, k o ho, r⟩
theorem Ent.elems {l : List (Int × Value)} (g : ∀ e ∈ l, Ent w e) : ElemsOf (strKind P w) l := by
  intro e he
  obtain ⟨y, u, q1, q2⟩ := g e he
  refine ⟨⟨y, ?_, q2⟩, ?_⟩
  · rw [q1]
    exact Froz.is_str y u
  · rw [q1]
    rfl
theorem Ent.is {e : Int × Value} (g : Ent w e) (k : Str) : (strKind P w).is k e.2 = true ↔ tx e = k := by
  obtain ⟨y, u, q1, _⟩ := g
  unfold tx
  rw [q1]
  constructor
  · intro q
    exact ((strKind P w).inj (.str y u) k y q (Froz.is_str y u)).symm
  · intro q
    subst q
    exact Froz.is_str _ u
theorem Ent.mem {l : List (Int × Value)} (g : ∀ e ∈ l, Ent w e) (k : Str) : k ∈ l.map tx ↔ ∃ e ∈ l, (strKind P w).is k e.2 = true := by
  rw [List.mem_map]
  exact ⟨fun ⟨e, he, q⟩ => ⟨e, he, ((g e he).is k).mpr q⟩, fun ⟨e, he, q⟩ => ⟨e, he, ((g e he).is k).mp q⟩⟩
end

section
variable {P : Program} {w : World} {A : Around} {E : Value → Shared → Prop} {s : Shared} {a : Addr} {ys : List Str}
theorem add_tail {g : Bool → Sem Unit} (hg : ∀ (b : Bool) (z : Shared) (R : Unit → Shared → Prop), R () z → wpAny (model P w) A (g b) R E z)
    {o : Obj} {es : Array (Int × Value)} {ep : Nat} {t : SetTable} (ho : s.heap.get? a = some o) (hx : o.ExactSet) (hd : o.data = .set es ep t)
    {es1 : Array (Int × Value)} {t2 : SetTable} (g1 : ∀ e ∈ es1.toList, Ent w e) (m1 : (es1.toList.map tx).Perm ys)
    (hb1 : es1.size < scanBound) (hf2 : t2.fits es1.size = true) (hr : Ris t2.place.toList) (hl : w.params.followText "set-order" = true ∨ t2.led = true)
    {was : Bool} {R : Option Bool → Shared → Prop}
    (hR : ∀ h', Heap.SameBut a s.heap h' → At w h' a ys → R (some true) { s with heap := h' }) :
    wpAny (model P w) A (do
        storeSet a es1 t2
        if (!was && t2.tooFull) = true then do
            g (relayAll t2 es1 (SetTable.grown es1.size)).2.2
            storeSet a (relayAll t2 es1 (SetTable.grown es1.size)).1 (relayAll t2 es1 (SetTable.grown es1.size)).2.1
            pure (some true)
          else pure (some true)) R E s := by
  refine wpAny_bind (wpAny_storeSet_of ho hd ?_ (fits_of_scanBound hb1))
  have q1 := store_at (es' := es1) (t' := t2) ho hd
  have sb := Heap.SameBut.update s.heap a (Obj.putSet es1 t2)
  split
  · have p3 := relayAll_perm t2 es1 (SetTable.grown es1.size)
    have f3 := relayAll_fits t2 es1 (SetTable.grown es1.size)
    have r3 := relayAll_ris t2 es1 (SetTable.grown es1.size)
    have l3 := relayAll_led t2 es1 (SetTable.grown es1.size)
    generalize relayAll t2 es1 (SetTable.grown es1.size) = Z at p3 f3 r3 l3 ⊢
    obtain ⟨es2, t3, gave⟩ := Z
    dsimp only at p3 f3 r3 l3 ⊢
    have z2 : es2.size = es1.size := by
      have := p3.length_eq
      rw [Array.length_toList, Array.length_toList] at this
      exact this
    refine wpAny_bind (hg _ _ _ ?_)
    refine wpAny_bind (wpAny_storeSet_of q1 rfl ?_ (fits_of_scanBound (by rw [z2]; exact hb1)))
    have q2 := store_at (es' := es2) (t' := t3) q1 rfl
    refine wpAny_pure (hR _ (sb.trans (Heap.SameBut.update _ a _)) ?_)
    exact ⟨_, es2, _, t3, q2, hx, rfl, fun e he => g1 e (p3.mem_iff.mp he), (p3.map tx).trans m1, by rw [z2]; exact hb1, f3, r3, hl.imp id fun z => l3.trans z⟩
  · exact wpAny_pure (hR _ sb ⟨_, es1, _, t2, q1, hx, rfl, g1, m1, hb1, hf2, hr, hl⟩)

theorem add_hashed {k : Str} {u : Tok} {Q : Bool → Shared → Prop} (R : At w s.heap a ys) (room : ys.length + 1 < scanBound)
    (hQ : ∀ h', Heap.SameBut a s.heap h' → At w h' a (if k ∈ ys then ys else k :: ys) → Q (!decide (k ∈ ys)) { s with heap := h' }) :
    wpAny (model P w) A (setAddHashed a (.str k u) (hashStr w k)) Q E s := by
  obtain ⟨o, es, ep, t, ho, hx, hd, g, pm, hb, hf, hr, hl⟩ := R
  have hkey : (strKind P w).is k (.str k u) = true := Froz.is_str k u
  have hel : ElemsOf (strKind P w) es.toList := Ent.elems g
  have hz : es.size = ys.length := by
    have := pm.length_eq
    rw [List.length_map, Array.length_toList] at this
    exact this
  unfold setAddHashed setAddHashedIn
  refine wpAny_holding (wpAny_bind (wpAny_setState_of ho hd hf ?_))
  dsimp only
  rw [byScan_of (x := Value.str k u) rfl hb hel]
  simp only [↓reduceIte]
  unfold setAddByScan
  refine wpAny_bind ?_
  refine wpAny_bind (wpAny_rule ?_)
  refine wpAny_bind (wpAny_setScan_of (knd := strKind P w) (k := k) hkey ho hd hf hel ?_)
  cases hfi : List.findIdx? (fun e => (strKind P w).is k e.2) es.toList with
  | some j =>
    dsimp only
    obtain ⟨hj, pj, _⟩ := List.findIdx?_eq_some_iff_getElem.mp hfi
    have hk : k ∈ ys := pm.mem_iff.mp ((Ent.mem (P := P) g k).mpr ⟨es.toList[j], List.getElem_mem hj, pj⟩)
    refine wpAny_pure (wpAny_pure ?_)
    have q := hQ s.heap (Heap.SameBut.refl a s.heap) (by rw [if_pos hk]; exact ⟨o, es, ep, t, ho, hx, hd, g, pm, hb, hf, hr, hl⟩)
    rw [decide_eq_true hk] at q
    exact q
  | none =>
    dsimp only
    have hk : k ∉ ys := fun z => by
      obtain ⟨e, he, q⟩ := (Ent.mem (P := P) g k).mp (pm.mem_iff.mpr z)
      have c := List.findIdx?_eq_none_iff.mp hfi e he
      rw [q] at c
      cases c
    have hgw : ∀ (b : Bool) {z : Shared} {R : Unit → Shared → Prop}, R () z → wpAny (model P w) A (match b with | true => rule "set.scan.the-table-gave-way" | false => pure ()) R E z := by
      intro b z R q
      cases b
      · exact wpAny_pure q
      · exact wpAny_rule q
    have p1 := layNew_perm t es (hashStr w k) (.str k u)
    have f1 := layNew_fits t es (hashStr w k) (.str k u)
    have r1 := layNew_ris t es (hashStr w k) (.str k u) hr
    have l1 := layNew_led t es (hashStr w k) (.str k u)
    generalize layNew t es (hashStr w k) (.str k u) = Z at p1 f1 r1 l1 ⊢
    obtain ⟨es1, t1, was, gave⟩ := Z
    dsimp only at p1 f1 r1 l1 ⊢
    rw [Array.toList_push] at p1
    have pc : es1.toList.Perm ((hashStr w k, Value.str k u) :: es.toList) := p1.trans (List.perm_append_singleton _ _)
    have pk : (es1.toList.map tx).Perm (k :: ys) := (pc.map tx).trans (List.Perm.cons k pm)
    have g1 : ∀ e ∈ es1.toList, Ent w e := by
      intro e he
      cases List.mem_cons.mp (pc.mem_iff.mp he) with
      | inl z => exact ⟨k, u, by rw [z], by rw [z]⟩
      | inr z => exact g e z
    have hb1 : es1.size < scanBound := by
      have e1 : es1.size = ys.length + 1 := by
        have := pk.length_eq
        rw [List.length_map, Array.length_toList] at this
        exact this
      rw [e1]
      exact room
    have hld : w.params.followText "set-order" = true ∨ t1.led = true := hl.imp id fun z => l1.trans z
    have fin : ∀ h', Heap.SameBut a s.heap h' → At w h' a (k :: ys) → Q true { s with heap := h' } := by
      intro h' sb r
      have q := hQ h' sb (by rw [if_neg hk]; exact r)
      rw [decide_eq_false hk] at q
      exact q
    refine wpAny_bind (hgw _ ?_)
    split
    · refine wpAny_bind ?_
      rw [hashByValue_scannable 8 (x := Value.str k u) rfl]
      refine wpAny_pure ?_
      refine add_tail (ys := k :: ys) ?_ ho hx hd g1 pk hb1 ?_ ?_ ?_ ?_
      · intro b z R q
        cases b
        · exact wpAny_pure q
        · exact wpAny_rule q
      · first | (split <;> first | exact f1 | exact SetTable.fits_plain_off f1) | exact f1
      · first | (split <;> exact r1) | exact r1
      · first | (split <;> exact hld) | exact hld
      · intro h' sb r
        dsimp only
        exact wpAny_pure (fin h' sb r)
    · refine wpAny_bind (wpAny_pure ?_)
      simp only [↓reduceIte]
      refine add_tail (ys := k :: ys) ?_ ho hx hd g1 pk hb1 f1 r1 hld ?_
      · intro b z R q
        cases b
        · exact wpAny_pure q
        · exact wpAny_rule q
      · intro h' sb r
        dsimp only
        exact wpAny_pure (fin h' sb r)
end

/-! ### the signs of a text, each once -/
abbrev one (c : Nat) : Str := ⟨#[c]⟩
theorem one_inj {c d : Nat} (h : one c = one d) : c = d := by
  have q : [c] = [d] := congrArg (fun y : Str => y.cps.toList) h
  exact (List.cons.inj q).1
/-- the members behind the first signs -/
def met : List Nat → List Nat → List Nat
  | acc, [] => acc
  | acc, c :: r => met (if c ∈ acc then acc else c :: acc) r
theorem met_len (l : List Nat) : ∀ acc : List Nat, (met acc l).length ≤ acc.length + l.length := by
  induction l with
  | nil => intro acc; exact Nat.le_refl _
  | cons c r ih =>
    intro acc
    have h := ih (if c ∈ acc then acc else c :: acc)
    show (met (if c ∈ acc then acc else c :: acc) r).length ≤ acc.length + (r.length + 1)
    split at h <;> rename_i hc
    · rw [if_pos hc]; omega
    · rw [if_neg hc]
      rw [List.length_cons] at h
      omega
theorem met_mem (l : List Nat) : ∀ (acc : List Nat) (c : Nat), c ∈ met acc l ↔ c ∈ acc ∨ c ∈ l := by
  induction l with
  | nil => intro acc c; simp [met]
  | cons d r ih =>
    intro acc c
    show c ∈ met (if d ∈ acc then acc else d :: acc) r ↔ _
    rw [ih]
    by_cases hd : d ∈ acc
    · rw [if_pos hd, List.mem_cons]
      constructor
      · rintro (q | q)
        · exact .inl q
        · exact .inr (.inr q)
      · rintro (q | q | q)
        · exact .inl q
        · exact .inl (q ▸ hd)
        · exact .inr q
    · rw [if_neg hd, List.mem_cons, List.mem_cons]
      constructor
      · rintro ((q | q) | q)
        · exact .inr (.inl q)
        · exact .inl q
        · exact .inr (.inr q)
      · rintro (q | q | q)
        · exact .inl (.inr q)
        · exact .inl (.inl q)
        · exact .inr q
theorem met_nodup (l : List Nat) : ∀ acc : List Nat, acc.Nodup → (met acc l).Nodup := by
  induction l with
  | nil => intro acc h; exact h
  | cons d r ih =>
    intro acc h
    refine ih _ ?_
    by_cases hd : d ∈ acc
    · rw [if_pos hd]; exact h
    · rw [if_neg hd]; exact List.nodup_cons.mpr ⟨hd, h⟩
theorem met_mono (l : List Nat) : ∀ (acc : List Nat), acc.length ≤ (met acc l).length := by
  induction l with
  | nil => intro acc; exact Nat.le_refl _
  | cons d r ih =>
    intro acc
    refine Nat.le_trans ?_ (ih _)
    by_cases hd : d ∈ acc
    · rw [if_pos hd]; exact Nat.le_refl _
    · rw [if_neg hd]; exact Nat.le_succ _
theorem mem_one {c : Nat} {l : List Nat} : one c ∈ l.map one ↔ c ∈ l := by
  rw [List.mem_map]
  exact ⟨fun ⟨d, hd, q⟩ => one_inj q ▸ hd, fun q => ⟨c, q, rfl⟩⟩

section
variable {P : Program} {w : World} {A : Around} {R : Result → Shared → Prop} {I : Addr} {fp wr : List Addr} {St : Nat → Heap → Prop} {x : Str}
/-- the making: sign by sign into the set at S -/
theorem loop (W : Walks P w A.in1 I fp wr x.cps.size (SignAt x) St) (S : Addr) (hS : S ∉ fp) (hfew : (met [] x.cps.toList).length + 1 < scanBound) :
    ∀ (r : List Nat) (i : Nat) (acc : List Nat) (s : Shared), x.cps.toList.drop i = r → i ≤ x.cps.size → met acc r = met [] x.cps.toList → St i s.heap → At w s.heap S (acc.map one) →
      (∀ h' tk, (∀ b o, b ≠ S → b ∉ wr → s.heap.get? b = some o → h'.get? b = some o) → At w h' S ((met [] x.cps.toList).map one) → R (.ok (.ret .none)) { s with heap := h', toks := tk }) →
      codeAny (model P w) A (.builtin "set.update.loop" ⟨[.ref S, .ref I], []⟩) R s := by
  have hSw : S ∉ wr := fun z => hS (W.sub _ z)
  intro r
  induction r with
  | nil =>
    intro i acc s hr hi hm hst hat hR
    have hin : i = x.cps.size := by
      have := List.drop_eq_nil_iff.mp hr
      rw [Array.length_toList] at this
      omega
    subst hin
    refine codeAny_builtin PyProof.Rows.F.entry_set_update_loop ?_
    rw [Around.under_plainId PyProof.Rows.F.plain_set_update_loop _]
    show wpAny _ A.in1 (pyNext (.ref I) >>= _) _ _ s
    refine wpAny_bind (W.done s _ _ hst fun h' tk k => ?_)
    show wpAny _ A.in1 (ret Value.none) _ _ _
    refine wpAny_pure (hR h' tk (fun b o _ hb e => k b o hb e) ?_)
    have e : acc = met [] x.cps.toList := hm
    rw [← e]
    exact hat.stays fun o e => k S o hSw e
  | cons c r ih =>
    intro i acc s hr hi hm hst hat hR
    obtain ⟨hx, hr2⟩ := Froz.at_of hr
    have hlt : i < x.cps.size := by
      rcases Nat.lt_or_ge i x.cps.size with z | z
      · exact z
      · rw [Array.getElem?_eq_none z] at hx
        cases hx
    refine codeAny_builtin PyProof.Rows.F.entry_set_update_loop ?_
    rw [Around.under_plainId PyProof.Rows.F.plain_set_update_loop _]
    show wpAny _ A.in1 (pyNext (.ref I) >>= _) _ _ s
    refine wpAny_bind (W.item i s _ _ hlt hst fun v h1 tk1 hv hst1 k1 => ?_)
    obtain ⟨d, u, hd, rfl⟩ := hv
    have ed : d = c := Option.some.inj (hd.symm.trans hx)
    subst ed
    have hat1 : At w h1 S (acc.map one) := hat.stays fun o e => k1 S o hSw e
    show wpAny _ A.in1 (holding [Value.str (one d) u] (setAdd S (.str (one d) u)) >>= _) _ _ _
    refine wpAny_bind (wpAny_holding ?_)
    unfold setAdd
    refine wpAny_holding ?_
    refine wpAny_bind ((strKind P w).pyHash (k := one d) (Froz.is_str _ _) ?_)
    have hlen : (acc.map one).length + 1 < scanBound := by
      rw [List.length_map]
      have := met_mono (d :: r) acc
      rw [hm] at this
      omega
    refine add_hashed (ys := acc.map one) (s := { s with heap := h1, toks := tk1 + 1 }) hat1 hlen fun h2 sb hat2 => ?_
    have e2 : (if one d ∈ acc.map one then acc.map one else one d :: acc.map one) = (if d ∈ acc then acc else d :: acc).map one := by
      by_cases z : d ∈ acc
      · rw [if_pos z, if_pos (mem_one.mpr z)]
      · rw [if_neg z, if_neg (fun q => z (mem_one.mp q))]
        rfl
    rw [e2] at hat2
    have k2 : ∀ b o, b ≠ S → h1.get? b = some o → h2.get? b = some o := fun b o hb e => (sb.2 b hb).trans e
    refine wpAny_pure ⟨plainId_quiet PyProof.Rows.F.plain_set_update_loop _, ih (i + 1) _ _ hr2 hlt hm (W.frame _ _ _ hst1 fun b hb o e => k2 b o (fun z => hS (z ▸ hb)) e) hat2 fun h3 tk3 k3 hat3 => ?_⟩
    exact hR h3 tk3 (fun b o hb hw e => k3 b o hb hw (k2 b o hb (k1 b o hw e))) hat3
end
end Tx

set_option Elab.async false
set_option linter.all false
set_option maxRecDepth 100000
set_option maxHeartbeats 3200000
/-! sets of texts: set(a text), sorted(it), as calls -/
namespace Tx
open PySem PySem.Spec PyProof.Rows L2

section
variable {P : Program} {w : World} {A : Around} {E : Value → Shared → Prop} {s : Shared}
theorem fresh_at (w : World) (h : Heap) (led : Bool) (hl : w.params.followText "set-order" = true ∨ led = true) :
    At w (h.push { cls := .type "set", dict := none, data := .set #[] 0 (.fresh 0 0 led) }) h.objs.size ([] : List Str) :=
  ⟨_, #[], 0, .fresh 0 0 led, Heap.get?_push_size _ rfl, ⟨rfl, rfl, rfl⟩, rfl, (fun e he => by simp at he), by simp, by decide, by rfl, List.Pairwise.nil, hl⟩

/-- a new set, as set.__new__ lays it -/
theorem new_set (v : Value) {R : Value → Shared → Prop}
    (h : R (.ref s.heap.objs.size) { s with heap := s.heap.push { cls := .type "set", dict := none, data := .set #[] 0 (.fresh 0 0 (!w.params.followText "set-order")) } }) :
    codeAny (model P w) A (.call (.builtin "set.__new__") ⟨[.type "set", v], []⟩) (wants R E) s := by
  refine codeAny_of_tree ?_
  show wpAny _ A.in1 (do
    checkBuiltinCall "set.__new__" ⟨[.type "set", v], []⟩
    again (.builtin "set.__new__" ⟨[.type "set", v], []⟩)) _ _ s
  refine wpAny_bind (wpAny_of_eq (F.newCall_set_1 v) (wpAny_pure ⟨plainId_quiet F.plain_set_new _, codeAny_builtin F.entry_set_new ?_⟩))
  rw [Around.under_plainId F.plain_set_new _]
  unfold Builtin.«set.__new__»
  unfold Builtin.Frozenset.newClass
  have hsub := sub_set_self
  obtain ⟨hp, g, d, tk, os⟩ := s
  dsimp only
  wp_walk
  refine wpAny_askSetting (wpAny_pure ?_)
  dsimp only
  simp only [newObj]
  exact wpAny_bind (wpAny_alloc (wpAny_pure (wpAny_pure h)))

theorem call_set_text {x : Str} {t : Tok} {Q : Value → Shared → Prop} (hh : A.handled = none) (hfew : (met [] x.cps.toList).length + 1 < scanBound)
    (h : ∀ (h' : Heap) (tk : Nat), At w h' s.heap.objs.size ((met [] x.cps.toList).map one) → (∀ b o, s.heap.get? b = some o → h'.get? b = some o) → Q (.ref s.heap.objs.size) { s with heap := h', toks := tk }) :
    wpAny (model P w) A (call (.type "set") [.str x t]) Q E s := by
  obtain ⟨c, tl, hmro⟩ := PySem.F.called_set.mro
  have hmade := PySem.F.called_set.made
  have hsub := PySem.F.called_set.sub
  refine wpAny_call (codeAny_of_tree ?_)
  show wpAny _ _ (callAny (.type "set") _) _ _ _
  refine wpAny_pure ⟨Code.quiet_builtin _ (by decide +kernel), codeAny_builtin PySem.F.entry_type_call ?_⟩
  rw [Around.under_plain (weight_type_call_type "set" [.str x t] []) rfl]
  have h1 := PySem.F.called_set.notType
  have h2 := PySem.F.called_set.canCreate
  have hct := PySem.F.typeCall_set_1 (.str x t)
  repeat (any_goals (first | assumption | wp_step))
  refine codeAny_mono (new_set (P := P) (w := w) (E := E) (.str x t) (R := fun obj z => ∃ led : Bool, (w.params.followText "set-order" = true ∨ led = true) ∧ obj = .ref s.heap.objs.size ∧ z = { s with heap := s.heap.push { cls := .type "set", dict := none, data := .set #[] 0 (.fresh 0 0 led) } }) ⟨_, ?_, rfl, rfl⟩) fun r z hr => ?_
  · cases w.params.followText "set-order"
    · exact .inr rfl
    · exact .inl rfl
  cases r with
  | error e => exact hr
  | ok fl =>
    cases fl with
    | ret obj =>
      obtain ⟨led, hled, rfl, rfl⟩ := hr
      have hS : (s.heap.push { cls := .type "set", dict := none, data := .set #[] 0 (.fresh 0 0 led) }).get? s.heap.objs.size = some { cls := .type "set", dict := none, data := .set #[] 0 (.fresh 0 0 led) } := Heap.get?_push_size _ rfl
      have hT : Shared.TypeIs { s with heap := s.heap.push { cls := .type "set", dict := none, data := .set #[] 0 (.fresh 0 0 led) } } (.ref s.heap.objs.size) "set" := ⟨_, hS, rfl⟩
      have hli := PySem.F.called_set.init.lookup
      have hbi := PySem.F.called_set.init.bind (.ref s.heap.objs.size)
      repeat (any_goals (first | assumption | wp_step))
      refine codeAny_mono (codeAny_call_builtin (R := wants (fun r z => r = .none ∧ ∃ h' tk, z = { s with heap := h', toks := tk } ∧ At w h' s.heap.objs.size ((met [] x.cps.toList).map one) ∧
          (∀ b o, s.heap.get? b = some o → h'.get? b = some o)) E) PySem.F.called_set.init.plain PySem.F.entry_set_init (check_set_init_1 hT ?_)) fun r₂ s₂ hr₂ => ?_
      · unfold Builtin.«set.__init__» noKeywords Builtin.Frozenset.updateFrom
        generalize hPI : pyIter = PI
        generalize hAS : Builtin.Frozenset.isAnySet = AS
        wp_walk
        subst hPI
        subst hAS
        refine L2.Fz.anySet ?_
        simp only [Bool.false_eq_true, ↓reduceIte]
        refine wpAny_bind (wpAny_typeOf (typeIs_str _ _ _) ?_)
        have hsd : (Value.type "str" == Value.type "dict") = false := by decide
        simp only [hsd, Bool.false_eq_true, ↓reduceIte]
        refine wpAny_bind (wpAny_pyIter_str fun o St W hst => ?_)
        refine wpAny_bind (wpAny_runValue ?_)
        have hne : s.heap.objs.size ∉ [(s.heap.push { cls := .type "set", dict := none, data := .set #[] 0 (.fresh 0 0 led) }).objs.size] := by
          rw [Heap.size_push, List.mem_singleton]
          exact Nat.ne_of_lt (Nat.lt_succ_self _)
        refine loop (W _ (by simp [hh])) s.heap.objs.size hne hfew _ 0 [] _ (by rfl) (Nat.zero_le _) rfl hst ?_ ?_
        · exact (fresh_at w s.heap led hled).stays fun o e => Heap.get?_push_of_some _ e
        · intro h' tk k hat
          refine wpAny_pure ?_
          show wpAny _ _ (ret Value.none) _ _ _
          refine wpAny_pure ⟨rfl, h', tk, rfl, hat, fun b o e => ?_⟩
          have hb := Heap.lt_size e
          refine k b o (Nat.ne_of_lt hb) ?_ (Heap.get?_push_of_some _ (Heap.get?_push_of_some _ e))
          rw [Heap.size_push, List.mem_singleton]
          exact Nat.ne_of_lt (Nat.lt_succ_of_lt hb)
      · cases r₂ with
        | error e => exact hr₂
        | ok fl₂ =>
          cases fl₂ with
          | ret r =>
            obtain ⟨rfl, h', tk, rfl, hS', hk'⟩ := hr₂
            repeat (any_goals (first | assumption | wp_step))
            exact h _ _ hS' hk'
          | _ => exact hr₂.elim
    | _ => exact hr.elim

/-! ### sorted(a set of one-sign texts) -/
theorem vals_strs {vs : List Value} : ∀ {es : List (Int × Value)}, (∀ e ∈ es, Ent w e) → vs.Perm (es.map (·.2)) → StrsAre vs (vs.map strOf) ∧ (vs.map strOf).Perm (es.map tx) := by
  intro es g p
  refine ⟨strsAre_map vs fun v hv => ?_, ?_⟩
  · obtain ⟨e, he, q⟩ := List.mem_map.mp (p.mem_iff.mp hv)
    obtain ⟨y, u, q1, _⟩ := g e he
    exact ⟨y, u, by rw [← q]; exact q1⟩
  · have q := p.map strOf
    rw [List.map_map] at q
    have e : es.map (strOf ∘ (·.2)) = es.map tx := List.map_congr_left fun e he => by
      obtain ⟨y, u, q1, _⟩ := g e he
      show strOf e.2 = tx e
      unfold tx
      rw [q1]
      rfl
    rw [e] at q
    exact q
theorem pairwise_of_sortedS : ∀ (l : List Str), sortedS l = true → l.Pairwise (fun a b => ltCps b.cps.toList a.cps.toList = false) := by
  have trans : ∀ a b c : List Nat, ltCps b a = false → ltCps c b = false → ltCps c a = false := by
    intro a b c h1 h2
    rw [ltCps_eq] at h1 h2 ⊢
    have h1' := of_decide_eq_false h1
    have h2' := of_decide_eq_false h2
    refine decide_eq_false fun z => ?_
    have n1 : a ≤ b := List.not_lt.mp h1'
    have n2 : b ≤ c := List.not_lt.mp h2'
    exact absurd z (List.not_lt.mpr (List.le_trans n1 n2))
  have all : ∀ (l : List Str) (p : Str), risingS p l = true → (p :: l).Pairwise (fun a b => ltCps b.cps.toList a.cps.toList = false) := by
    intro l
    induction l with
    | nil => intro p _; exact List.pairwise_singleton _ _
    | cons x r ih =>
      intro p h
      have h' : (!ltCps x.cps.toList p.cps.toList && risingS x r) = true := h
      rw [Bool.and_eq_true, Bool.not_eq_true'] at h'
      have q := ih x h'.2
      refine List.pairwise_cons.mpr ⟨fun y hy => ?_, q⟩
      rcases List.mem_cons.mp hy with z | z
      · rw [z]; exact h'.1
      · exact trans _ _ _ h'.1 ((List.pairwise_cons.mp q).1 y z)
  intro l h
  cases l with
  | nil => exact List.Pairwise.nil
  | cons x r => exact all r x h
theorem lt_one {c d : Nat} (h : ltCps (one d).cps.toList (one c).cps.toList = false) : c ≤ d := by
  rw [ltCps_eq] at h
  have q := of_decide_eq_false h
  rcases Nat.lt_or_ge d c with z | z
  · exact absurd (show [d] < [c] from List.cons_lt_cons_iff.mpr (.inl z)) q
  · exact z
/-- sorted one-sign texts, each once, are a rising row of signs -/
theorem rising {ss : List Str} {acc : List Nat} (p : ss.Perm (acc.map one)) (hs : sortedS ss = true) (hn : acc.Nodup) : ∃ ns : List Nat, ss = ns.map one ∧ ns.Perm acc ∧ ns.Pairwise (· < ·) := by
  have back : ∀ l : List Nat, (l.map one).map (fun y => y.cps.toList.headD 0) = l := by
    intro l
    rw [List.map_map]
    exact (List.map_congr_left fun c _ => rfl).trans (List.map_id l)
  have e : ss = (ss.map (fun y => y.cps.toList.headD 0)).map one := by
    rw [List.map_map]
    refine ((List.map_congr_left fun y hy => ?_).trans (List.map_id ss)).symm
    obtain ⟨c, _, q⟩ := List.mem_map.mp (p.mem_iff.mp hy)
    subst q
    rfl
  have pm : (ss.map (fun y => y.cps.toList.headD 0)).Perm acc := by
    have q := p.map (fun y => y.cps.toList.headD 0)
    rw [back] at q
    exact q
  refine ⟨_, e, pm, ?_⟩
  generalize ss.map (fun y => y.cps.toList.headD 0) = ns at e pm ⊢
  subst e
  have h1 := List.pairwise_map.mp (pairwise_of_sortedS _ hs)
  have h2 : ns.Nodup := pm.nodup_iff.mpr hn
  have h3 : ns.Pairwise (· ≠ ·) := h2
  refine List.Pairwise.imp₂ (fun x y a b => ?_) h1 h3
  have c := lt_one a
  omega

theorem sorted_text {a : Addr} {acc : List Nat} {Q : Value → Shared → Prop} (R : At w s.heap a (acc.map one)) (hn : acc.Nodup) (hh : A.handled = none) (h64 : acc.length < 64)
    (hQ : ∀ z p (out : Array Value) (c : Nat) (ns : List Nat), (∀ b o, s.heap.get? b = some o → z.heap.get? b = some o) → z.gens = s.gens → z.os = s.os → s.heap.objs.size ≤ p →
      z.heap.get? p = some (seqObj "list" out c) → StrsAre out.toList (ns.map one) → ns.Pairwise (· < ·) → ns.Perm acc → Q (.ref p) z) :
    wpAny (model P w) A (call (.builtin "sorted") [.ref a]) Q E s := by
  obtain ⟨o, es, ep, t, ho, hx, hd, g, pm, hb, hf, hr, hl⟩ := R
  refine Calls.call_function_entry kind_sorted plain_sorted entry_sorted (args_sorted1 _) ?_
  unfold Builtin.«sorted»
  refine wpAny_bind (m := checkCount "sorted" 1 1 _) (wpAny_pure ?_)
  refine wpAny_bind (collect_set (A := A.in1) hh ⟨o, ho, hx.1, hd⟩ hf hb hr hl fun s1 vs k1 hz g1 o1 pv => ?_)
  obtain ⟨hS, ps⟩ := vals_strs (w := w) g pv
  have ps2 := ps.trans pm
  have hvl : vs.length < 64 := by
    have q := ps2.length_eq
    rw [List.length_map, List.length_map] at q
    rw [q]; exact h64
  refine wpAny_bind (wpAny_newList ?_ (by rw [sizeLine_eq]; omega))
  have hoL : (s1.heap.push (seqObj "list" vs.toArray 0)).get? s1.heap.objs.size = some (seqObj "list" vs.toArray 0) := Heap.get?_push_size _ rfl
  refine wpAny_bind (wpAny_holding (wpAny_call_entry slot_list_sort ⟨_, hoL, rfl⟩ entry_list_sort
    (list_sort_treeK strKind_oneLt hoL hS.keysOf (fun v₁ v₂ rest e => keyKind_strs (by rw [← e]; exact hS)) hvl fun st' hp hs => ⟨_, rfl, ?_⟩) (args_list_sort _)))
  obtain ⟨ss, b1, b2, b3⟩ := sorted_out_str hS hp hs
  obtain ⟨ns, e, pn, ris⟩ := rising (b2.trans ps2) b3 hn
  subst e
  obtain ⟨c, hc⟩ := sortedHeap_at (vs := vs) (out := (arrOf st').map (·.2)) hoL
  refine wpAny_pure ⟨_, rfl, hQ _ s1.heap.objs.size _ c ns (fun b u e => ?_) g1 o1 hz hc b1 ris pn⟩
  have q := k1 b u e
  have hlt := Heap.lt_size q
  show (sortedHeap (s1.heap.push (seqObj "list" vs.toArray 0)) s1.heap.objs.size vs _).get? b = some u
  rw [sortedHeap_old (Nat.ne_of_lt hlt) (by rw [size_push']; exact Nat.lt_succ_of_lt hlt)]
  exact Heap.get?_push_of_some _ q
end
end Tx

set_option Elab.async false
set_option linter.all false
set_option maxRecDepth 100000
set_option maxHeartbeats 3200000
/-! defs that show data by repr: what is known of a call's guards goes along -/
namespace Tg
open PySem PySem.Spec PyProof.Rows L2

/-- nothing is being shown where the call stands -/
abbrev Still (A : Around) : Prop := A.guards = some []

/-- a def's promise, kept where nothing is being shown -/
structure Kept (P : Program) (w : World) (K : PySem.W.Frag) (mg : Str → Option Value) (base : Heap) (cx : CXT) (k : Nat) (f : Addr) (fd : FuncData) (ps : List Str) (sp : Sp) : Prop where
  long : ∀ xs H Q E, sp xs H Q E → xs.length = ps.length
  goes : ∀ (A : Around) (out : List Env) (s : Shared) (H : Hp) (args : Args) (us : List Value) (xs : List V) (Q : VK) (E : XK), Room k A → Still A → Env0 P w K mg base A out s H →
    BindsTo s fd args (ps.zip us) → Vals xs us → sp xs H Q E → codeAny (model P w) A (.call (.ref f) args) (CR cx out P w H s Q E) s

section
variable {P : Program} {w : World} {K : PySem.W.Frag} {mg : Str → Option Value} {base : Heap}
theorem Kept.ok {cx : CXT} {k : Nat} {f : Addr} {name qual : Str} {params : Arguments} {body : List Stmt} {scope : Scope} {dV kV doc pm cdv ct oc : Value} {an od : Option Addr}
    {osl : Array (Option Value)} {N ps : List Str} {sp : Sp}
    (look : K.lookup f = some ⟨oc, od, .func (PySem.W.fnOf name qual params body scope dV kV doc pm an cdv ct), osl⟩)
    (code : PySem.W.codeIn K cdv qual = true) (S : FnScope N ps scope) (long : ∀ xs H Q E, sp xs H Q E → xs.length = ps.length)
    (inner : ∀ (A : Around) (out : List Env) (s : Shared) (H : Hp) (xs : List V) (Q : VK) (E : XK), Room k (A.deeper (envOfC qual scope s.heap.objs.size f cdv)) →
      Still (A.deeper (envOfC qual scope s.heap.objs.size f cdv)) → sp xs H Q E →
      ∃ t, PSs (cxOf cx P w K mg base N qual scope f cdv A out s H E) body t ∧ t { nx := fun _ H2 => Q .non H2, rt := Q } (start N xs) H) :
    Kept P w K mg base cx (k + 1) f (PySem.W.fnOf name qual params body scope dV kV doc pm an cdv ct) ps sp where
  long := long
  goes := by
    intro A out s H args us xs Q E room still e0 bound rel hsp
    have hl := long _ _ _ _ hsp
    have inK : K.In s.heap := e0.mod.kin.keeps fun b o e => (e0.bs b o e).1
    have limit : s.heap.NoLimit := e0.mod.nolimit.keeps fun b o e => (e0.bs b o e).1
    have kinds : ∀ y ∈ ps.zip us, scope.names.lookup y.1 = some .local ∨
        (scope.names.lookup y.1 = some .cell ∧ ((cellsFrom (s.heap.objs.size + 1) scope.names []).lookup y.1).isSome = true) := by
      rintro ⟨n, v⟩ hy
      cases S.par n (List.of_mem_zip hy).1 with
      | inl q => exact .inl q
      | inr q => exact .inr ⟨q, PySem.W.cellsFrom_some _ _ _ (.inl q)⟩
    refine codeAny_call_function room.depth (inK _ _ look) rfl S.co S.gen rfl (PySem.W.codeRec_of inK code) (bound _ _ _ _ ?_)
    refine wpAny_newFunctionEnv_cells S.kind kinds fun env he z x => ?_
    subst he
    refine ⟨limit.keeps x.toInCall.keep, codeAny_func ?_⟩
    obtain ⟨t, ht, hq⟩ := inner A out s H xs Q E (room.deeper _) still hsp
    have J0 : Inv (cxOf cx P w K mg base N qual scope f cdv A out s H E) [] (start N xs) H z := inv_start S room.hd e0 hl rel x
    refine wpAny_mono (ht.run [] z (start N xs) H _ J0 hq) (fun fl z' hs => ?_) fun e z' hs => hs
    have close : ∀ {σ' : L2.St} {H2 : Hp} {v : V} {u : Value}, Inv (cxOf cx P w K mg base N qual scope f cdv A out s H E) [] σ' H2 z' → RelV v u → Q v H2 → CE out P w H s Q u z' := by
      intro σ' H2 v u J rv q
      exact ⟨v, H2, J.os, J.bare, J.base, J.hok, rv, q⟩
    cases fl with
    | ret u =>
      obtain ⟨v, σ', H2, J, rv, q⟩ := hs
      exact close J rv q
    | next =>
      obtain ⟨σ', H2, J, q⟩ := hs
      exact close (v := V.non) (u := Value.none) J rfl q
    | brk =>
      obtain ⟨_, _, _, q⟩ := hs
      exact q.elim
    | cont =>
      obtain ⟨_, _, _, q⟩ := hs
      exact q.elim

/-- for a def of the text that lets nothing out -/
theorem Kept.fn {x qual : Str} {st : Stmt} {f : Addr} {fd : FuncData} {N ps : List Str} {k : Nat} {sp : Sp} (F : Fun K x qual st f fd) (S : FnScope N ps (defScope st))
    (long : ∀ xs H Q E, sp xs H Q E → xs.length = ps.length)
    (inner : ∀ (cdv : Value) (A : Around) (out : List Env) (s : Shared) (H : Hp) (xs : List V) (Q : VK) (E : XK), Room k (A.deeper (envOfC qual (defScope st) s.heap.objs.size f cdv)) →
      Still (A.deeper (envOfC qual (defScope st) s.heap.objs.size f cdv)) → sp xs H Q E →
      ∃ t, PSs (cxOf CX0 P w K mg base N qual (defScope st) f cdv A out s H E).nox (defBody st) t ∧ t { nx := fun _ H2 => Q .non H2, rt := Q } (start N xs) H) :
    Kept P w K mg base CX0 (k + 1) f fd ps sp := by
  obtain ⟨oc, od, kV, doc, pm, an, cdv, ct, osl, e, look, code⟩ := F.ex
  subst e
  refine Kept.ok look code S long fun A out s H xs Q E room still hsp => ?_
  obtain ⟨t, h, q⟩ := inner cdv A out s H xs Q E room still hsp
  exact ⟨t, h.nox, q⟩
end

section
variable {X : Cx} {cx : CXT} {k : Nat} {f : Addr} {fd : FuncData} {ps : List Str} {sp : Sp} {dvs : List V} {ds : List Value} {E : XK} {x : Str} {p pos : Pos} {e : Expr} {es : List Expr} {t : TA}
theorem Kept.runs {pins : List (Addr × Obj)} {σ : L2.St} {H : Hp} {s : Shared} {Q : VK} {us : List Value} {xs : List V} (F : Kept X.prog X.w X.K X.mg X.base cx k f fd ps sp) (room : Room k X.A) (still : Still X.A)
    (hb : Binds X.K fd ps ds) (hd : Vals dvs ds) (hx : Passes cx X E) (I : Inv X pins σ H s) (r : Vals xs us) (h : sp (xs ++ dvs) H Q E) :
    wpAny (model X.prog X.w) X.A (call (.ref f) us) (EP X pins σ Q) X.xe s := by
  have r2 : Vals (xs ++ dvs) (us ++ ds) := r.append hd
  have hl : (us ++ ds).length = ps.length := r2.length.symm.trans (F.long _ _ _ _ h)
  refine wpAny_call (codeAny_mono (F.goes X.A X.stack s H ⟨us, []⟩ (us ++ ds) (xs ++ dvs) Q E room still I.env0 (hb s us I.kIn hl) r2 h) fun r z hq => ?_)
  match r, hq with
  | .error e, hq => exact hx pins σ H s e z I hq
  | .ok (.ret u), hq => exact I.after hq
  | .ok .next, hq => exact False.elim hq
  | .ok .brk, hq => exact False.elim hq
  | .ok .cont, hq => exact False.elim hq
/-- f(e, ..) of such a def -/
theorem pe_callG (F : Kept X.prog X.w X.K X.mg X.base cx k f fd ps sp) (room : Room k X.A) (still : Still X.A) (hg : Gl X x) (hm : X.mg x = some (.ref f)) (hk : PySem.W.keepIn X.K (.ref f) = true)
    (hb : Binds X.K fd ps ds) (hd : Vals dvs ds) (hx : Passes cx X E) (ha : PA X (e :: es) t) (hdb : (x == ("__debug__" : Str)) = false := by decide)
    (he : starEach (e :: es) X.env = (false, eval e X.env) :: starEach es X.env := by rfl) (hpl : (backTo pos (starEach es X.env)).any (·.1) = false := by rfl) :
    PE X (.Call (.Name x p) (e :: es) [] pos) (tCall sp dvs E t) := by
  constructor
  intro pins s σ H Q I h
  refine wpAny_Call_Name_kw (ld_glob I hg hm ?_ hdb)
  refine PySem.W.callWith_K (h₀ := X.base) I.ok.mod.kin hk ?_ he hpl
  exact thn (ha.run pos pins s σ H _ I h) fun us z ⟨xs, H1, J, r, q⟩ => ⟨J.kIn, F.runs room still hb hd hx J r q⟩

/-- data as it stands in the abstract heap: none, bools, ints, texts, lists, tuples, and dicts of texts and ints -/
inductive Data (K : PySem.W.Frag) (H : Hp) : V → PyData → Prop
  | flat {v : V} {d : PyData} (h : Dp K H v d) (n : d.hasDict = false) : Data K H v d
  | dict {a : Addr} {kvs : List (Str × Int)} (h : H a = some (.dK (kvs.map fun p => (Sum.inr p.1, V.int p.2)))) : Data K H (.ref a) (.dict (kvs.map fun p => (.str p.1, .int p.2)))

theorem keys_flat (h : Heap) : ∀ (kvs : List (Str × Int)) (es : List DictEntry) (vs : List (Key × Value)), Pairs (mixKind X.prog X.w) es vs → KV (kvs.map fun p => (Sum.inr p.1, V.int p.2)) vs →
    ReadsAll h (es.map (·.key)) ((kvs.map fun p => ((PyData.str p.1, PyData.int p.2) : PyData × PyData)).map (·.1)) [] ∧ ReadsAll h (es.map (·.val)) ((kvs.map fun p => ((PyData.str p.1, PyData.int p.2) : PyData × PyData)).map (·.2)) [] := by
  intro kvs
  induction kvs with
  | nil =>
    intro es vs hp rel
    cases rel
    cases hp
    exact ⟨.nil, .nil⟩
  | cons p kvs ih =>
    intro es vs hp rel
    cases rel with
    | @cons _ kv _ vs' r1 r2 =>
      cases hp with
      | @cons e _ es' _ hk hv hp' =>
        obtain ⟨q1, q2⟩ := ih _ _ hp' r2
        obtain ⟨k0, v0⟩ := kv
        obtain ⟨r3, r4⟩ := r1
        dsimp only at r3 r4 hk hv
        subst r3
        obtain ⟨t, r4⟩ := r4
        rcases keyIs_shape (show keyIs (Sum.inr p.1 : Key) e.key = true from hk) with ⟨i, t', z, _⟩ | ⟨x, t', z, e'⟩
        · cases z
        · cases z
          refine ⟨?_, ?_⟩
          · show ReadsAll h (e.key :: _) (PyData.str p.1 :: _) ([] ++ [])
            rw [e']
            exact .cons (.str _ _) q1
          · show ReadsAll h (e.val :: _) (PyData.int p.2 :: _) ([] ++ [])
            rw [hv, r4]
            exact .cons (.int _ _) q2
theorem Data.reads {pins : List (Addr × Obj)} {σ : L2.St} {H : Hp} {s : Shared} (I : Inv X pins σ H s) {v : V} {u : Value} {d : PyData} (h : Data X.K H v d) (r : RelV v u) :
    ∃ as, Reads s.heap u d as ∧ (d.hasDict = true → sysModules ∉ as) := by
  cases h with
  | flat h n =>
    obtain ⟨as, q⟩ := Dp.reads I d v u h r
    exact ⟨as, q, fun z => by rw [n] at z; cases z⟩
  | @dict a kvs h =>
    cases r
    obtain ⟨hz, hs, vs, rel, o, es, ep, ho, hx, hd, _, hp, _⟩ := I.hok a _ h
    obtain ⟨q1, q2⟩ := keys_flat (X := X) s.heap kvs _ _ hp rel
    refine ⟨_, Reads.dict ho hx.1 hd q1 q2, fun _ z => ?_⟩
    simp only [List.append_nil, List.mem_singleton] at z
    rw [z] at hs
    simp at hs

/-- repr(x) -/
def rShow (K : PySem.W.Frag) : List V → Hp → VK → Prop := fun xs H Q => ∃ (x : V) (d : PyData), xs = [x] ∧ Data K H x d ∧ d.showable = true ∧ d.depth < 60 ∧ d.shown.length ≤ sizeLine ∧ Q (.str d.shown) H
theorem call_show (still : Still X.A) (hu : X.A.units + 64 < cLine) : CallR X (.builtin "repr") (rShow X.K) := by
  intro pins s σ H xs us Q I r h
  obtain ⟨x, d, rfl, hd, h1, h3, h4, q⟩ := h
  obtain ⟨u, rfl, r1⟩ : ∃ u, us = [u] ∧ RelV x u := by
    cases r with
    | cons a b => cases b; exact ⟨_, rfl, a⟩
  obtain ⟨as, rd, hsm⟩ := Data.reads I hd r1
  cases rd with
  | none => exact P.repr_of_none ⟨.str (PyData.shown .none), H, I.tok _, ⟨_, rfl⟩, q⟩
  | bool b => exact P.repr_of_bool ⟨.str (PyData.shown (.bool b)), H, I.tok _, ⟨_, rfl⟩, q⟩
  | int i t => exact P.repr_of_int (of_decide_eq_true h1) ⟨.str (PyData.shown (.int i)), H, I.tok _, ⟨_, rfl⟩, q⟩
  | str z t => exact P.repr_of_str ⟨.str (PyData.shown (.str z)), H, I.tok _, ⟨_, rfl⟩, q⟩ h4
  | list a1 a2 a3 a4 => exact repr_of_reads' (Reads.list a1 a2 a3 a4) h1 hsm still (by omega) (fun _ _ e => e) (fun h' u tk hk => ⟨.str (PyData.shown _), H, I.kept (t' := tk) hk, ⟨_, rfl⟩, q⟩) h4
  | tuple a1 a2 a3 a4 => exact repr_of_reads' (Reads.tuple a1 a2 a3 a4) h1 hsm still (by omega) (fun _ _ e => e) (fun h' u tk hk => ⟨.str (PyData.shown _), H, I.kept (t' := tk) hk, ⟨_, rfl⟩, q⟩) h4
  | dict a1 a2 a3 a4 a5 => exact repr_of_reads' (Reads.dict a1 a2 a3 a4 a5) h1 hsm still (by omega) (fun _ _ e => e) (fun h' u tk hk => ⟨.str (PyData.shown _), H, I.kept (t' := tk) hk, ⟨_, rfl⟩, q⟩) h4
end

/-! ### the head: the law's call, nothing being shown -/
section
variable {P : Program} {w : World} {K : PySem.W.Frag} {mg mb : Str → Option Value} {cx : CXT} {k : Nat} {fa a : Addr} {fd : FuncData} {x : Str} {sp : Sp} {s₁ : Shared} {vs : List Value} {ns : List Int}
/-- from one abstract heap in which at most the script stands -/
theorem law_core (KX : K.In s₁.heap) (hns : s₁.heap.Ns mainGlobals mg) (hb : s₁.heap.Ns builtinsNs mb) (hbb : ∀ x : Str, x ≠ "__name__" → mb x = bootBuiltins x) (hlim : s₁.heap.NoLimit) (hg : s₁.gens = #[])
    (ha : s₁.heap.get? a = some { cls := .type "list", data := .seq vs.toArray }) (room : Room k callerA)
    (F : ∀ base : Heap, K.In base → base.Ns mainGlobals mg → Kept P w K mg base cx k fa fd [x] sp) (hbind : ∀ (s : Shared) (u : Value), BindsTo s fd ⟨[u], []⟩ [(x, u)])
    (hcx : ∀ H e z, cx [] H s₁ (fun _ _ _ => False) e z → False)
    (H : Hp) (only : Only H) (want : sp [.ref a] H (fun v _ => v = .bl true) fun _ _ _ => False) (hok : HOk P w H s₁.heap) (at_a : ∀ b, H b ≠ none → b = a) (notK : H a ≠ none → K.lookup a = none) :
    codeAny (model P w) callerA (.call (.ref fa) ⟨[.ref a], []⟩) (fun r z => r = .ok (.ret (.bool true)) ∧ OldK s₁.heap z.heap ∧ z.os = s₁.os ∧ AllBare z.gens) s₁ := by
  have under : ∀ {b : Addr} {o : Obj}, s₁.heap.get? b = some o → H b = none → (hidT s₁.heap H).get? b = some o := fun e n => hidT_get e n
  have away : ∀ {b : Addr}, (b = a → False) → H b = none := by
    intro b n
    cases q : H b with
    | none => rfl
    | some u => exact (n (at_a b (by rw [q]; simp))).elim
  have noDict : ∀ {b : Addr} {o : Obj} {es : Array DictEntry} {ep : Nat}, s₁.heap.get? b = some o → o.data = .dict es ep → H b = none := by
    intro b o es ep e d
    refine away fun z => ?_
    subst z
    rw [ha] at e
    cases e
    cases d
  have names : ∀ {b : Addr} {m : Str → Option Value}, s₁.heap.Ns b m → (hidT s₁.heap H).Ns b m := by
    rintro b m ⟨o, es, ep, e, d, r⟩
    exact ⟨o, es, ep, under e (noDict e d), d, r⟩
  have inB : K.In (hidT s₁.heap H) := by
    intro b o e
    refine under (KX b o e) ?_
    cases q : H b with
    | none => rfl
    | some u =>
      have z := at_a b (by rw [q]; simp)
      subst z
      have n := notK (by rw [q]; simp)
      rw [n] at e
      cases e
  have md : Mod K mg (hidT s₁.heap H) := ⟨inB, names hns, ⟨mb, names hb, hbb⟩, let ⟨mc, h1, h2⟩ := hlim; ⟨mc, names h1, h2⟩⟩
  have e0 : Env0 P w K mg (hidT s₁.heap H) callerA [] s₁ H := by
    refine ⟨rfl, md, fun b o e => of_hidT e, Nat.le_of_eq (hidT_size _ _), trivial, fun b hb => ?_, hok, .of_eq hg⟩
    exact absurd (show b ∈ ([] : List Addr) from hb) (by simp)
  refine codeAny_mono ((F _ inB (names hns)).goes callerA [] s₁ H ⟨[.ref a], []⟩ [.ref a] [.ref a] _ _ room rfl e0 (hbind s₁ (.ref a)) (.cons rfl .nil) want) fun r z h => ?_
  match r, h with
  | .error e, h => exact (hcx H e z h).elim
  | .ok .next, h => exact False.elim h
  | .ok .brk, h => exact False.elim h
  | .ok .cont, h => exact False.elim h
  | .ok (.ret u), h =>
    obtain ⟨v, H2, os, bare, un, hok2, r2, q⟩ := h
    have q' : v = .bl true := q
    subst q'
    obtain rfl : u = Value.bool true := r2
    refine ⟨rfl, OldK.of_keep fun b o e => ?_, os, bare⟩
    cases q : H b with
    | none =>
      refine un.keep b o e q (fun y => ?_) (by simp)
      exact absurd (show b ∈ ([] : List Addr) from y) (by simp)
    | some u =>
      rcases only b with y | ⟨ob, xs, y⟩
      · rw [q] at y
        cases y
      · have y2 := un.frzs b ob _ y
        obtain ⟨e1, _⟩ := hok b _ y
        obtain ⟨e2, _⟩ := hok2 b _ y2
        rw [e] at e1
        cases e1
        exact e2

theorem law_call (KX : K.In s₁.heap) (hns : s₁.heap.Ns mainGlobals mg) (hb : s₁.heap.Ns builtinsNs mb) (hbb : ∀ x : Str, x ≠ "__name__" → mb x = bootBuiltins x) (hlim : s₁.heap.NoLimit) (hg : s₁.gens = #[])
    (ha : s₁.heap.get? a = some { cls := .type "list", data := .seq vs.toArray }) (hi : IntsAre vs ns) (hl : ns.length ≤ sizeLine) (room : Room k callerA)
    (F : ∀ base : Heap, K.In base → base.Ns mainGlobals mg → Kept P w K mg base cx k fa fd [x] sp) (hbind : ∀ (s : Shared) (u : Value), BindsTo s fd ⟨[u], []⟩ [(x, u)])
    (hsp : ∀ H : Hp, Only H → SqL K H a (ns.map V.int) → sp [.ref a] H (fun v _ => v = .bl true) fun _ _ _ => False)
    (hcx : ∀ H e z, cx [] H s₁ (fun _ _ _ => False) e z → False) :
    codeAny (model P w) callerA (.call (.ref fa) ⟨[.ref a], []⟩) (fun r z => r = .ok (.ret (.bool true)) ∧ OldK s₁.heap z.heap ∧ z.os = s₁.os ∧ AllBare z.gens) s₁ := by
  have rel := vals_ints hi
  have len := hi.length
  have core := law_core KX hns hb hbb hlim hg ha room F hbind hcx
  cases hk : K.lookup a with
  | some o =>
    have e := KX a o hk
    rw [ha] at e
    cases e
    have only : Only (fun _ => none) := fun _ => .inl rfl
    refine core (fun _ => none) only (hsp _ only ?_) (fun b u z => nomatch (show (none : Option HO) = some u from z)) (fun b z => absurd rfl z) fun z => absurd rfl z
    exact .inr ⟨_, vs.toArray, _, hk, rfl, rfl, rfl, by rw [List.size_toArray, len]; exact hl, by simpa using rel⟩
  | none =>
    have only : Only (fun b => if b = a then some (.frz { cls := .type "list", data := .seq vs.toArray } (.lst (ns.map V.int))) else none) := by
      intro b
      by_cases z : b = a
      · exact .inr ⟨_, _, if_pos z⟩
      · exact .inl (if_neg z)
    refine core _ only (hsp _ only ?_) (fun b u z => ?_) (fun b z => ?_) fun _ => hk
    · exact .inl (.inr ⟨{ cls := .type "list", data := .seq vs.toArray }, if_pos rfl⟩)
    · by_cases y : b = a
      · have z' := (if_pos y).symm.trans z
        cases z'
        subst y
        exact ⟨ha, by rw [List.length_map]; exact hl, vs, _, rel, ha⟩
      · have z' := (if_neg y).symm.trans z
        cases z'
    · by_cases y : b = a
      · exact y
      · exact absurd (if_neg y) z
end

/-- the goal that the head leaves -/
theorem walk {l : PySem.W.OpenLaw} {n k : Nat} {q : Program} {loose : List Str} {XP : (Str → Option Value) → Heap → Prop} {YP : World → Heap → Prop} {d : DefRec} {K : Params → PySem.W.Frag} {cx : World → CXT} {sp : World → Sp} {x : Str}
    (hn : l.most = some n) (hn2 : n ≤ sizeLine) (hdf : d.params.defaults = []) (room : Room k callerA) (hY : ∀ (w : World) (h : Heap), YP w h → (K w.params).In h)
    (F : ∀ (w : World) (mg : Str → Option Value) (fa : Addr) (h : Heap), (K w.params).In h → h.Ns mainGlobals mg → mg d.name = some (.ref fa) → XP mg h →
      ∃ fd : FuncData, (∀ (s : Shared) (u : Value), BindsTo s fd ⟨[u], []⟩ [(x, u)]) ∧
        ∀ base : Heap, (K w.params).In base → base.Ns mainGlobals mg → Kept l.prog w (K w.params) mg base (cx w) k fa fd [x] (sp w))
    (hsp : ∀ (w : World) (H : Hp) (a : Addr) (ns : List Int), ns.length ≤ n → Only H → SqL (K w.params) H a (ns.map V.int) → sp w [.ref a] H (fun v _ => v = .bl true) fun _ _ _ => False)
    (hcx : ∀ (w : World) (H : Hp) (s : Shared) (e : Value) (z : Shared), cx w [] H s (fun _ _ _ => False) e z → False) :
    PySem.W.WalkO q loose XP YP l.row.toRowW d [] (fun f vs => PySem.call f vs) := by
  refine Att.attach_call hn hdf ?_
  intro w s₀ s₁ mg mb fa o pm cd doc a vs ns G Y ho hd hcd hmg hobj hints hlen hg
  have KX := hY w _ Y
  obtain ⟨fd, hb, hF⟩ := F w mg fa _ KX G.T.g hmg G.X
  exact law_call KX G.T.g G.T.b G.T.builtins G.T.nolimit hg hobj hints (Nat.le_trans hlen hn2) room hF hb (fun H hO hS => hsp w H a ns hlen hO hS) fun H e z => hcx w H s₁ e z
end Tg

set_option Elab.async false
set_option linter.all false
set_option maxRecDepth 100000
set_option maxHeartbeats 3200000
/-! set(a text), sorted(it), list(a text), as rules -/
namespace Tx
open PySem PySem.Spec PyProof.Rows L2

/-- the signs of a text, each once, rising -/
def ups (l : List Nat) : List Nat := (met [] l).mergeSort (fun a b => decide (a ≤ b))
theorem ups_perm (l : List Nat) : (ups l).Perm (met [] l) := List.mergeSort_perm _ _
theorem ups_mem (l : List Nat) (c : Nat) : c ∈ ups l ↔ c ∈ l := by
  rw [(ups_perm l).mem_iff, met_mem]
  simp
theorem ups_nodup (l : List Nat) : (ups l).Nodup := (ups_perm l).nodup_iff.mpr (met_nodup l [] List.nodup_nil)
theorem ups_up (l : List Nat) : (ups l).Pairwise (· < ·) := by
  have h1 : (ups l).Pairwise (fun a b => decide (a ≤ b) = true) :=
    List.pairwise_mergeSort (le := fun a b : Nat => decide (a ≤ b)) (fun a b c h1 h2 => by
      have h1' := of_decide_eq_true h1
      have h2' := of_decide_eq_true h2
      exact decide_eq_true (Nat.le_trans h1' h2')) (fun a b => by
      rcases Nat.le_total a b with z | z
      · simp [z]
      · simp [z]) (met [] l)
  have h2 : (ups l).Pairwise (· ≠ ·) := ups_nodup l
  refine List.Pairwise.imp₂ (fun x y a b => ?_) h1 h2
  have a' := of_decide_eq_true a
  omega
theorem up_eq : ∀ {l m : List Nat}, l.Pairwise (· < ·) → m.Pairwise (· < ·) → (∀ c, c ∈ l ↔ c ∈ m) → l = m
  | [], [], _, _, _ => rfl
  | [], y :: m, _, _, h => by have := (h y).mpr List.mem_cons_self; simp at this
  | x :: l, [], _, _, h => by have := (h x).mp List.mem_cons_self; simp at this
  | x :: l, y :: m, h1, h2, h => by
    obtain ⟨a1, a2⟩ := List.pairwise_cons.mp h1
    obtain ⟨b1, b2⟩ := List.pairwise_cons.mp h2
    have e : x = y := by
      rcases List.mem_cons.mp ((h x).mp List.mem_cons_self) with z | z
      · exact z
      · rcases List.mem_cons.mp ((h y).mpr List.mem_cons_self) with u | u
        · exact u.symm
        · have := a1 y u
          have := b1 x z
          omega
    subst e
    rw [up_eq a2 b2 fun c => ?_]
    constructor
    · intro q
      rcases List.mem_cons.mp ((h c).mp (List.mem_cons_of_mem _ q)) with z | z
      · subst z
        exact absurd (a1 _ q) (Nat.lt_irrefl _)
      · exact z
    · intro q
      rcases List.mem_cons.mp ((h c).mpr (List.mem_cons_of_mem _ q)) with z | z
      · subst z
        exact absurd (b1 _ q) (Nat.lt_irrefl _)
      · exact z
theorem ups_of {l ns : List Nat} (h : ns.Pairwise (· < ·)) (p : ns.Perm (met [] l)) : ns = ups l :=
  up_eq h (ups_up l) fun c => by rw [p.mem_iff, ups_mem, met_mem]; simp

/-- one-sign texts as values -/
abbrev ones (l : List Nat) : List V := l.map fun c => V.str (one c)
theorem ones_map (l : List Nat) : ones l = (l.map one).map V.str := by rw [List.map_map]; rfl

/-- the set of texts at a -/
def TO (w : World) (a : Addr) (acc : List Nat) : HO := .ext fun h => At w h a (acc.map one)
section
variable {X : Cx}
theorem to_new {w : World} {P : Program} {H : Hp} {h : Heap} {a : Addr} {acc : List Nat} (R : At w h a (acc.map one)) : ObjOk P w H h a (TO w a acc) :=
  ⟨R, let ⟨o, _, _, _, ho, _⟩ := R; ⟨o, ho⟩, fun _ _ p k => At.stays p k⟩
/-- set(s), s a text of few different signs -/
def rSetTx (w : World) : List V → Hp → VK → Prop := fun xs H Q => ∃ z : Str, xs = [.str z] ∧ (met [] z.cps.toList).length < 64 ∧ ∀ p, H p = none → Q (.ref p) (upd H p (TO w p (met [] z.cps.toList)))
theorem cr_setTx (hc : X.calm = true) : CallR X (.type "set") (rSetTx X.w) := by
  intro pins s σ H xs us Q I r h
  obtain ⟨z, rfl, hf, q⟩ := h
  obtain ⟨t, rfl⟩ : ∃ t, us = [Value.str z t] := by
    cases r with
    | cons a b =>
      cases b
      obtain ⟨t, rfl⟩ := a
      exact ⟨t, rfl⟩
  have hb : (met [] z.cps.toList).length + 1 < scanBound := by
    have : (64 : Nat) + 1 < scanBound := by decide
    omega
  refine call_set_text (P := X.prog) (w := X.w) (I.ok.hd hc) hb fun h' tk R k => ?_
  exact ⟨.ref _, upd H s.heap.objs.size (TO X.w s.heap.objs.size (met [] z.cps.toList)), I.laid (t' := tk) k (Nat.le_refl _) (to_new R), rfl, q _ (I.hok.fresh (Nat.le_refl _))⟩
/-- sorted(a set of texts) -/
def rSortTx (w : World) : List V → Hp → VK → Prop := fun xs H Q => ∃ (a : Addr) (l : List Nat), xs = [.ref a] ∧ H a = some (TO w a (met [] l)) ∧ (met [] l).length < 64 ∧ ∀ p, H p = none → Q (.ref p) (upd H p (.lst (ones (ups l))))
theorem cr_sortTx (hc : X.calm = true) : CallR X (.builtin "sorted") (rSortTx X.w) := by
  intro pins s σ H vs us Q I r h
  obtain ⟨a, l, rfl, ha, h64, q⟩ := h
  have R : At X.w s.heap a ((met [] l).map one) := (I.hok a _ ha).1
  rw [Vals.ref1 r]
  refine sorted_text (P := X.prog) R (met_nodup l [] List.nodup_nil) (I.ok.hd hc) h64 fun z p out c ns k g o hp hg hS up pm => ?_
  obtain rfl := ups_of up pm
  have hlen : (ones (ups l)).length ≤ sizeLine := by
    rw [List.length_map, pm.length_eq, sizeLine_eq]
    omega
  have hn : H p = none := I.hok.fresh hp
  have hv : Vals (ones (ups l)) out.toList := by rw [ones_map]; exact vals_of_strs hS
  have J : Inv X pins σ (upd H p (.lst (ones (ups l)))) { s with heap := z.heap, gens := z.gens, drawn := z.drawn, toks := z.toks } :=
    I.call (ch := []) (Un.laid k hp hn) (I.hok.laid k hp ⟨hlen, out.toList, c, hv, hg⟩) (by rw [g]; exact I.bare) (fun _ y => nomatch y)
  have e : z = { s with heap := z.heap, gens := z.gens, drawn := z.drawn, toks := z.toks } := by
    cases z
    cases s
    cases o
    rfl
  rw [e]
  exact ⟨.ref p, _, J, rfl, q p hn⟩
/-- list(s), s a text -/
def rListTx : List V → Hp → VK → Prop := fun xs H Q => ∃ z : Str, xs = [.str z] ∧ z.length ≤ sizeLine ∧ ∀ p, H p = none → Q (.ref p) (upd H p (.lst (ones z.cps.toList)))
theorem signs_vals {z : Str} {acc : Array Value} (h : ItemsOf (SignAt z) acc z.cps.size) : Vals (ones z.cps.toList) acc.toList := by
  have all : ∀ (l : List Nat) (us : List Value), us.length = l.length → (∀ (j : Nat) (v : Value), us[j]? = some v → ∃ (c : Nat) (u : Tok), l[j]? = some c ∧ v = Value.str (one c) u) → Vals (ones l) us := by
    intro l
    induction l with
    | nil =>
      intro us hl _
      cases us with
      | nil => exact .nil
      | cons u us => simp at hl
    | cons c l ih =>
      intro us hl hg
      cases us with
      | nil => simp at hl
      | cons u us =>
        obtain ⟨d, t, h1, h2⟩ := hg 0 u rfl
        have e : c = d := Option.some.inj h1
        subst e
        refine .cons ⟨t, h2⟩ (ih us (by simpa using hl) fun j v hv => ?_)
        exact hg (j + 1) v hv
  refine all _ _ (by rw [Array.length_toList, Array.length_toList]; exact h.1) fun j v hv => ?_
  rw [Array.getElem?_toList] at hv
  obtain ⟨c, u, h1, h2⟩ := h.2 j v hv
  exact ⟨c, u, by rw [Array.getElem?_toList]; exact h1, h2⟩
theorem cr_listTx (hc : X.calm = true) : CallR X (.type "list") rListTx := by
  intro pins s σ H xs us Q I r h
  obtain ⟨z, rfl, hl, q⟩ := h
  cases r with
  | cons a b =>
    cases b
    obtain ⟨t, rfl⟩ := a
    refine call_list_str (I.ok.hd hc) z t (hn := hl) fun h' tk acc c k hg hi => ?_
    have hz : (ones z.cps.toList).length ≤ sizeLine := by
      rw [List.length_map, Array.length_toList]
      exact hl
    exact ⟨.ref _, upd H s.heap.objs.size (.lst (ones z.cps.toList)), I.laid (t' := tk) k (Nat.le_refl _) ⟨hz, acc.toList, c, signs_vals hi, by simpa using hg⟩, rfl, q _ (I.hok.fresh (Nat.le_refl _))⟩
/-- a ** b, the result below 2 ^ 27 bits -/
theorem op_powW : OpR X (binaryOp .Pow) (rI (fun i j => 0 ≤ j ∧ (Builtin.Int.intBits i : Int) * j ≤ 2 ^ 27) fun i j => .int (i ^ j.toNat)) := opI fun _ _ _ _ _ _ _ hc q => pow_int hc.1 hc.2 q
end
end Tx

set_option Elab.async false
set_option linter.all false
set_option maxRecDepth 100000
set_option maxHeartbeats 3200000
/-! what the judges are worth, over plain data -/
namespace Tm
open PySem PySem.Spec PySem.Builtin PySem.Builtin.Str PyProof.Rows L2 Tx

abbrev cds (z : Str) : List Nat := z.cps.toList
theorem cds_ext {y z : Str} (h : cds y = cds z) : y = z := by
  cases y with
  | mk a =>
    cases z with
    | mk b =>
      have e : a = b := Array.toList_inj.mp h
      rw [e]
theorem cds_len (z : Str) : (cds z).length = z.length := by
  show z.cps.toList.length = z.cps.size
  rw [Array.length_toList]
/-- every sign of z is one of sg -/
def only (z sg : Str) : Bool := (cds z).all fun c => decide (c ∈ cds sg)
theorem only_iff {z sg : Str} : only z sg = true ↔ ∀ c ∈ cds z, c ∈ cds sg := by
  unfold only
  rw [List.all_eq_true]
  exact ⟨fun h c hc => of_decide_eq_true (h c hc), fun h c hc => decide_eq_true (h c hc)⟩
theorem getD_mem {z : Str} {k : Nat} (h : k < z.length) : z.cps.getD k 0 ∈ cds z := by
  have h' : k < z.cps.size := h
  have e : z.cps.getD k 0 = z.cps[k] := by simp [Array.getD, h']
  rw [e]
  exact Array.getElem_mem_toList h'
theorem mem_getD {z : Str} {c : Nat} (h : c ∈ cds z) : ∃ k, k < z.length ∧ z.cps.getD k 0 = c := by
  obtain ⟨k, hk, e⟩ := List.getElem_of_mem h
  have hk' : k < z.cps.size := by rw [Array.length_toList] at hk; exact hk
  refine ⟨k, hk', ?_⟩
  rw [← e]
  simp [Array.getD, hk']
theorem goes_iff {sg : Str} {c : Nat} : sg.cps.contains c = true ↔ c ∈ cds sg := by
  rw [Array.contains_iff_mem, Array.mem_toList_iff]
/-- strip with all the signs of sg leaves nothing exactly if there is no other sign -/
theorem strip_only (z sg : Str) : decide (Txt.stripChars z sg = Str.empty) = only z sg := by
  unfold Txt.stripChars
  rw [stripBy_eq]
  obtain ⟨a1, a2, a3⟩ := lo_facts sg.cps.contains z
  obtain ⟨b1, b2, b3, b4⟩ := hi_facts sg.cps.contains z _ a1
  generalize stripLo sg.cps.contains true z = lo at a1 a2 a3 b1 b2 b3 b4 ⊢
  generalize stripHi sg.cps.contains true z lo = hi at b1 b2 b3 b4 ⊢
  have key : strSub z lo hi = Str.empty ↔ lo = hi := by
    constructor
    · intro h
      have e : (z.cps.extract lo hi).size = 0 := by
        have := congrArg (fun y : Str => y.cps.size) h
        exact this
      rw [Array.size_extract] at e
      have hb : hi ≤ z.cps.size := b2
      omega
    · intro h
      subst h
      refine cds_ext ?_
      show (z.cps.extract lo lo).toList = (Str.empty).cps.toList
      rw [Array.extract_empty_of_stop_le_start (Nat.le_refl _)]
      rfl
  by_cases h : only z sg = true
  · rw [h]
    refine decide_eq_true (key.mpr ?_)
    have all := only_iff.mp h
    rcases Nat.lt_or_ge lo z.length with hl | hl
    · exfalso
      rcases a3 with e | e
      · omega
      · have := goes_iff.mpr (all _ (getD_mem hl))
        rw [e] at this
        cases this
    · have c2 : hi ≤ z.length := b2
      omega
  · have h' : only z sg = false := by simpa using h
    rw [h']
    refine decide_eq_false fun q => h (only_iff.mpr fun c hc => ?_)
    have e := key.mp q
    obtain ⟨k, hk, rfl⟩ := mem_getD hc
    rcases Nat.lt_or_ge k lo with u | u
    · exact goes_iff.mp (a2 k u)
    · exact goes_iff.mp (b3 k (by omega) hk)

/-! ### the judges -/
def big : Int := 10 ^ 200
def isInt : PyData → Bool
  | .int n => decide (n.natAbs < 10 ^ 200)
  | _ => false
def has (sg : Str) (most : Nat) : PyData → Bool
  | .str z => decide (z.length ≤ most) && only z sg
  | _ => false
def alpha : Str := "abcdefghijklmnopqrstuvwxyz"
def name : PyData → Bool
  | .str z => decide (z.length ≤ 8) && only z alpha && decide (z ≠ Str.empty)
  | _ => false
def rise (z : Str) : Bool := decide (cds z = ups (cds z))
def letters : PyData → Bool
  | .str z => decide (z.length ≤ 3) && only z alpha && decide (z ≠ Str.empty) && rise z
  | _ => false
def prime : PyData → Bool
  | .int n => decide (n = 2 ∨ n = 3 ∨ n = 5 ∨ n = 7)
  | _ => false
def lows (z : Str) : Bool := (cds z).all fun c => decide (97 ≤ c) && decide (c ≤ 122)
def small (most : Nat) : PyData → Bool
  | .str z => decide (1 ≤ z.length) && decide (z.length ≤ most) && lows z
  | _ => false
theorem alpha_iff (c : Nat) : c ∈ cds alpha ↔ 97 ≤ c ∧ c ≤ 122 := by
  have e : cds alpha = (List.range 26).map (· + 97) := by decide +kernel
  rw [e, List.mem_map]
  constructor
  · rintro ⟨k, hk, rfl⟩
    have := List.mem_range.mp hk
    omega
  · rintro ⟨h1, h2⟩
    exact ⟨c - 97, List.mem_range.mpr (by omega), by omega⟩
theorem only_alpha (z : Str) : only z alpha = lows z := by
  unfold only lows
  congr 1
  funext c
  by_cases h : c ∈ cds alpha
  · have := (alpha_iff c).mp h
    simp [h, this.1, this.2]
  · have h2 : ¬ (97 ≤ c ∧ c ≤ 122) := fun q => h ((alpha_iff c).mpr q)
    rw [decide_eq_false h, ← Bool.decide_and, decide_eq_false h2]
theorem nonempty_iff (z : Str) : z ≠ Str.empty ↔ 1 ≤ z.length := by
  constructor
  · intro h
    rcases Nat.eq_zero_or_pos z.length with e | e
    · exfalso
      apply h
      apply cds_ext
      have : (cds z).length = 0 := by rw [cds_len]; exact e
      rw [List.length_eq_zero_iff.mp this]
      rfl
    · exact e
  · intro h e
    subst e
    exact absurd h (by decide)
theorem name_small (d : PyData) : name d = small 8 d := by
  cases d with
  | str z =>
    show (decide (z.length ≤ 8) && only z alpha && decide (z ≠ Str.empty)) = (decide (1 ≤ z.length) && decide (z.length ≤ 8) && lows z)
    rw [only_alpha, decide_eq_decide.mpr (nonempty_iff z)]
    cases decide (z.length ≤ 8) <;> cases lows z <;> cases decide (1 ≤ z.length) <;> rfl
  | _ => rfl
theorem letters_small (d : PyData) : letters d = (small 3 d && (match d with | .str z => rise z | _ => false)) := by
  cases d with
  | str z =>
    show (decide (z.length ≤ 3) && only z alpha && decide (z ≠ Str.empty) && rise z) = (decide (1 ≤ z.length) && decide (z.length ≤ 3) && lows z && rise z)
    rw [only_alpha, decide_eq_decide.mpr (nonempty_iff z)]
    cases decide (z.length ≤ 3) <;> cases lows z <;> cases decide (1 ≤ z.length) <;> cases rise z <;> rfl
  | _ => rfl

/-! ### how numbers and texts are shown -/
theorem shown_int {n k : Int} (h : (toString n : String) = toString k) : n = k := by
  have e := congrArg String.toInt? h
  simpa using e

/-- a text that is judged: short, plain signs, few unlike ones -/
structure Fine (z : Str) : Prop where
  long : z.length ≤ 4001
  few : (met [] (cds z)).length < 64
  plain : ∀ c ∈ cds z, c < 128
/-- the four texts of the primes -/
abbrev four : List V := [.str "2", .str "3", .str "5", .str "7"]
/-- data that is judged -/
def Ok : PyData → Prop
  | .int n => n.natAbs.log2 < 1920
  | .str z => Fine z
  | d => d.showable = true ∧ d.depth < 60 ∧ d.shown.length ≤ sizeLine ∧ inV (.str d.shown) four = false
end Tm

set_option Elab.async false
set_option linter.all false
set_option maxRecDepth 100000
set_option maxHeartbeats 3200000
namespace K4
open PySem L2 Tx Tg Tm
def top (i : Nat) : Stmt := PySem.Challenge.pw_whatcounts_k10_errors_of_leading_pattern.main.body.getD i (.Pass ⟨0, 0, 0, 0⟩)
abbrev sInt : Stmt := top 20
abbrev sLetters : Stmt := top 21
abbrev sSigned : Stmt := top 22
abbrev sPattern : Stmt := top 23
abbrev sCheck : Stmt := top 25
abbrev sHas : Stmt := top 26
abbrev sCheckSigned : Stmt := top 28
abbrev sCPattern : Stmt := top 29
abbrev sCBetween : Stmt := top 30
abbrev sMost : Stmt := top 33
abbrev sOrder : Stmt := top 35
abbrev sAll : Stmt := top 36
abbrev sLF : Stmt := top 38
abbrev sCut : Stmt := top 39
abbrev sParts : Stmt := top 40
abbrev sJoin : Stmt := top 42
abbrev sUndo : Stmt := top 43
abbrev sBRuns : Stmt := top 44
abbrev sOfSigns : Stmt := top 45
abbrev sSignsOf : Stmt := top 46
abbrev sCheckWord : Stmt := top 52
abbrev sIsRow : Stmt := top 53
abbrev sIsRun : Stmt := top 54
abbrev sIsLead : Stmt := top 58
abbrev sLeast : Stmt := top 59
abbrev sFac : Stmt := top 60
abbrev sHalv : Stmt := top 61
abbrev sBO : Stmt := top 62
abbrev sPO : Stmt := top 63
abbrev sCLead : Stmt := top 68
abbrev sCup : Stmt := top 70
abbrev sBit : Stmt := top 71
abbrev sPick : Stmt := top 72
abbrev sRight : Stmt := top 74
abbrev sLaw : Stmt := top 75
/-! ### values -/
inductive Val (H : Hp) : V → PyData → Prop
  | non : Val H .non .none
  | bl (b : Bool) : Val H (.bl b) (.bool b)
  | int (n : Int) : Val H (.int n) (.int n)
  | str (z : Str) : Val H (.str z) (.str z)
  | lst {a : Addr} (l : List Str) (h : H a = some (.lst (l.map V.str))) : Val H (.ref a) (.list (l.map PyData.str))
  | tup {a : Addr} (l : List Str) (h : H a = some (.tup (l.map V.str))) : Val H (.ref a) (.tuple (l.map PyData.str))
  | tupI {a : Addr} (l : List Int) (h : H a = some (.tup (l.map V.int))) : Val H (.ref a) (.tuple (l.map PyData.int))
  | dct {a : Addr} (kvs : List (Str × Int)) (h : H a = some (.dK (kvs.map fun p => (Sum.inr p.1, V.int p.2)))) : Val H (.ref a) (.dict (kvs.map fun p => (.str p.1, .int p.2)))
theorem Val.same {H H' : Hp} {v : V} {d : PyData} (s : Same H H') (h : Val H v d) : Val H' v d := by
  cases h with
  | non => exact .non
  | bl b => exact .bl b
  | int n => exact .int n
  | str z => exact .str z
  | lst l h => exact .lst l (s _ _ h)
  | tup l h => exact .tup l (s _ _ h)
  | tupI l h => exact .tupI l (s _ _ h)
  | dct l h => exact .dct l (s _ _ h)
def intTy : PyData → Bool
  | .int _ => true
  | .bool _ => true
  | _ => false
def strTy : PyData → Bool
  | .str _ => true
  | _ => false
def blTy : PyData → Bool
  | .bool _ => true
  | _ => false
theorem k_NoneType_int : kitB "NoneType" "int" = some false := by decide +kernel
theorem k_NoneType_str : kitB "NoneType" "str" = some false := by decide +kernel
theorem k_NoneType_bool : kitB "NoneType" "bool" = some false := by decide +kernel
theorem k_bool_int : kitB "bool" "int" = some true := by decide +kernel
theorem k_bool_str : kitB "bool" "str" = some false := by decide +kernel
theorem k_bool_bool : kitB "bool" "bool" = some true := by decide +kernel
theorem k_int_int : kitB "int" "int" = some true := by decide +kernel
theorem k_int_str : kitB "int" "str" = some false := by decide +kernel
theorem k_int_bool : kitB "int" "bool" = some false := by decide +kernel
theorem k_str_int : kitB "str" "int" = some false := by decide +kernel
theorem k_str_str : kitB "str" "str" = some true := by decide +kernel
theorem k_str_bool : kitB "str" "bool" = some false := by decide +kernel
theorem k_list_int : kitB "list" "int" = some false := by decide +kernel
theorem k_list_str : kitB "list" "str" = some false := by decide +kernel
theorem k_list_bool : kitB "list" "bool" = some false := by decide +kernel
theorem k_tuple_int : kitB "tuple" "int" = some false := by decide +kernel
theorem k_tuple_str : kitB "tuple" "str" = some false := by decide +kernel
theorem k_tuple_bool : kitB "tuple" "bool" = some false := by decide +kernel
theorem k_dict_int : kitB "dict" "int" = some false := by decide +kernel
theorem k_dict_str : kitB "dict" "str" = some false := by decide +kernel
theorem k_dict_bool : kitB "dict" "bool" = some false := by decide +kernel
theorem Val.ty {K : PySem.W.Frag} {H : Hp} {v : V} {d : PyData} (h : Val H v d) : ∃ t, TyX K H v t ∧ PySem.W.kitOne K t (.type "int") = some (intTy d) ∧ PySem.W.kitOne K t (.type "str") = some (strTy d) ∧ PySem.W.kitOne K t (.type "bool") = some (blTy d) := by
  cases h with
  | non => exact ⟨_, .base .non, kit_ty k_NoneType_int, kit_ty k_NoneType_str, kit_ty k_NoneType_bool⟩
  | bl b => exact ⟨_, .base (.bl b), kit_ty k_bool_int, kit_ty k_bool_str, kit_ty k_bool_bool⟩
  | int n => exact ⟨_, .base (.int n), kit_ty k_int_int, kit_ty k_int_str, kit_ty k_int_bool⟩
  | str z => exact ⟨_, .base (.str z), kit_ty k_str_int, kit_ty k_str_str, kit_ty k_str_bool⟩
  | lst l h => exact ⟨_, .base (.lst h), kit_ty k_list_int, kit_ty k_list_str, kit_ty k_list_bool⟩
  | tup l h => exact ⟨_, .base (.tup h), kit_ty k_tuple_int, kit_ty k_tuple_str, kit_ty k_tuple_bool⟩
  | tupI l h => exact ⟨_, .base (.tup h), kit_ty k_tuple_int, kit_ty k_tuple_str, kit_ty k_tuple_bool⟩
  | dct l h => exact ⟨_, .base (.dK h), kit_ty k_dict_int, kit_ty k_dict_str, kit_ty k_dict_bool⟩

/-- what the walk asks of the module's names -/
structure Txt (K : PySem.W.Frag) (mg : Str → Option Value) : Prop where
  isi : mg "isinstance" = none
  int : mg "int" = none
  str : mg "str" = none
  bool : mg "bool" = none
  abs : mg "abs" = none
  len : mg "len" = none
  list : mg "list" = none
  set : mg "set" = none
  sorted : mg "sorted" = none
  repr : mg "repr" = none
  range : mg "range" = none
  max : mg "max" = none
  min : mg "min" = none
  all : mg "all" = none
  sum : mg "sum" = none
  tuple : mg "tuple" = none
  long : ∃ t, mg "LEAST_TOO_LONG" = some (.int (10 ^ 200) t)
  alpha : ∃ t, mg "ALPHABET" = some (.str alpha t)
  mLet : ∃ t, mg "MAX_LETTERS" = some (.int 3 t)
  mText : ∃ t, mg "MAX_TEXT" = some (.int 4000 t)
  mRuns : ∃ t, mg "MAX_RUNS" = some (.int 200 t)
  mPat : ∃ t, mg "MAX_PATTERN" = some (.int 400 t)
  dict : mg "dict" = none
  zip : mg "zip" = none
  enumerate : mg "enumerate" = none
  mDep : ∃ t, mg "MAX_DEPTH" = some (.int 5 t)
  mFar : ∃ t, mg "FAR_TOO_MANY_RUNS" = some (.int 2000 t)

theorem fine_line {z : Str} (h : Fine z) : z.length ≤ sizeLine := Nat.le_trans h.long (by decide)

/-! ### the program's judges -/
def spHas : Sp := fun vs H Q _ => ∃ (v : V) (d : PyData) (sg : Str) (m : Nat), vs = [v, .str sg, .int m] ∧ Val H v d ∧ Ok d ∧ Q (.bl (has sg m d)) H
section
variable {P : Program} {w : World} {K : PySem.W.Frag} {mg : Str → Option Value} {base : Heap}
theorem scHas : FnScope ["value", "signs", "most"] ["value", "signs", "most"] (defScope sHas) := ⟨rfl, rfl, rfl, by decide +kernel, rfl, by decide +kernel, by decide +kernel⟩
theorem ok_has {f : Addr} {fd : FuncData} (F : Fun K "has_only" "has_only" sHas f fd) (T : Txt K mg) : FnOk P w K mg base CX0 1 f fd ["value", "signs", "most"] spHas := by
  refine F.ok scHas (fun vs H Q E h => ?_) (fun cdv A outer s H vs Q E hr h => ?_)
  · obtain ⟨v, d, sg, m, rfl, _⟩ := h
    rfl
  · obtain ⟨v, d, sg, m, rfl, hv, hd, q⟩ := h
    refine ⟨_, pss_one (ps_ret (pe_and (pe_callB call_isi (by rfl) T.isi (by decide +kernel) (pa_cons (pv 0) (pa_cons (pe_bltn (v := .ty "str") (by rfl) T.str (by decide +kernel) rfl) pa_nil)))
      (pe_and (pe_cmpR op_le (pe_callB call_len_str (by rfl) T.len PySem.boot_len (pa_cons (pv 0) pa_nil)) (pv 2) (nomark _))
      (pe_one (pe_cmpR op_eq (pe_bm PySem.F.plainAttrs_str PySem.F.slot_str_strip PySem.F.type_str_strip mt_stripChars (pv 0) (pa_cons (pv 1) pa_nil)) pe_str (nomark _)))))), ?_⟩
    obtain ⟨t, ty, _, k, _⟩ := Val.ty (K := K) hv
    refine ⟨_, rfl, _, _, _, _, _, rfl, .ty "str", ty, k, strTy d, rfl, ?_⟩
    cases hv with
    | str z =>
      have hz := fine_line (show Fine z from hd)
      refine iteT ?_
      refine ⟨_, rfl, z, rfl, hz, _, rfl, _, _, rfl, rfl, _, rfl, ?_⟩
      have e1 : decide ((z.length : Int) ≤ (m : Int)) = decide (z.length ≤ m) := decide_eq_decide.mpr (by omega)
      rw [e1]
      have e0 : has sg m (.str z) = (decide (z.length ≤ m) && only z sg) := rfl
      rw [e0] at q
      by_cases hm : z.length ≤ m
      · rw [decide_eq_true hm] at q ⊢
        refine iteT ?_
        refine ⟨_, rfl, rfl, _, rfl, z, sg, rfl, rfl, hz, rfl, ?_⟩
        have e2 : decide (V.str (Txt.stripChars z sg) = V.str (Str.ofString "")) = only z sg := by
          rw [← strip_only]
          exact decide_eq_decide.mpr ⟨fun e => by injection e, fun e => by rw [e]; rfl⟩
        rw [e2]
        exact q
      · rw [decide_eq_false hm] at q ⊢
        exact iteF q
    | _ => exact iteF q

def spInt : Sp := fun vs H Q _ => ∃ (v : V) (d : PyData), vs = [v] ∧ Val H v d ∧ Q (.bl (isInt d)) H
theorem scInt : FnScope ["value"] ["value"] (defScope sInt) := ⟨rfl, rfl, rfl, by decide +kernel, rfl, by decide +kernel, by decide +kernel⟩
theorem isInt_abs (n : Int) : decide ((if n < 0 then -n else n) < 10 ^ 200) = isInt (.int n) := by
  show _ = decide (n.natAbs < 10 ^ 200)
  have e : ((10 ^ 200 : Nat) : Int) = 10 ^ 200 := by norm_cast
  rw [← e]
  generalize (10 ^ 200 : Nat) = M
  refine decide_eq_decide.mpr ?_
  split <;> omega
theorem ok_int {f : Addr} {fd : FuncData} (F : Fun K "is_integer" "is_integer" sInt f fd) (T : Txt K mg) : FnOk P w K mg base CX0 1 f fd ["value"] spInt := by
  refine F.ok scInt (fun vs H Q E h => ?_) (fun cdv A outer s H vs Q E hr h => ?_)
  · obtain ⟨v, d, rfl, _⟩ := h
    rfl
  · obtain ⟨v, d, rfl, hv, q⟩ := h
    obtain ⟨tl, hl⟩ := T.long
    refine ⟨_, pss_one (ps_ret (pe_and (pe_callB call_isi (by rfl) T.isi (by decide +kernel) (pa_cons (pv 0) (pa_cons (pe_bltn (v := .ty "int") (by rfl) T.int (by decide +kernel) rfl) pa_nil)))
      (pe_and (pe_not (pe_callB call_isi (by rfl) T.isi (by decide +kernel) (pa_cons (pv 0) (pa_cons (pe_bltn (v := .ty "bool") (by rfl) T.bool (by decide +kernel) rfl) pa_nil))))
      (pe_one (pe_cmpR op_lt (pe_callB call_abs (by rfl) T.abs (by decide +kernel) (pa_cons (pv 0) pa_nil)) (pe_glob (v := .int (10 ^ 200)) rfl hl ⟨_, rfl⟩) (nomark _)))))), ?_⟩
    obtain ⟨t, ty, k1, _, k3⟩ := Val.ty (K := K) hv
    refine ⟨_, rfl, _, _, _, _, _, rfl, .ty "int", ty, k1, intTy d, rfl, ?_⟩
    cases hv with
    | int n =>
      refine iteT ⟨_, rfl, _, _, _, _, _, rfl, .ty "bool", ty, k3, _, rfl, _, rfl, iteT ?_⟩
      refine ⟨_, rfl, n, rfl, _, _, rfl, rfl, ?_⟩
      show Q (.bl (decide ((if n < 0 then -n else n) < 10 ^ 200))) H
      rw [isInt_abs]
      exact q
    | bl b => exact iteT ⟨_, rfl, _, _, _, _, _, rfl, .ty "bool", ty, k3, _, rfl, _, rfl, iteF q⟩
    | _ => exact iteF q

end
/-- a def of the text, found under its name -/
structure Df (K : PySem.W.Frag) (mg : Str → Option Value) (x : Str) (st : Stmt) (ps : List Str) (f : Addr) (fd : FuncData) : Prop where
  F : Fun K x x st f fd
  m : mg x = some (.ref f)
  b : Binds K fd ps []

/-! ### rows of one-sign texts as data -/
abbrev onesD (l : List Nat) : List PyData := l.map fun c => PyData.str (one c)
theorem all_ones (K : PySem.W.Frag) (H : Hp) : ∀ l : List Nat, DpAll K H (ones l) (onesD l)
  | [] => .nil
  | c :: l => .cons (.str _) (all_ones K H l)
theorem eqv_ones : ∀ l m : List Nat, PyData.eqvAll (onesD l) (onesD m) = decide (l = m)
  | [], [] => rfl
  | [], _ :: _ => rfl
  | _ :: _, [] => rfl
  | c :: l, d :: m => by
    show ((one c == one d) && PyData.eqvAll (onesD l) (onesD m)) = _
    rw [eqv_ones l m]
    by_cases h : c = d
    · subst h
      simp
    · have e : (one c == one d) = false := beq_eq_false_iff_ne.mpr fun q => h (one_inj q)
      rw [e]
      simp [h]
theorem lay_all (l : List Nat) (h : ∀ c ∈ l, c < 128) : PyData.canLayAll0 (onesD l) = true := by
  induction l with
  | nil => rfl
  | cons c l ih =>
    have hc := h c List.mem_cons_self
    have e1 : PyData.canLay0 (.str (one c)) = true := by
      show (one c).cps.all (· < 0x110000) = true
      simp
      omega
    show (PyData.canLay0 (.str (one c)) && PyData.canLayAll0 (onesD l)) = true
    rw [ih fun d hd => h d (List.mem_cons_of_mem _ hd), e1]
    rfl
theorem deep_all (l : List Nat) : PyData.depthAll (onesD l) ≤ 1 := by
  induction l with
  | nil => decide
  | cons c l ih =>
    show max _ (PyData.depthAll (onesD l)) ≤ 1
    exact Nat.max_le.mpr ⟨(by show 0 ≤ 1; decide), ih⟩
theorem shaped_ones (l : List Nat) (h : ∀ c ∈ l, c < 128) : SeqAt.shaped (.list (onesD l)) = true := by
  unfold SeqAt.shaped
  rw [Bool.and_eq_true]
  refine ⟨lay_all l h, decide_eq_true ?_⟩
  show PyData.depthAll (onesD l) + 1 ≤ 64
  have := deep_all l
  omega

section
variable {P : Program} {w : World} {K : PySem.W.Frag} {mg : Str → Option Value} {base : Heap}
theorem scLetters : FnScope ["value"] ["value"] (defScope sLetters) := ⟨rfl, rfl, rfl, by decide +kernel, rfl, by decide +kernel, by decide +kernel⟩
def spLetters : Sp := fun vs H Q _ => ∃ (v : V) (d : PyData), vs = [v] ∧ Val H v d ∧ Ok d ∧ ∀ H', Same H H' → Q (.bl (letters d)) H'
theorem same_upd {H : Hp} {p : Addr} {o : HO} (h : H p = none) : Same H (upd H p o) := fun b u e => by
  rw [upd_ne (ne_of_none e h)]
  exact e
theorem ok_letters {f fH : Addr} {fd fdH : FuncData} (F : Fun K "is_letters" "is_letters" sLetters f fd) (T : Txt K mg) (DH : Df K mg "has_only" sHas ["value", "signs", "most"] fH fdH) :
    FnOk P w K mg base CX0 2 f fd ["value"] spLetters := by
  have G := ok_has (P := P) (w := w) (base := base) DH.F T
  refine F.ok scLetters (fun vs H Q E h => ?_) (fun cdv A outer s H vs Q E hr h => ?_)
  · obtain ⟨v, d, rfl, _⟩ := h
    rfl
  · obtain ⟨v, d, rfl, hv, hd, q⟩ := h
    obtain ⟨ta, ha⟩ := T.alpha
    obtain ⟨tn, hn⟩ := T.mLet
    refine ⟨_, pss_one (ps_ret (pe_and (pe_call G hr (by rfl) DH.m DH.F.kp DH.b .nil pass0 (pa_cons (pv 0) (pa_cons (pe_glob (v := .str alpha) rfl ha ⟨_, rfl⟩) (pa_cons (pe_glob (v := .int 3) rfl hn ⟨_, rfl⟩) pa_nil))))
      (pe_and (pe_cmpR op_ne (pv 0) pe_str (nomark _))
      (pe_one (pe_cmpR (op_eqD hr.units) (pe_callTy (cr_listTx rfl) (by rfl) T.list (by decide +kernel) (pa_cons (pv 0) pa_nil))
        (pe_callB (cr_sortTx rfl) (by rfl) T.sorted (by decide +kernel) (pa_cons (pe_callTy (cr_setTx rfl) (by rfl) T.set (by decide +kernel) (pa_cons (pv 0) pa_nil)) pa_nil)) (nomark _)))))), ?_⟩
    refine ⟨_, rfl, v, d, alpha, 3, rfl, hv, hd, _, rfl, ?_⟩
    cases hv with
    | str z =>
      have hz : Fine z := hd
      have e0 : letters (.str z) = (has alpha 3 (.str z) && decide (z ≠ Str.empty) && rise z) := rfl
      rw [e0] at q
      cases hb : has alpha 3 (.str z) with
      | true =>
        rw [hb] at q
        refine iteT ⟨_, rfl, rfl, ?_⟩
        have e : (!decide (V.str z = V.str (Str.ofString ""))) = decide (z ≠ Str.empty) := by
          rw [← decide_not]
          exact decide_eq_decide.mpr ⟨fun h e => h (by rw [e]; rfl), fun h e => h (by injection e)⟩
        refine ⟨_, rfl, ?_⟩
        rw [e]
        by_cases hne : z ≠ Str.empty
        · rw [decide_eq_true hne] at q ⊢
          refine iteT ?_
          refine ⟨_, rfl, z, rfl, fine_line hz, fun p1 n1 => ?_⟩
          refine ⟨_, rfl, z, rfl, hz.few, fun p2 n2 => ?_⟩
          refine ⟨p2, cds z, rfl, upd_same, hz.few, fun p3 n3 => ?_⟩
          have s1 : Same H (upd H p1 (.lst (ones (cds z)))) := same_upd n1
          have s2 := same_upd (o := TO w p2 (met [] (cds z))) n2
          have s3 := same_upd (o := .lst (ones (ups (cds z)))) n3
          have h1 := s3 _ _ (s2 _ _ (upd_same (H := H) (a := p1) (o := .lst (ones (cds z)))))
          refine ⟨.list (onesD (cds z)), .list (onesD (ups (cds z))), .lst (SqL.of h1) (all_ones _ _ _), .lst (SqL.of upd_same) (all_ones _ _ _), shaped_ones _ hz.plain, shaped_ones _ (fun c hc => hz.plain c ((ups_mem _ _).mp hc)), ?_⟩
          have e2 : PyData.eqv (.list (onesD (cds z))) (.list (onesD (ups (cds z)))) = rise z := eqv_ones _ _
          rw [e2]
          exact q _ ((s1.trans s2).trans s3)
        · have hne' : decide (z ≠ Str.empty) = false := decide_eq_false hne
          rw [hne'] at q ⊢
          exact iteF (q _ (Same.refl H))
      | false =>
        rw [hb] at q
        exact iteF (q _ (Same.refl H))
    | _ => exact iteF (q _ (Same.refl H))

/-! ### the law's drawer -/
/-- a drawer: three ints -/
def Cup (H : Hp) (c : Addr) : Prop := ∃ a0 a1 a2 : Int, H c = some (.lst [.int a0, .int a1, .int a2])
/-- all but what stands at c stays -/
def But (c : Addr) (H H' : Hp) : Prop := ∀ b o, b ≠ c → H b = some o → H' b = some o
theorem But.refl (c : Addr) (H : Hp) : But c H H := fun _ _ _ e => e
theorem But.trans {c : Addr} {H H1 H2 : Hp} (a : But c H H1) (b : But c H1 H2) : But c H H2 := fun x o n e => b x o n (a x o n e)
theorem But.of {c : Addr} {H H' : Hp} (s : Same H H') : But c H H' := fun b o _ e => s b o e
theorem But.put {c : Addr} {H : Hp} {o : HO} : But c H (upd H c o) := fun b u n e => by rw [upd_ne n]; exact e

def spCup (K : PySem.W.Frag) : Sp := fun vs H Q _ => ∃ (a : Addr) (ns : List Int) (k : Nat), vs = [.ref a, .int k] ∧ SqL K H a (ns.map V.int) ∧ ns.length ≤ 63 ∧ k ≤ 100 ∧ ∀ p H', H p = none → Same H H' → Cup H' p → Q (.ref p) H'
theorem scCup : FnScope ["_law_script", "_law_at", "_law_cell", "_law_great", "_law_blend"] ["_law_script", "_law_at"] (defScope sCup) := ⟨rfl, rfl, rfl, by decide +kernel, rfl, by decide +kernel, by decide +kernel⟩
theorem ok_cup {f : Addr} {fd : FuncData} (F : Fun K "_law_cup" "_law_cup" sCup f fd) (T : Txt K mg) : FnOk P w K mg base CX0 1 f fd ["_law_script", "_law_at"] (spCup K) := by
  refine F.ok scCup (fun vs H Q E h => ?_) (fun cdv A outer s H vs Q E hr h => ?_)
  · obtain ⟨a, ns, k, rfl, _⟩ := h
    rfl
  · obtain ⟨a, ns, k, rfl, hS, hlen, hk, q⟩ := h
    refine ⟨_, pss_cons (ps_set (i := 2) scCup.nd rfl (Or.inl rfl) (pe_ifExp (pt_cmpR op_lt (pv 1) (pe_callB call_len (by rfl) T.len PySem.boot_len (pa_cons (pv 0) pa_nil)) (nomark _))
        (pe_ix ix_list (pv 0) (pv 1) (fun _ _ => rfl)) (pe_op op_add (pe_op op_mul pe_int (pv 1)) pe_int)))
      (pss_cons (ps_set (i := 3) scCup.nd rfl (Or.inl rfl) (pe_op op_modN (pe_callTy call_int1 (by rfl) T.int (by decide +kernel) (pa_cons (pe_callB call_abs (by rfl) T.abs (by decide +kernel) (pa_cons (pv 2) pa_nil)) pa_nil))
        (pe_op op_powW (pe_op op_pow pe_int pe_int) pe_int)))
      (pss_cons (ps_set (i := 4) scCup.nd rfl (Or.inl rfl) (pe_op op_add (pe_op op_add (pe_op op_add
          (pe_op op_mul (pe_op op_modN (pe_callTy call_int1 (by rfl) T.int (by decide +kernel) (pa_cons (pv 3) pa_nil)) pe_int) pe_int) (pe_op op_mul pe_int (pv 1)))
          (pe_op op_mul pe_int (pe_callTy call_int1 (by rfl) T.int (by decide +kernel) (pa_cons (pe_cmpR op_lt (pv 2) pe_int (nomark _)) pa_nil)))) pe_int))
      (pss_one (ps_ret (pe_lst (pa_cons (pe_callB (call_max2 rfl) (by rfl) T.max (by decide +kernel) (pa_cons pe_int (pa_cons (pe_op op_sub (pv 3) (pe_op op_pow pe_int pe_int)) pa_nil)))
        (pa_cons (pe_op op_modN (pe_callTy call_int1 (by rfl) T.int (by decide +kernel) (pa_cons (pv 4) pa_nil)) pe_int) (pa_cons pe_int pa_nil)))))))), ?_⟩
    refine ⟨_, rfl, _, rfl, _, ns.length, rfl, .inl ⟨_, hS, by rw [List.length_map]⟩, _, _, rfl, rfl, _, rfl, ?_⟩
    refine ite2 (fun hc => ?_) (fun _ => ?_)
    · have hk2 : k < ns.length := by
        have := of_decide_eq_true hc
        omega
      refine ⟨_, rfl, _, rfl, a, _, _, .int ns[k], rfl, rfl, hS, atI_nat (by rw [List.getElem?_map, List.getElem?_eq_getElem hk2]; rfl), ?_⟩
      refine ⟨_, rfl, _, rfl, .inl ⟨_, rfl, _, _, rfl, rfl, ⟨by decide, by decide, by decide⟩, _, _, rfl, rfl, ⟨by decide, by decide +kernel⟩, _, _, rfl, rfl, (show (((10 : Int) ^ Int.toNat 61) ^ Int.toNat 11) ≠ 0 by decide +kernel), ?_⟩⟩
      refine ⟨_, rfl, .inl ⟨_, rfl, _, _, rfl, rfl, (show (2147483179 : Int) ≠ 0 by decide), _, _, rfl, rfl, .inr ⟨by decide, by decide⟩, _, rfl, _, _, rfl, rfl, .inl ⟨by decide, by decide⟩, _, _, rfl, rfl, _, rfl, _, _, rfl, rfl,
        .inr ⟨_, rfl, _, _, rfl, rfl, .inl ⟨by decide, by decide⟩, _, _, rfl, rfl, _, _, rfl, rfl, ?_⟩⟩⟩
      refine ⟨_, rfl, _, _, rfl, rfl, ⟨by decide, by decide, by decide⟩, _, _, rfl, rfl, _, _, rfl, _, rfl, .inl ⟨_, rfl, _, _, rfl, rfl, (show (2305843009213693907 : Int) ≠ 0 by decide), by show 3 ≤ sizeLine; decide, fun p hp => ?_⟩⟩
      exact q p _ hp (same_upd hp) ⟨_, _, _, upd_same⟩
    · refine ⟨_, rfl, _, _, rfl, rfl, .inl ⟨by decide, by decide⟩, _, _, rfl, rfl, ?_⟩
      refine ⟨_, rfl, _, rfl, .inl ⟨_, rfl, _, _, rfl, rfl, ⟨by decide, by decide, by decide⟩, _, _, rfl, rfl, ⟨by decide, by decide +kernel⟩, _, _, rfl, rfl, (show (((10 : Int) ^ Int.toNat 61) ^ Int.toNat 11) ≠ 0 by decide +kernel), ?_⟩⟩
      refine ⟨_, rfl, .inl ⟨_, rfl, _, _, rfl, rfl, (show (2147483179 : Int) ≠ 0 by decide), _, _, rfl, rfl, .inr ⟨by decide, by decide⟩, _, rfl, _, _, rfl, rfl, .inl ⟨by decide, by decide⟩, _, _, rfl, rfl, _, rfl, _, _, rfl, rfl,
        .inr ⟨_, rfl, _, _, rfl, rfl, .inl ⟨by decide, by decide⟩, _, _, rfl, rfl, _, _, rfl, rfl, ?_⟩⟩⟩
      refine ⟨_, rfl, _, _, rfl, rfl, ⟨by decide, by decide, by decide⟩, _, _, rfl, rfl, _, _, rfl, _, rfl, .inl ⟨_, rfl, _, _, rfl, rfl, (show (2305843009213693907 : Int) ≠ 0 by decide), by show 3 ≤ sizeLine; decide, fun p hp => ?_⟩⟩
      exact q p _ hp (same_upd hp) ⟨_, _, _, upd_same⟩

def spBit : Sp := fun vs H Q _ => ∃ (c : Addr) (m : Int), vs = [.ref c, .int m] ∧ Cup H c ∧ 0 < m ∧ m.natAbs < 2 ^ 9000 ∧ ∀ r H', 0 ≤ r → r < m → Cup H' c → But c H H' → Q (.int r) H'
theorem scBit : FnScope ["_law_cup_here", "_law_much", "_law_found", "_law_first", "_law_later"] ["_law_cup_here", "_law_much"] (defScope sBit) := ⟨rfl, rfl, rfl, by decide +kernel, rfl, by decide +kernel, by decide +kernel⟩
theorem ok_bit {f : Addr} {fd : FuncData} (F : Fun K "_law_bit" "_law_bit" sBit f fd) (T : Txt K mg) : FnOk P w K mg base CX0 1 f fd ["_law_cup_here", "_law_much"] spBit := by
  refine F.ok scBit (fun vs H Q E h => ?_) (fun cdv A outer s H vs Q E hr h => ?_)
  · obtain ⟨c, m, rfl, _⟩ := h
    rfl
  · obtain ⟨c, m, rfl, ⟨a0, a1, a2, hc⟩, hm, hm2, q⟩ := h
    refine ⟨_, pss_cons (ps_if (pt_cmpR op_gt (pe_ix ix_list (pv 0) pe_int (fun _ _ => rfl)) pe_int (nomark _))
        (pss_cons (ps_set (i := 2) scBit.nd rfl (Or.inl rfl) (pe_op op_modN (pe_callTy call_int1 (by rfl) T.int (by decide +kernel) (pa_cons (pe_ix ix_list (pv 0) pe_int (fun _ _ => rfl)) pa_nil)) (pv 1)))
        (pss_cons (ps_asg (pe_op op_fdivW (pe_ix ix_list (pv 0) pe_int (fun _ _ => rfl)) (pv 1)) (pg_sub (pv 0) pe_int set_list))
        (pss_one (ps_ret (pv 2))))) pss_nil)
      (pss_cons (ps_asg (pe_op op_add (pe_ix ix_list (pv 0) pe_int (fun _ _ => rfl)) pe_int) (pg_sub (pv 0) pe_int set_list))
      (pss_cons (ps_set (i := 3) scBit.nd rfl (Or.inl rfl) (pe_op op_modN (pe_callTy call_int1 (by rfl) T.int (by decide +kernel) (pa_cons (pe_op op_add (pe_ix ix_list (pv 0) pe_int (fun _ _ => rfl))
          (pe_op op_mul pe_int (pe_ix ix_list (pv 0) pe_int (fun _ _ => rfl)))) pa_nil)) pe_int))
      (pss_cons (ps_set (i := 4) scBit.nd rfl (Or.inl rfl) (pe_op op_add (pe_op op_mul (pe_op op_modN (pe_callTy call_int1 (by rfl) T.int (by decide +kernel) (pa_cons (pe_op op_mul (pv 3) (pv 3)) pa_nil)) pe_int) (pv 3))
          (pe_op op_mul pe_int (pe_ix ix_list (pv 0) pe_int (fun _ _ => rfl)))))
      (pss_one (ps_ret (pe_op op_modN (pe_callTy call_int1 (by rfl) T.int (by decide +kernel) (pa_cons (pe_op op_fdivN (pe_op op_modN (pe_callTy call_int1 (by rfl) T.int (by decide +kernel) (pa_cons (pv 4) pa_nil)) pe_int) pe_int) pa_nil)) (pv 1))))))), ?_⟩
    have at0 : ∀ {x y z : V}, atI [x, y, z] (0 : Int) = some x := rfl
    have at1 : ∀ {x y z : V}, atI [x, y, z] (1 : Int) = some y := rfl
    have at2 : ∀ {x y z : V}, atI [x, y, z] (2 : Int) = some z := rfl
    have rest : ∀ i : Int, 0 ≤ i.fmod m ∧ i.fmod m < m := fun i => by
      rw [Int.fmod_eq_emod_of_nonneg i (Int.le_of_lt hm)]
      exact ⟨Int.emod_nonneg i (Int.ne_of_gt hm), Int.emod_lt_of_pos i hm⟩
    refine ⟨_, rfl, c, _, _, _, rfl, rfl, SqL.of hc, at0, _, _, rfl, rfl, _, rfl, ?_⟩
    refine ite2 (fun _ => ?_) (fun _ => ?_)
    · refine ⟨_, rfl, c, _, _, _, rfl, rfl, SqL.of hc, at0, .inl ⟨_, rfl, _, rfl, _, _, rfl, rfl, (Int.ne_of_gt hm), ?_⟩⟩
      refine ⟨_, rfl, c, _, _, _, rfl, rfl, SqL.of hc, at0, _, rfl, _, _, rfl, rfl, wide_div hm hm2 (by decide) (by decide), ?_⟩
      refine ⟨_, rfl, c, _, _, 0, rfl, rfl, hc, rfl, ?_⟩
      exact ⟨_, rfl, q _ _ (rest _).1 (rest _).2 ⟨_, _, _, upd_same⟩ But.put⟩
    · refine ⟨_, rfl, c, _, _, _, rfl, rfl, SqL.of hc, at2, _, _, rfl, rfl, _, rfl, c, _, _, 2, rfl, rfl, hc, rfl, ?_⟩
      have hc2 : (upd H c (.lst ([.int a0, .int a1, .int a2].set 2 (.int (a2 + 1))))) c = some (.lst [.int a0, .int a1, .int (a2 + 1)]) := upd_same
      refine ⟨_, rfl, c, _, _, _, rfl, rfl, SqL.of hc2, at1, _, rfl, c, _, _, _, rfl, rfl, SqL.of hc2, at2, _, _, rfl, rfl, .inl ⟨by decide, by decide⟩, _, _, rfl, rfl, .inl ⟨_, rfl, _, _, rfl, rfl, (show (2305843009213693951 : Int) ≠ 0 by decide), ?_⟩⟩
      have f1 := Int.emod_nonneg (a1 + 1000541 * (a2 + 1)) (b := 2305843009213693951) (by decide)
      have f2 := Int.emod_lt_of_pos (a1 + 1000541 * (a2 + 1)) (b := 2305843009213693951) (by decide)
      rw [← Int.fmod_eq_emod_of_nonneg (a1 + 1000541 * (a2 + 1)) (b := 2305843009213693951) (by decide)] at f1 f2
      have f3 : -(2 ^ 64 : Int) < Int.fmod (a1 + 1000541 * (a2 + 1)) 2305843009213693951 ∧ Int.fmod (a1 + 1000541 * (a2 + 1)) 2305843009213693951 < 2 ^ 64 :=
        ⟨Int.lt_of_lt_of_le (by decide) f1, Int.lt_trans f2 (by decide)⟩
      refine ⟨_, rfl, _, rfl, _, _, rfl, rfl, .inl f3, .inl ⟨_, rfl, _, _, rfl, rfl, (show (2305843009213693921 : Int) ≠ 0 by decide), _, rfl, _, _, rfl, rfl, .inr f3, _, rfl, c, _, _, _, rfl, rfl, SqL.of hc2, at2,
        _, _, rfl, rfl, .inl ⟨by decide, by decide⟩, _, _, rfl, rfl, ?_⟩⟩
      refine ⟨_, rfl, .inl ⟨_, rfl, _, _, rfl, rfl, (show (2305843009213693907 : Int) ≠ 0 by decide), _, _, rfl, rfl, (show (16384 : Int) ≠ 0 ∧ (16384 : Int).natAbs < 1073741824 by decide), .inl ⟨_, rfl, _, rfl, _, _, rfl, rfl, (Int.ne_of_gt hm), ?_⟩⟩⟩
      exact q _ _ (rest _).1 (rest _).2 ⟨_, _, _, hc2⟩ But.put
/-! ### drawing -/
theorem scPick : FnScope ["_law_cup_here", "_law_items"] ["_law_cup_here", "_law_items"] (defScope sPick) := ⟨rfl, rfl, rfl, by decide +kernel, rfl, by decide +kernel, by decide +kernel⟩
def spPick : Sp := fun vs H Q _ => ∃ (c : Addr), Cup H c ∧
  ((∃ (p : Addr) (xs : List V), vs = [.ref c, .ref p] ∧ p ≠ c ∧ H p = some (.lst xs) ∧ 0 < xs.length ∧ xs.length < 100 ∧ ∀ x H', x ∈ xs → Cup H' c → But c H H' → Q x H') ∨
   (∃ z : Str, vs = [.ref c, .str z] ∧ 0 < z.length ∧ z.length < 100 ∧ ∀ s H', s ∈ cds z → Cup H' c → But c H H' → Q (.str (one s)) H'))
theorem ok_pick {f fB : Addr} {fd fdB : FuncData} (F : Fun K "_law_pick" "_law_pick" sPick f fd) (T : Txt K mg) (DB : Df K mg "_law_bit" sBit ["_law_cup_here", "_law_much"] fB fdB) :
    FnOk P w K mg base CX0 2 f fd ["_law_cup_here", "_law_items"] spPick := by
  have G := ok_bit (P := P) (w := w) (base := base) DB.F T
  refine F.ok scPick (fun vs H Q E h => ?_) (fun cdv A outer s H vs Q E hr h => ?_)
  · obtain ⟨c, _, h⟩ := h
    rcases h with ⟨p, xs, rfl, _⟩ | ⟨z, rfl, _⟩ <;> rfl
  · obtain ⟨c, hc, h⟩ := h
    refine ⟨_, pss_one (ps_ret (pe_ix ix_seq (pv 1) (pe_call G hr (by rfl) DB.m DB.F.kp DB.b .nil pass0 (pa_cons (pv 0) (pa_cons (pe_callB call_len (by rfl) T.len PySem.boot_len (pa_cons (pv 1) pa_nil)) pa_nil))) (fun _ _ => rfl))), ?_⟩
    have small : ∀ n : Nat, n < 100 → (n : Int).natAbs < 2 ^ 9000 := fun n hn => Nat.lt_of_lt_of_le (show (n : Int).natAbs < 2 ^ 7 by omega) (Nat.pow_le_pow_right (by decide) (by decide))
    rcases h with ⟨p, xs, rfl, hpc, hp, h0, h1, q⟩ | ⟨z, rfl, h0, h1, q⟩
    · refine ⟨_, rfl, _, rfl, _, rfl, _, xs.length, rfl, .inl ⟨_, SqL.of hp, rfl⟩, c, xs.length, rfl, hc, by omega, small _ h1, fun r H' r0 r1 hc' but => ?_⟩
      obtain ⟨n, rfl⟩ := Int.eq_ofNat_of_zero_le r0
      have hn : n < xs.length := by omega
      exact .inl ⟨p, xs, _, xs[n], rfl, rfl, SqL.of (but _ _ hpc hp), atI_nat (List.getElem?_eq_getElem hn), q _ _ (List.getElem_mem hn) hc' but⟩
    · have hl : z.length ≤ sizeLine := Nat.le_trans (Nat.le_of_lt h1) (by decide)
      refine ⟨_, rfl, _, rfl, _, rfl, _, z.length, rfl, ⟨hl, rfl⟩, c, z.length, rfl, hc, by omega, small _ h1, fun r H' r0 r1 hc' but => ?_⟩
      obtain ⟨n, rfl⟩ := Int.eq_ofNat_of_zero_le r0
      have hn : n < (cds z).length := by rw [cds_len]; omega
      exact .inr (.inr ⟨z, _, (cds z)[n], rfl, rfl, hl, atI_nat (List.getElem?_eq_getElem hn), q _ _ (List.getElem_mem hn) hc' but⟩)

def Signs (z : Str) : Prop := z = "ab" ∨ z = "xy" ∨ z = "a" ∨ z = "abc"
def spSigns : Sp := fun vs H Q _ => ∃ (c : Addr), vs = [.ref c] ∧ Cup H c ∧ ∀ z H', Signs z → Cup H' c → But c H H' → Q (.str z) H'
theorem Cup.same {H H' : Hp} {c : Addr} (s : Same H H') (h : Cup H c) : Cup H' c := let ⟨a, b, d, e⟩ := h; ⟨a, b, d, s _ _ e⟩
theorem Cup.ne {H : Hp} {c p : Addr} (h : Cup H c) (n : H p = none) : p ≠ c := by
  obtain ⟨a, b, d, e⟩ := h
  exact (ne_of_none e n).symm
end
end K4

set_option linter.all false
/-! rows of runs put together: the free group, by hand. A row lies with its last run ahead. -/
namespace Wm
variable {α : Type} [DecidableEq α]
/-- one more run behind a row -/
def push (p : α × Int) : List (α × Int) → List (α × Int)
  | [] => if p.2 = 0 then [] else [p]
  | q :: t => if p.2 = 0 then q :: t else if q.1 = p.1 then (if q.2 + p.2 = 0 then t else (q.1, q.2 + p.2) :: t) else p :: q :: t
/-- unlike neighbours, no exponent 0 -/
def Red : List (α × Int) → Prop
  | [] => True
  | [p] => p.2 ≠ 0
  | p :: q :: t => p.2 ≠ 0 ∧ p.1 ≠ q.1 ∧ Red (q :: t)
theorem Red.tail {p : α × Int} {t : List (α × Int)} (h : Red (p :: t)) : Red t := by
  cases t with
  | nil => trivial
  | cons q t => exact h.2.2
theorem Red.head {p : α × Int} {t : List (α × Int)} (h : Red (p :: t)) : p.2 ≠ 0 := by
  cases t with
  | nil => exact h
  | cons q t => exact h.1
theorem Red.swap {p : α × Int} {t : List (α × Int)} (h : Red (p :: t)) {n : Int} (hn : n ≠ 0) : Red ((p.1, n) :: t) := by
  cases t with
  | nil => exact hn
  | cons q t => exact ⟨hn, h.2.1, h.2.2⟩
theorem red_push {p : α × Int} {r : List (α × Int)} (h : Red r) : Red (push p r) := by
  cases r with
  | nil =>
    show Red (if p.2 = 0 then [] else [p])
    by_cases e : p.2 = 0
    · rw [if_pos e]
      trivial
    · rw [if_neg e]
      exact e
  | cons q t =>
    show Red (if p.2 = 0 then q :: t else if q.1 = p.1 then (if q.2 + p.2 = 0 then t else (q.1, q.2 + p.2) :: t) else p :: q :: t)
    by_cases e1 : p.2 = 0
    · rw [if_pos e1]
      exact h
    · rw [if_neg e1]
      by_cases e2 : q.1 = p.1
      · rw [if_pos e2]
        by_cases e3 : q.2 + p.2 = 0
        · rw [if_pos e3]
          exact h.tail
        · rw [if_neg e3]
          exact h.swap e3
      · rw [if_neg e2]
        exact ⟨e1, fun e => e2 e.symm, h⟩
theorem push_zero {x : α} {r : List (α × Int)} : push (x, 0) r = r := by
  cases r with
  | nil => rfl
  | cons q t => rfl
theorem push_push {x : α} {m n : Int} {r : List (α × Int)} (h : Red r) : push (x, n) (push (x, m) r) = push (x, m + n) r := by
  by_cases hm : m = 0
  · subst hm
    rw [push_zero, Int.zero_add]
  by_cases hn : n = 0
  · subst hn
    rw [push_zero, Int.add_zero]
  cases r with
  | nil =>
    have e1 : push (x, m) [] = [(x, m)] := if_neg hm
    rw [e1]
    show (if n = 0 then _ else if x = x then (if m + n = 0 then _ else _) else _) = (if m + n = 0 then _ else _)
    rw [if_neg hn, if_pos rfl]
  | cons q t =>
    by_cases hq : q.1 = x
    · have e1 : push (x, m) (q :: t) = if q.2 + m = 0 then t else (q.1, q.2 + m) :: t := by
        show (if m = 0 then _ else if q.1 = x then _ else _) = _
        rw [if_neg hm, if_pos hq]
      have e2 : push (x, m + n) (q :: t) = if m + n = 0 then q :: t else if q.2 + (m + n) = 0 then t else (q.1, q.2 + (m + n)) :: t := by
        show (if m + n = 0 then _ else if q.1 = x then _ else _) = _
        rw [if_pos hq]
      rw [e1, e2]
      by_cases h0 : q.2 + m = 0
      · rw [if_pos h0]
        have hne : q.2 ≠ 0 := h.head
        by_cases hmn : m + n = 0
        · -- n is q.2 again
          have en : n = q.2 := by omega
          rw [if_pos hmn, en]
          have hq' : q = (x, q.2) := by rw [← hq]
          cases t with
          | nil =>
            show (if q.2 = 0 then _ else [(x, q.2)]) = [q]
            rw [if_neg hne, ← hq']
          | cons u t =>
            show (if q.2 = 0 then _ else if u.1 = x then _ else (x, q.2) :: u :: t) = q :: u :: t
            have hu : ¬ u.1 = x := fun e => h.2.1 (hq.trans e.symm)
            rw [if_neg hne, if_neg hu, ← hq']
        · rw [if_neg hmn]
          have en : q.2 + (m + n) = n := by omega
          rw [en, if_neg hn]
          cases t with
          | nil =>
            show (if n = 0 then _ else [(x, n)]) = [(q.1, n)]
            rw [if_neg hn, hq]
          | cons u t =>
            have hu : ¬ u.1 = x := fun e => h.2.1 (hq.trans e.symm)
            show (if n = 0 then _ else if u.1 = x then _ else (x, n) :: u :: t) = (q.1, n) :: u :: t
            rw [if_neg hn, if_neg hu, hq]
      · rw [if_neg h0]
        show (if n = 0 then _ else if q.1 = x then (if q.2 + m + n = 0 then t else (q.1, q.2 + m + n) :: t) else _) = _
        rw [if_neg hn, if_pos hq]
        have ea : q.2 + m + n = q.2 + (m + n) := by omega
        rw [ea]
        by_cases hmn : m + n = 0
        · rw [if_pos hmn, hmn, Int.add_zero, if_neg h.head]
        · rw [if_neg hmn]
    · have e1 : push (x, m) (q :: t) = (x, m) :: q :: t := by
        show (if m = 0 then _ else if q.1 = x then _ else _) = _
        rw [if_neg hm, if_neg hq]
      rw [e1]
      show (if n = 0 then _ else if x = x then (if m + n = 0 then q :: t else (x, m + n) :: q :: t) else _) = (if m + n = 0 then q :: t else if q.1 = x then _ else (x, m + n) :: q :: t)
      rw [if_neg hn, if_pos rfl]
      by_cases hmn : m + n = 0
      · rw [if_pos hmn, if_pos hmn]
      · rw [if_neg hmn, if_neg hmn, if_neg hq]
/-- a row, and more runs behind it, the first one ahead -/
def joint (r : List (α × Int)) (l : List (α × Int)) : List (α × Int) := l.foldl (fun r p => push p r) r
theorem joint_app (r l k : List (α × Int)) : joint r (l ++ k) = joint (joint r l) k := List.foldl_append
theorem red_joint : ∀ {l r : List (α × Int)}, Red r → Red (joint r l)
  | [], _, h => h
  | p :: l, _, h => red_joint (l := l) (red_push h)
theorem joint_push {r c : List (α × Int)} (h : Red r) (hc : Red c) (p : α × Int) : joint r (push p c).reverse = push p (joint r c.reverse) := by
  obtain ⟨x, n⟩ := p
  by_cases hn : n = 0
  · subst hn
    rw [push_zero, push_zero]
  cases c with
  | nil =>
    have e : push (x, n) [] = [(x, n)] := if_neg hn
    rw [e]
    rfl
  | cons q t =>
    have ht : Red (joint r t.reverse) := red_joint h
    have er : joint r (q :: t).reverse = push q (joint r t.reverse) := by
      rw [List.reverse_cons, joint_app]
      rfl
    rw [er]
    by_cases hq : q.1 = x
    · have e1 : push (x, n) (q :: t) = if q.2 + n = 0 then t else (q.1, q.2 + n) :: t := by
        show (if n = 0 then _ else if q.1 = x then _ else _) = _
        rw [if_neg hn, if_pos hq]
      have eq' : q = (x, q.2) := by rw [← hq]
      have ep : push (x, n) (push q (joint r t.reverse)) = push (x, q.2 + n) (joint r t.reverse) := by
        rw [eq']
        exact push_push ht
      rw [e1, ep]
      by_cases h0 : q.2 + n = 0
      · rw [if_pos h0, h0, push_zero]
      · rw [if_neg h0, List.reverse_cons, joint_app, hq]
        rfl
    · have e1 : push (x, n) (q :: t) = (x, n) :: q :: t := by
        show (if n = 0 then _ else if q.1 = x then _ else _) = _
        rw [if_neg hn, if_neg hq]
      rw [e1, List.reverse_cons, joint_app, er]
      rfl
/-- what comes of a row of runs does the same as the row -/
theorem joint_joint {r : List (α × Int)} (h : Red r) : ∀ {l c : List (α × Int)}, Red c → joint r (joint c l).reverse = joint (joint r c.reverse) l
  | [], _, _ => rfl
  | p :: l, c, hc => by
    show joint r (joint (push p c) l).reverse = joint (push p (joint r c.reverse)) l
    rw [joint_joint h (red_push hc), joint_push h hc]
/-- a row that is put together is itself -/
theorem joint_self : ∀ {r : List (α × Int)}, Red r → joint [] r.reverse = r
  | [], _ => rfl
  | [p], h => if_neg h
  | p :: q :: t, h => by
    rw [List.reverse_cons, joint_app, joint_self h.tail]
    show (if p.2 = 0 then _ else if q.1 = p.1 then _ else p :: q :: t) = _
    rw [if_neg h.1, if_neg fun e => h.2.1 e.symm]
/-- the opposite exponents -/
def neg (l : List (α × Int)) : List (α × Int) := l.map fun p => (p.1, -p.2)
theorem joint_neg {r : List (α × Int)} (h : Red r) : ∀ c : List (α × Int), joint (joint r c.reverse) (neg c) = r
  | [] => rfl
  | p :: t => by
    rw [List.reverse_cons, joint_app]
    show joint (push (p.1, -p.2) (push p (joint r t.reverse))) (neg t) = r
    have e : push (p.1, -p.2) (push p (joint r t.reverse)) = joint r t.reverse := by
      have := push_push (x := p.1) (m := p.2) (n := -p.2) (red_joint (l := t.reverse) h)
      rw [Int.add_right_neg, push_zero] at this
      exact this
    rw [e]
    exact joint_neg h t
theorem joint_neg' {r : List (α × Int)} (h : Red r) : ∀ c : List (α × Int), joint (joint r (neg c)) c.reverse = r
  | c => by
    have e : neg (neg c).reverse = c.reverse := by
      unfold neg
      rw [List.map_reverse, List.map_map]
      have : ((fun p : α × Int => (p.1, -p.2)) ∘ fun p : α × Int => (p.1, -p.2)) = id := funext fun p => by simp
      rw [this, List.map_id]
    have := joint_neg h (neg c).reverse
    rw [List.reverse_reverse, e] at this
    exact this
theorem red_neg_rev : ∀ {c : List (α × Int)}, Red c → Red (neg c).reverse := by
  intro c hc
  have : ∀ (c acc : List (α × Int)), Red c → Red acc → (∀ p q, c.head? = some p → acc.head? = some q → p.1 ≠ q.1) → Red ((neg c).reverseAux acc) := by
    intro c
    induction c with
    | nil => intro acc _ h _; exact h
    | cons p t ih =>
      intro acc h1 h2 h3
      refine ih ((p.1, -p.2) :: acc) h1.tail ?_ ?_
      · have hp : -p.2 ≠ 0 := by
          have := h1.head
          omega
        cases acc with
        | nil => exact hp
        | cons q acc => exact ⟨hp, h3 p q rfl rfl, h2⟩
      · intro u q hu hq
        cases hq
        cases t with
        | nil => cases hu
        | cons v t =>
          cases hu
          exact fun e => h1.2.1 e.symm
  exact this c [] hc trivial fun p q _ h => by cases h
/-! the group of all rows that are put together -/
/-- one word, another one behind it -/
def mul (a b : List (α × Int)) : List (α × Int) := joint a b.reverse
def inv (a : List (α × Int)) : List (α × Int) := (neg a).reverse
theorem red_mul {a b : List (α × Int)} (h : Red a) : Red (mul a b) := red_joint h
theorem red_inv {a : List (α × Int)} (h : Red a) : Red (inv a) := red_neg_rev h
theorem mul_assoc {a b c : List (α × Int)} (ha : Red a) (hb : Red b) : mul (mul a b) c = mul a (mul b c) := (joint_joint ha hb).symm
theorem mul_nil (a : List (α × Int)) : mul a [] = a := rfl
theorem nil_mul {a : List (α × Int)} (h : Red a) : mul [] a = a := joint_self h
theorem mul_inv {a : List (α × Int)} (h : Red a) : mul a (inv a) = [] := by
  unfold mul inv
  rw [List.reverse_reverse]
  have := joint_neg (r := ([] : List (α × Int))) trivial a
  rw [joint_self h] at this
  exact this
theorem inv_mul {a : List (α × Int)} (h : Red a) : mul (inv a) a = [] := by
  have e := joint_neg' (r := ([] : List (α × Int))) trivial a
  have : joint [] (neg a) = inv a := by
    have := joint_self (red_inv h)
    unfold inv at this ⊢
    rw [List.reverse_reverse] at this
    exact this
  rw [this] at e
  exact e
end Wm

set_option Elab.async false
set_option linter.all false
set_option maxRecDepth 100000
set_option maxHeartbeats 3200000
namespace K4
open PySem L2 Tx Tg Tm
/-! ### rows of runs on the heap -/
abbrev Row := List (Str × Int)
def PairAt (H : Hp) (y : V) (p : Str × Int) : Prop := ∃ t, y = .ref t ∧ H t = some (.tup [.str p.1, .int p.2])
abbrev PairsAt (H : Hp) (ys : List V) (l : Row) : Prop := PySem.W.EachIs (PairAt H) ys l
theorem PairsAt.same {H H' : Hp} (s : Same H H') {ys : List V} {l : Row} (h : PairsAt H ys l) : PairsAt H' ys l := h.mono fun y p ⟨t, e1, e2⟩ => ⟨t, e1, s _ _ e2⟩
theorem PairsAt.put {H : Hp} {p : Addr} {o : HO} {xs : List V} (hp : H p = some (.lst xs)) {ys : List V} {l : Row} (h : PairsAt H ys l) : PairsAt (upd H p o) ys l := h.mono fun y q ⟨t, e1, e2⟩ => ⟨t, e1, by
  rw [upd_ne fun e => ?_]
  · exact e2
  · rw [e, hp] at e2
    cases e2⟩
theorem each_app {α β : Type} {R : α → β → Prop} : ∀ {as : List α} {bs : List β} {cs : List α} {ds : List β}, PySem.W.EachIs R as bs → PySem.W.EachIs R cs ds → PySem.W.EachIs R (as ++ cs) (bs ++ ds)
  | _, _, _, _, .nil, h => h
  | _, _, _, _, .cons r rs, h => .cons r (each_app rs h)
theorem each_rev {α β : Type} {R : α → β → Prop} : ∀ {as : List α} {bs : List β}, PySem.W.EachIs R as bs → PySem.W.EachIs R as.reverse bs.reverse
  | _, _, .nil => .nil
  | _, _, .cons r rs => by
    rw [List.reverse_cons, List.reverse_cons]
    exact each_app (each_rev rs) (.cons r .nil)
/-- a tuple of pairs of a text and an int -/
def TupRow (K : PySem.W.Frag) (H : Hp) (a : Addr) (l : Row) : Prop := ∃ ys, SqT K H a ys ∧ PairsAt H ys l
theorem same_put {H H' : Hp} {D : Addr} {o : HO} (s : Same H H') (n : H D = none) : Same H (upd H' D o) := fun b u e => by
  rw [upd_ne (ne_of_none e n)]
  exact s b u e
theorem free_none {H H' : Hp} {p : Addr} (s : Same H H') (n : H' p = none) : H p = none := by
  cases hh : H p with
  | none => rfl
  | some o =>
    have := s _ _ hh
    rw [n] at this
    cases this
/-- what is left of pairs -/
def rowOf (l : Row) : Row := (Wm.joint [] l).reverse
theorem joint_take {l : Row} {i : Nat} {p : Str × Int} (h : l[i]? = some p) : Wm.joint [] (l.take (i + 1)) = Wm.push p (Wm.joint [] (l.take i)) := by
  rw [List.take_add_one, h]
  exact Wm.joint_app _ _ _
theorem joint_len : ∀ (l r : Row), (Wm.joint r l).length ≤ r.length + l.length
  | [], r => Nat.le_refl _
  | p :: l, r => by
    have h1 : (Wm.push p r).length ≤ r.length + 1 := by
      cases r with
      | nil =>
        show (if p.2 = 0 then ([] : Row) else [p]).length ≤ 1
        split <;> simp
      | cons q t =>
        show (if p.2 = 0 then q :: t else if q.1 = p.1 then (if q.2 + p.2 = 0 then t else (q.1, q.2 + p.2) :: t) else p :: q :: t).length ≤ _
        split
        · simp
        · split
          · split
            · simp; omega
            · simp
          · simp
    have h2 := joint_len l (Wm.push p r)
    show (Wm.joint (Wm.push p r) l).length ≤ _
    rw [List.length_cons]
    omega
abbrev nJoin : List Str := ["pairs", "runs", "letter", "exponent", "together"]
section
variable {P : Program} {w : World} {K : PySem.W.Frag} {mg : Str → Option Value} {base : Heap}
theorem join_tail {D : Ends} {H H2 : Hp} {p : Addr} {v0 v3 : Option V} {x : Str} {m : Int} {zs : List V} {acc res : Row} (s2 : Same H H2) (np : H p = none) (e2 : H2 p = some (.lst zs.reverse)) (hz : PairsAt H2 zs acc) (hl : acc.length ≤ 2000000)
    (hres : (if m = 0 then acc else (x, m) :: acc) = res) (q : ∀ H3 zs', Same H H3 → H3 p = some (.lst zs'.reverse) → PairsAt H3 zs' res → D.nx [v0, some (.ref p), some (.str x), v3, some (.int m)] H3) :
    tIfS (tTest (tOp rNe (tVar 4) (tC (V.int 0)))) (tDrop (tBM K "list" rAppend (tVar 1) (tCons (tTup (tCons (tVar 2) (tCons (tVar 4) tNil))) tNil))) tNext D [v0, some (.ref p), some (.str x), v3, some (.int m)] H2 := by
  refine ⟨_, rfl, rfl, _, rfl, ?_⟩
  rw [dec_int]
  by_cases hm : m = 0
  · rw [if_pos hm] at hres
    have e : (!(m == 0)) = false := by rw [hm]; rfl
    rw [e]
    rw [← hres] at q
    exact iteF (q H2 zs s2 e2 hz)
  · rw [if_neg hm] at hres
    have e : (!(m == 0)) = true := by rw [beq_eq_false_iff_ne.mpr hm]; rfl
    rw [e]
    refine iteT ?_
    refine ⟨_, rfl, .inl ⟨rfl, _, SqL.of e2⟩, _, rfl, _, rfl, by show 2 ≤ sizeLine; decide, fun pt npt => ?_⟩
    have e3 := (same_upd (o := .tup [.str x, .int m]) npt) _ _ e2
    have nPp : pt ≠ p := (ne_of_none e2 npt).symm
    refine ⟨p, _, _, rfl, rfl, e3, ?_, ?_⟩
    · rw [List.length_reverse, hz.length]
      exact Nat.lt_of_le_of_lt hl (by decide)
    · refine q _ (.ref pt :: zs) (same_put (s2.trans (same_upd npt)) np) ?_ ?_
      · rw [upd_same, List.reverse_cons]
      · rw [← hres]
        exact .cons ⟨pt, rfl, by rw [upd_ne nPp, upd_same]⟩ ((hz.same (same_upd npt)).put e3)
def spJoin (K : PySem.W.Frag) : Sp := fun vs H Q _ => ∃ (a : Addr) (l : Row), vs = [.ref a] ∧ TupRow K H a l ∧ l.length ≤ 1000000 ∧ ∀ p H' ys, H p = none → Same H H' → H' p = some (.tup ys) → PairsAt H' ys (rowOf l) → Q (.ref p) H'
theorem scJoin : FnScope nJoin ["pairs"] (defScope sJoin) := ⟨rfl, rfl, rfl, by decide +kernel, rfl, by decide +kernel, by decide +kernel⟩
theorem ok_join {f : Addr} {fd : FuncData} (F : Fun K "joined_runs" "joined_runs" sJoin f fd) (T : Txt K mg) : FnOk P w K mg base CX0 1 f fd ["pairs"] (spJoin K) := by
  refine F.ok scJoin (fun vs H Q E h => ?_) (fun cdv A outer s H vs Q E hr h => ?_)
  · obtain ⟨a, l, rfl, _⟩ := h
    rfl
  · obtain ⟨a, l, rfl, ⟨ys0, ha, hp0⟩, hl, q⟩ := h
    refine ⟨_, pss_cons (ps_set (i := 1) scJoin.nd rfl (Or.inl rfl) (pe_lst pa_nil))
      (pss_cons (ps_for PassesOwn.never rfl (pi_tup (pv 0)) (pg_tup rfl (pgs_cons (pg_name (i := 2) scJoin.nd rfl (Or.inl rfl)) (pgs_cons (pg_name (i := 3) scJoin.nd rfl (Or.inl rfl)) pgs_nil)))
        (pss_cons (ps_set (i := 4) scJoin.nd rfl (Or.inl rfl) (pv 3))
        (pss_cons (ps_if (PW.pt (pw_and (pt_truth (pv 1) (by intro _; rfl)) (pw_and1 (pt_cmpR op_eq (pe_ix ix_tup (pe_ix ix_list (pv 1) (pe_un un_neg pe_int) (fun _ _ => rfl)) pe_int (fun _ _ => rfl)) (pv 2) (nomark _)))))
          (pss_one (ps_set (i := 4) scJoin.nd rfl (Or.inl rfl) (pe_op op_add (pv 3) (pe_ix ix_tup (pe_bm0 PySem.F.plainAttrs_list PySem.F.slot_list_pop PySem.F.type_list_pop mt_pop (pv 1)) pe_int (fun _ _ => rfl))))) pss_nil)
        (pss_one (ps_if (pt_cmpR op_ne (pv 4) pe_int (nomark _)) (pss_one (ps_expr (pe_bm PySem.F.plainAttrs_list PySem.F.slot_list_append PySem.F.type_list_append mt_append (pv 1) (pa_cons (pe_tup (pa_cons (pv 2) (pa_cons (pv 4) pa_nil))) pa_nil)))) pss_nil)))))
      (pss_one (ps_ret (pe_callTy call_tuple_of (by rfl) T.tuple (by decide +kernel) (pa_cons (pv 1) pa_nil))))), ?_⟩
    refine ⟨by decide, fun p np => ?_⟩
    have s0 : Same H (upd H p (.lst [])) := same_upd np
    have sT : ∀ {H'}, Same H H' → SqT K H' a ys0 := fun s => by
      rcases ha with h | h
      · rcases h with h | ⟨o, h⟩
        · exact .inl (.inl (s _ _ h))
        · exact .inl (.inr ⟨o, s _ _ h⟩)
      · exact .inr h
    have hlen : ys0.length = l.length := hp0.length
    refine ⟨_, rfl, a, rfl, ⟨_, sT s0⟩, ?_⟩
    refine for_tup (xs := ys0) (fun i σ H1 => ∃ (t2 t3 t4 : Option V) (zs : List V), σ = [some (.ref a), some (.ref p), t2, t3, t4] ∧ Same H H1 ∧ H1 p = some (.lst zs.reverse) ∧ PairsAt H1 zs (Wm.joint [] (l.take i)))
      ⟨none, none, none, [], rfl, s0, upd_same, .nil⟩ (fun i σ H1 _ z => by obtain ⟨_, _, _, _, _, s, _⟩ := z; exact sT s) ?_ ?_
    · rintro i x σ H1 hx ⟨t2, t3, t4, zs, rfl, s1, e1, hz⟩
      have hi := (List.getElem?_eq_some_iff.mp hx).1
      have hi' : i < l.length := by omega
      obtain ⟨t, rfl, et⟩ : PairAt H x l[i] := hp0.zip (x, l[i]) (List.mem_of_getElem? (i := i) (by rw [List.getElem?_zip_eq_some]; exact ⟨hx, List.getElem?_eq_getElem hi'⟩))
      rw [joint_take (List.getElem?_eq_getElem hi')]
      have hred : Wm.Red (Wm.joint [] (l.take i)) := Wm.red_joint (r := ([] : Row)) trivial
      have hjl : (Wm.joint [] (l.take i)).length ≤ i := by
        have := joint_len (l.take i) []
        rw [List.length_take, List.length_nil] at this
        omega
      have hzl := hz.length
      generalize l[i] = pr at et ⊢
      generalize Wm.joint [] (l.take i) = acc at hz hred hjl hzl ⊢
      refine ⟨t, _, rfl, SqT.of (s1 _ _ et), rfl, _, _, rfl, _, _, rfl, rfl, ?_⟩
      refine ⟨_, rfl, ?_⟩
      have hres : ∀ {m : Int} {c r : Row}, (if m = 0 then c else (pr.1, m) :: c) = r → (if m = 0 then c else (pr.1, m) :: c) = r := fun h => h
      cases hz with
      | nil =>
        refine ⟨_, rfl, false, .inl ⟨_, SqL.of e1, rfl⟩, iteF ?_⟩
        exact join_tail (acc := []) s1 np e1 .nil (Nat.zero_le _) rfl fun H3 zs' a1 a2 a3 => ⟨_, _, _, zs', rfl, a1, a2, a3⟩
      | @cons z c zs' acc' hzc hz' =>
        have hb : (z :: zs').reverse = zs'.reverse ++ [z] := List.reverse_cons ..
        obtain ⟨tz, rfl, etz⟩ := hzc
        have hne : (!((V.ref tz :: zs').reverse).isEmpty) = true := by rw [hb]; simp
        refine ⟨_, rfl, true, .inl ⟨_, SqL.of e1, hne.symm⟩, iteT ?_⟩
        refine ⟨_, rfl, _, rfl, p, _, _, .ref tz, rfl, rfl, SqL.of e1, by rw [hb]; exact atI_last _ _, tz, _, _, .str c.1, rfl, rfl, SqT.of etz, rfl, _, rfl, rfl, _, rfl, ?_⟩
        have hs : decide (V.str c.1 = V.str pr.1) = decide (c.1 = pr.1) := decide_eq_decide.mpr ⟨fun e => by injection e, fun e => by rw [e]⟩
        rw [hs]
        have hcl : acc'.length ≤ 1000000 := by
          rw [List.length_cons] at hjl
          omega
        by_cases hc : c.1 = pr.1
        · rw [decide_eq_true hc]
          refine iteT ?_
          refine ⟨_, rfl, _, rfl, .inl ⟨rfl, _, SqL.of e1⟩, p, _, .ref tz, rfl, rfl, e1, ?_, ?_⟩
          · rw [hb, List.length_append, List.length_singleton, Nat.add_sub_cancel, List.getElem?_append_right (Nat.le_refl _), Nat.sub_self]
            rfl
          have hd : ((V.ref tz :: zs').reverse).dropLast = zs'.reverse := by rw [hb, List.dropLast_concat]
          rw [hd]
          have ntp : tz ≠ p := fun e => by
            rw [e, e1] at etz
            cases etz
          refine ⟨tz, _, _, .int c.2, rfl, rfl, SqT.of (by rw [upd_ne ntp]; exact etz), rfl, _, _, rfl, rfl, ?_⟩
          refine join_tail (acc := acc') (same_put s1 np) np upd_same (PairsAt.put e1 hz') (by omega) ?_ fun H3 zs'' a1 a2 a3 => ⟨_, _, _, zs'', rfl, a1, a2, a3⟩
          show _ = (if pr.2 = 0 then c :: acc' else if c.1 = pr.1 then (if c.2 + pr.2 = 0 then acc' else (c.1, c.2 + pr.2) :: acc') else pr :: c :: acc')
          have hc2 : c.2 ≠ 0 := hred.head
          have ea : pr.2 + c.2 = c.2 + pr.2 := Int.add_comm _ _
          rw [ea]
          by_cases h0 : pr.2 = 0
          · rw [if_pos h0, h0, Int.add_zero, if_neg hc2, ← hc]
          · rw [if_neg h0, if_pos hc, hc]
        · rw [decide_eq_false hc]
          refine iteF ?_
          refine join_tail (acc := c :: acc') s1 np e1 (.cons ⟨tz, rfl, etz⟩ hz') (by rw [List.length_cons]; omega) ?_ fun H3 zs'' a1 a2 a3 => ⟨_, _, _, zs'', rfl, a1, a2, a3⟩
          show _ = (if pr.2 = 0 then c :: acc' else if c.1 = pr.1 then _ else pr :: c :: acc')
          rw [if_neg hc]
    · rintro σ H1 ⟨t2, t3, t4, zs, rfl, s1, e1, hz⟩
      have et : l.take ys0.length = l := List.take_of_length_le (by omega)
      rw [et] at hz
      refine ⟨_, rfl, p, _, rfl, .inl ⟨SqL.of e1, fun pl npl => ?_⟩⟩
      exact q pl _ _ (free_none s1 npl) (s1.trans (same_upd npl)) upd_same (PairsAt.same (same_upd npl) (each_rev hz))
end
end K4

set_option Elab.async false
set_option linter.all false
set_option maxRecDepth 100000
set_option maxHeartbeats 3200000
/-! a tuple backwards: t[::-1] -/
namespace K4
open PySem PySem.Spec PyProof.Rows L2 Tx Tg Tm
theorem back_adjust (n : Nat) : Builtin.Slice.sliceAdjust none none (-1) (n : Int) = ((n : Int) - 1, -1) := rfl
theorem back_places (n : Nat) : Builtin.Slice.slicePlaces ((n : Int) - 1) (-1) (-1) = n := by
  show (if (-1 : Int) > 0 then _ else (if (n : Int) - 1 > -1 then ((n : Int) - 1 - -1 - 1) / (- -1) + 1 else 0)).toNat = n
  rw [if_neg (by decide)]
  by_cases h : (n : Int) - 1 > -1
  · rw [if_pos h]
    have e : ((n : Int) - 1 - -1 - 1) / (- -1) = (n : Int) - 1 := by
      rw [show (- -1 : Int) = 1 by decide, Int.ediv_one]
      omega
    rw [e]
    omega
  · rw [if_neg h]
    omega
theorem fm_congr {α β : Type} {f g : α → Option β} : ∀ {l : List α}, (∀ x ∈ l, f x = g x) → l.filterMap f = l.filterMap g
  | [], _ => rfl
  | x :: l, h => by
    rw [List.filterMap_cons, List.filterMap_cons, h x List.mem_cons_self, fm_congr fun y hy => h y (List.mem_cons_of_mem _ hy)]
theorem back_pick (xs : Array Value) : ((List.range xs.size).filterMap fun (k : Nat) => xs[((xs.size : Int) - 1 + (k : Int) * -1).toNat]?).toArray = xs.toList.reverse.toArray := by
  have e : (List.range xs.size).filterMap (fun (k : Nat) => xs[((xs.size : Int) - 1 + (k : Int) * -1).toNat]?) = (List.range xs.size).reverse.filterMap (xs[·]?) := by
    rw [← PySem.W.krv_range, List.filterMap_map]
    refine fm_congr fun k hk => ?_
    have := List.mem_range.mp hk
    have en : ((xs.size : Int) - 1 + (k : Int) * -1).toNat = xs.size - 1 - k := by omega
    show xs[_]? = xs[xs.size - 1 - k]?
    rw [en]
  rw [e, List.filterMap_reverse, PySem.W.krv_all]
section
variable {prog : Program} {w : World} {A : Around} {E : Value → Shared → Prop} {s : Shared}
theorem tup_back {t sl : Addr} {items : Array Value} {vs : Value} {Q : Value → Shared → Prop} (ht : IsTup s.heap t items) (hs : s.heap.IsSliceOf sl .none .none vs) (ps : IsPart vs (some (-1))) (hsz : items.size ≤ sizeLine)
    (h : Q (.ref s.heap.objs.size) { s with heap := s.heap.push { cls := .type "tuple", data := .seq items.toList.reverse.toArray } }) : wpAny (model prog w) A (getItem (.ref t) (.ref sl)) Q E s := by
  obtain ⟨os, hos, hcs, hds⟩ := id hs
  have tS : s.TypeIs (.ref sl) "slice" := ⟨os, hos, hcs⟩
  have big : sizeOk (.seq items.toList.reverse.toArray) := by
    show items.toList.reverse.toArray.size ≤ sizeLine
    rw [List.size_toArray, List.length_reverse, Array.length_toList]
    exact hsz
  have applied : ∀ {R : Int × Int × Nat → Shared → Prop} {E' : Value → Shared → Prop} {B : Around}, R ((items.size : Int) - 1, -1, items.size) s → wpAny (model prog w) B (Builtin.Slice.sliceApplied (.ref sl) (pure (items.size : Int))) R E' s := by
    intro R E' B hR
    unfold Builtin.Slice.sliceApplied Builtin.Slice.sliceFields
    refine wpAny_bind (wpAny_bind (wpAny_field hos hds (x := .none) rfl (wpAny_bind (wpAny_field hos hds (x := .none) rfl (wpAny_bind (wpAny_field hos hds (x := vs) rfl (wpAny_pure ?_)))))))
    refine wpAny_bind (HT.slicePart_ ps ?_)
    show wpAny _ _ (if ((-1 : Int) == 0) = true then _ else _) _ _ s
    rw [if_neg (by decide)]
    refine wpAny_bind (HT.slicePart_ .none (wpAny_bind (HT.slicePart_ .none (wpAny_bind (wpAny_pure ?_)))))
    show wpAny _ _ (match Builtin.Slice.sliceAdjust none none (-1) (items.size : Int) with | (lo, hi) => pure (lo, (-1 : Int), Builtin.Slice.slicePlaces lo hi (-1))) _ _ s
    rw [back_adjust]
    show wpAny _ _ (pure ((items.size : Int) - 1, (-1 : Int), Builtin.Slice.slicePlaces ((items.size : Int) - 1) (-1) (-1))) _ _ s
    rw [back_places]
    exact wpAny_pure hR
  unfold getItem
  try with_reducible refine wpAny_holding ?_
  first | refine wpAny_bind (wpAny_pure ?_) | skip
  refine wpAny_bind (wpAny_sequenceKey ht.typeIs (by decide) (wpAny_bind (wpAny_callSpecial?_slot (name := Str.ofString "__getitem__") ht.typeIs PyProof.Rows.slot_tuple_getitem
    (wpAny_call_entry PyProof.Rows.slot_tuple_getitem ht.typeIs entry_tuple_getitem ?_ (args_tuple_getitem _ _)))))
  show wpAny _ _ (Builtin.Tuple.tupleItemsOf (.ref t) >>= _) _ _ s
  refine wpAny_bind (tupleItemsOf_ ht (wpAny_bind (wpAny_typeOf tS ?_)))
  rw [if_pos (by decide)]
  refine wpAny_bind (applied ?_)
  have no : ¬ ((((items.size : Int) - 1) == 0 && (-1 : Int) == 1 && items.size == items.size) = true) := by
    rw [Bool.and_eq_true, Bool.and_eq_true]
    exact fun q => absurd q.1.2 (by decide)
  show wpAny _ _ (if (((items.size : Int) - 1) == 0 && (-1 : Int) == 1 && items.size == items.size) = true then _ else _) _ _ s
  rw [if_neg no, back_pick]
  first
    | exact wpAny_bind (m := Builtin.Tuple.tupleExact _) (wpAny_newObj_type (wpAny_pure ⟨_, rfl, wpAny_pure h⟩) big)
    | exact wpAny_bind (m := Builtin.Tuple.tupleExact _) (wpAny_newObj_type (wpAny_bind (wpAny_pure (wpAny_pure ⟨_, rfl, wpAny_pure h⟩))) big)
    | exact wpAny_bind (wpAny_bind (m := Builtin.Tuple.tupleExact _) (wpAny_newObj_type (wpAny_pure (wpAny_pure ⟨_, rfl, wpAny_pure h⟩)) big))
    | exact wpAny_bind (wpAny_bind (m := Builtin.Tuple.tupleExact _) (wpAny_newObj_type (wpAny_pure ⟨_, rfl, wpAny_pure h⟩) big))
end
section
variable {X : Cx}
def tBackT (K : PySem.W.Frag) (te : TE) : TE := fun σ H Q => te σ H fun x H1 => ∃ a xs, x = .ref a ∧ SqT K H1 a xs ∧ ∀ p, H1 p = none → Q (.ref p) (upd H1 p (.tup xs.reverse))
theorem pe_backT {e : Expr} {te : TE} {k : Nat} {p1 p2 p3 pos : Pos} (he : PE X e te) : PE X (.Subscript e (.Slice none none (some (.UnaryOp .USub (.Constant (.int 1) k p1) p2)) p3) pos) (tBackT X.K te) := by
  refine ⟨fun pins s σ H Q I h => Subscript_ (thn (he.run pins s σ H _ I h) fun v s1 ⟨x, H1, I1, r1, a, xs, ex, hx, q⟩ => ?_)⟩
  subst ex
  cases r1
  have minus : PO X (some (.UnaryOp .USub (.Constant (.int 1) k p1) p2)) (tPart (tUn (rU fun i => .int (-i)) (tC (.int 1)))) := po_some (pe_un un_neg pe_int)
  refine wpAny_Slice (thn (po_none.run pins s1 σ H1 (fun o H2 => o = none ∧ H2 = H1) I1 ⟨rfl, rfl⟩) fun vl s2 ⟨l, H2, I2, pl, el, e2⟩ => ?_)
  subst el e2
  refine thn (po_none.run pins s2 σ H2 (fun o H3 => o = none ∧ H3 = H2) I2 ⟨rfl, rfl⟩) fun vu s3 ⟨u, H3, I3, pu, eu, e3⟩ => ?_
  subst eu e3
  refine thn (minus.run pins s3 σ H3 (fun o H4 => o = some (-1) ∧ H4 = H3) I3 ⟨1, rfl, -1, rfl, rfl, rfl⟩) fun vs s4 ⟨o, H4, I4, ps, eo, e4⟩ => ?_
  subst eo e4
  have I5 : Inv X pins σ H4 { s4 with heap := s4.heap.push { cls := .type "slice", data := .fields #[vl, vu, vs] } } := I4.kept (t' := s4.toks) fun b ob q => Heap.get?_push_of_some _ q
  obtain ⟨its, r, ht, hz⟩ := I5.tuple hx
  have hlen := r.length
  cases pl
  cases pu
  show wpAny (model X.prog X.w) X.A (subscriptTail e (.Slice none none (some (.UnaryOp .USub (.Constant (.int 1) k p1) p2)) p3) (.ref a) (.ref s4.heap.objs.size)) (EP X pins σ Q) X.xe { s4 with heap := s4.heap.push { cls := .type "slice", data := .fields #[.none, .none, vs] } }
  refine tail_any (ops := [.ref a, .ref s4.heap.objs.size]) ht.typeIs PyProof.Rows.slot_tuple_getitem.lookup ?_ (by with_unfolding_all rfl)
  refine tup_back ht (Heap.IsSliceOf.new _ .none .none vs) ps (by rw [List.size_toArray]; omega) ?_
  refine ⟨.ref _, _, I5.laid (t' := s4.toks) (o := .tup xs.reverse) (fun b ob q => Heap.get?_push_of_some _ q) (Nat.le_refl _) ?_, rfl, q _ (I5.hok.fresh (Nat.le_refl _))⟩
  exact ⟨by rw [List.length_reverse]; exact hz, _, r.reverse, IsTup.new _ _⟩
end
end K4

set_option Elab.async false
set_option linter.all false
set_option maxRecDepth 100000
set_option maxHeartbeats 3200000
namespace K4
open PySem L2 Tx Tg Tm
theorem TupRow.same {K : PySem.W.Frag} {H H' : Hp} {a : Addr} {l : Row} (s : Same H H') (h : TupRow K H a l) : TupRow K H' a l := by
  obtain ⟨ys, ha, hp⟩ := h
  refine ⟨ys, ?_, hp.same s⟩
  rcases ha with h | h
  · rcases h with h | ⟨o, h⟩
    · exact .inl (.inl (s _ _ h))
    · exact .inl (.inr ⟨o, s _ _ h⟩)
  · exact .inr h
theorem TupRow.new {K : PySem.W.Frag} {H : Hp} {a : Addr} {ys : List V} {l : Row} (h : H a = some (.tup ys)) (p : PairsAt H ys l) : TupRow K H a l := ⟨ys, SqT.of h, p⟩
/-- behind one another -/
def rCatRow (K : PySem.W.Frag) : R2 := fun x y H Q => ∃ a b l k, x = .ref a ∧ y = .ref b ∧ TupRow K H a l ∧ TupRow K H b k ∧ l.length + k.length ≤ 10000000 ∧ ∀ p H', Same H H' → TupRow K H' p (l ++ k) → Q (.ref p) H'
theorem op_catRow {X : Cx} : OpR X (binaryOp .Add) (rCatRow X.K) := by
  intro pins s σ H x y v u Q I rx ry h
  obtain ⟨a, b, l, k, rfl, rfl, ⟨xs, hx, px⟩, ⟨ys, hy, py⟩, hl, q⟩ := h
  refine op_catA pins s σ H _ _ v u Q I rx ry ⟨a, b, xs, ys, rfl, rfl, hx, hy, ?_, fun e => ?_, fun _ e => ?_, fun _ _ p np => ?_⟩
  · rw [px.length, py.length]
    exact Nat.le_trans hl (by decide)
  · subst e
    cases px
    exact q b H (Same.refl H) ⟨ys, hy, py⟩
  · subst e
    cases py
    rw [List.append_nil] at q
    exact q a H (Same.refl H) ⟨xs, hx, px⟩
  · exact q p _ (same_upd np) (.new upd_same (PairsAt.same (same_upd np) (each_app px py)))
/-- the word undone, the first run ahead -/
def undo (l : Row) : Row := (Wm.neg l).reverse
theorem undo_eq (l : Row) : undo l = l.reverse.map fun p => (p.1, -p.2) := by
  unfold undo Wm.neg
  rw [List.map_reverse]
theorem undo_len (l : Row) : (undo l).length = l.length := by
  rw [undo_eq, List.length_map, List.length_reverse]
theorem rowOf_len (l : Row) : (rowOf l).length ≤ l.length := by
  unfold rowOf
  rw [List.length_reverse]
  have := joint_len l []
  rw [List.length_nil] at this
  omega
section
variable {P : Program} {w : World} {K : PySem.W.Frag} {mg : Str → Option Value} {base : Heap}
def spRow1 (K : PySem.W.Frag) (g : Row → Row) : Sp := fun vs H Q _ => ∃ (a : Addr) (l : Row), vs = [.ref a] ∧ TupRow K H a l ∧ l.length ≤ 1000000 ∧ ∀ p H', Same H H' → TupRow K H' p (g l) → Q (.ref p) H'
theorem ok_join' {f : Addr} {fd : FuncData} (F : Fun K "joined_runs" "joined_runs" sJoin f fd) (T : Txt K mg) : FnOk P w K mg base CX0 1 f fd ["pairs"] (spRow1 K rowOf) :=
  (ok_join F T).imp fun vs H Q E h => by
    obtain ⟨a, l, rfl, hr, hl, q⟩ := h
    exact ⟨a, l, rfl, hr, hl, fun p H' ys _ s e hp => q p H' s (.new e hp)⟩
theorem scUndo : FnScope ["runs", "letter", "exponent"] ["runs"] (defScope sUndo) := ⟨rfl, rfl, rfl, by decide +kernel, rfl, by decide +kernel, by decide +kernel⟩
/-- the step of both: the comprehension's invariant -/
def UInv (K : PySem.W.Frag) (H2 : Hp) (D : Addr) (l : Row) (i : Nat) (H3 : Hp) : Prop := Same H2 H3 ∧ ∃ zs, H3 D = some (.lst zs) ∧ PairsAt H3 zs ((l.reverse.take i).map fun p => (p.1, -p.2))
theorem ustep {K : PySem.W.Frag} {H2 H3 : Hp} {D : Addr} {l : Row} {i : Nat} {pr : Str × Int} (hD : H2 D = none) (h : UInv K H2 D l i H3) (hi : l.reverse[i]? = some pr) (hl : l.length ≤ 1000000) {pt : Addr} (npt : H3 pt = none) :
    ∃ acc, (upd H3 pt (.tup [.str pr.1, .int (-pr.2)])) D = some (.lst acc) ∧ acc.length < sizeLine ∧ UInv K H2 D l (i + 1) (upd (upd H3 pt (.tup [.str pr.1, .int (-pr.2)])) D (.lst (acc ++ [.ref pt]))) := by
  obtain ⟨s3, zs, e3, hz⟩ := h
  have e4 := (same_upd (o := .tup [.str pr.1, .int (-pr.2)]) npt) _ _ e3
  have nPD : pt ≠ D := (ne_of_none e3 npt).symm
  refine ⟨zs, e4, ?_, same_put (s3.trans (same_upd npt)) hD, zs ++ [.ref pt], upd_same, ?_⟩
  · rw [hz.length, List.length_map, List.length_take, List.length_reverse]
    exact Nat.lt_of_le_of_lt (show _ ≤ 1000000 by omega) (by decide)
  · rw [List.take_add_one, hi, List.map_append]
    exact each_app (PairsAt.put e4 (PairsAt.same (same_upd npt) hz)) (.cons ⟨pt, rfl, by rw [upd_ne nPD, upd_same]⟩ .nil)
theorem ok_undone {f : Addr} {fd : FuncData} (F : Fun K "undone_runs" "undone_runs" sUndo f fd) (T : Txt K mg) : FnOk P w K mg base CX0 1 f fd ["runs"] (spRow1 K undo) := by
  refine F.ok scUndo (fun vs H Q E h => ?_) (fun cdv A outer s H vs Q E hr h => ?_)
  · obtain ⟨a, l, rfl, _⟩ := h
    rfl
  · obtain ⟨a, l, rfl, ⟨ys, ha, hp⟩, hl, q⟩ := h
    refine ⟨_, pss_one (ps_ret (pe_callTy call_tuple_of (by rfl) T.tuple (by decide +kernel) (pa_cons (pe_lc (own := [("letter", 1), ("exponent", 2)]) (g := gTup K 2 (gCons (gName 1) (gCons (gName 2) gNil))) (tt := tYes) rfl scUndo.nd (pi_tup (pe_backT (pv 0)))
      (blkOk_by (own := [("letter", 1), ("exponent", 2)]) (N := ["runs", "letter", "exponent"]) (sc := defScope sUndo) (by decide +kernel))
      (fun _ _ _ _ _ => pg_tup rfl (pgs_cons (pg_name (i := 1) scUndo.nd rfl (Or.inl rfl)) (pgs_cons (pg_name (i := 2) scUndo.nd rfl (Or.inl rfl)) pgs_nil))) (fun _ _ _ _ _ => pts_nil)
      (fun _ _ _ _ _ => pe_tup (pa_cons (pv 1) (pa_cons (pe_un un_neg (pv 2)) pa_nil)))) pa_nil))), ?_⟩
    refine ⟨_, rfl, a, ys, rfl, ha, fun pb npb => ?_⟩
    have s1 := same_upd (o := .tup ys.reverse) npb
    have e1 : (upd H pb (.tup ys.reverse)) pb = some (.tup ys.reverse) := upd_same
    have hp1 : PairsAt (upd H pb (.tup ys.reverse)) ys.reverse l.reverse := PairsAt.same s1 (each_rev hp)
    generalize upd H pb (.tup ys.reverse) = H1 at s1 e1 hp1
    refine ⟨pb, rfl, ⟨_, SqT.of e1⟩, fun D hD => ?_⟩
    have hlr : ys.reverse.length = l.length := by rw [hp1.length, List.length_reverse]
    refine lc_tup (xs := ys.reverse) (UInv K H1 D l) ⟨same_upd hD, [], upd_same, .nil⟩ (fun i H2 _ z => SqT.of (z.1 _ _ e1)) ?_ ?_
    · rintro i x H2 hx hinv
      have hi := (List.getElem?_eq_some_iff.mp hx).1
      have hi' : i < l.reverse.length := by rw [List.length_reverse]; omega
      obtain ⟨t, rfl, et⟩ : PairAt H1 x l.reverse[i] := hp1.zip (x, l.reverse[i]) (List.mem_of_getElem? (i := i) (by rw [List.getElem?_zip_eq_some]; exact ⟨hx, List.getElem?_eq_getElem hi'⟩))
      refine ⟨t, _, rfl, SqT.of (hinv.1 _ _ et), rfl, _, _, rfl, _, _, rfl, rfl, rfl, iteT (B := UInv K H1 D l (i + 1) H2) ?_⟩
      refine ⟨_, rfl, _, rfl, _, rfl, by show 2 ≤ sizeLine; decide, fun pt npt => ?_⟩
      exact ustep hD hinv (List.getElem?_eq_getElem hi') hl npt
    · rintro H2 ⟨s2, zs, e2, hz⟩
      have et : l.reverse.take ys.reverse.length = l.reverse := List.take_of_length_le (by rw [hlr, List.length_reverse]; exact Nat.le_refl _)
      rw [et, ← undo_eq] at hz
      refine ⟨D, _, rfl, .inl ⟨SqL.of e2, fun pl npl => ?_⟩⟩
      exact q pl _ ((s1.trans s2).trans (same_upd npl)) (.new upd_same (PairsAt.same (same_upd npl) hz))
end
end K4

set_option Elab.async false
set_option linter.all false
set_option maxRecDepth 100000
set_option maxHeartbeats 3200000
namespace K4
open PySem L2 Tx Tg Tm
/-! ### rows as data -/
def rowD (p : Str × Int) : PyData := .tuple [.str p.1, .int p.2]
abbrev rowsD (l : Row) : List PyData := l.map rowD
def Pl (l : Row) : Prop := ∀ p ∈ l, ∀ c ∈ cds p.1, c < 128
theorem rows_all {K : PySem.W.Frag} {H : Hp} : ∀ {ys : List V} {l : Row}, PairsAt H ys l → DpAll K H ys (rowsD l)
  | _, _, .nil => .nil
  | _, _, .cons ⟨t, e1, e2⟩ h => by
    subst e1
    exact .cons (.tup (SqT.of e2) (.cons (.str _) (.cons (.int _) .nil))) (rows_all h)
theorem lay_flat : ∀ ds : List PyData, (∀ d ∈ ds, d.canLay0 = true) → PyData.canLayAll0 ds = true
  | [], _ => rfl
  | d :: ds, h => by
    show (d.canLay0 && PyData.canLayAll0 ds) = true
    rw [h d List.mem_cons_self, lay_flat ds fun e he => h e (List.mem_cons_of_mem _ he)]
    rfl
theorem deep_flat : ∀ (n : Nat) (ds : List PyData), (∀ d ∈ ds, d.depth ≤ n) → PyData.depthAll ds ≤ n
  | _, [], _ => Nat.zero_le _
  | n, d :: ds, h => by
    show max d.depth (PyData.depthAll ds) ≤ n
    exact Nat.max_le.mpr ⟨h d List.mem_cons_self, deep_flat n ds fun e he => h e (List.mem_cons_of_mem _ he)⟩
theorem row_lay {p : Str × Int} (h : ∀ c ∈ cds p.1, c < 128) : (rowD p).canLay0 = true := by
  have e : PyData.canLay0 (.str p.1) = true := by
    show p.1.cps.all (· < 0x110000) = true
    rw [Array.all_eq_true_iff_forall_mem]
    intro c hc
    have := h c (Array.mem_toList_iff.mpr hc)
    exact decide_eq_true (by omega)
  show (PyData.canLay0 (.str p.1) && (true && true)) = true
  rw [e]
  rfl
theorem row_lays {l : Row} (h : Pl l) : (PyData.tuple (rowsD l)).canLay0 = true := lay_flat _ fun d hd => by
  obtain ⟨p, hp, rfl⟩ := List.mem_map.mp hd
  exact row_lay (h p hp)
theorem row_deep (l : Row) : (PyData.tuple (rowsD l)).depth ≤ 2 := by
  show PyData.depthAll (rowsD l) + 1 ≤ 2
  have := deep_flat 1 (rowsD l) fun d hd => by
    obtain ⟨p, _, rfl⟩ := List.mem_map.mp hd
    exact Nat.le_refl 1
  omega
theorem shaped_row {l : Row} (h : Pl l) : SeqAt.shaped (.tuple (rowsD l)) = true := by
  unfold SeqAt.shaped
  rw [Bool.and_eq_true]
  exact ⟨row_lays h, decide_eq_true (Nat.le_trans (row_deep l) (by decide))⟩
theorem eqv_nil : ∀ l : Row, PyData.eqv (.tuple (rowsD l)) (.tuple []) = decide (l = [])
  | [] => rfl
  | _ :: _ => rfl
theorem pl_push {p : Str × Int} {l : Row} (hp : ∀ c ∈ cds p.1, c < 128) (h : Pl l) : Pl (Wm.push p l) := by
  intro q hq
  cases l with
  | nil =>
    have hq' : q ∈ (if p.2 = 0 then ([] : Row) else [p]) := hq
    split at hq'
    · cases hq'
    · rw [List.mem_singleton.mp hq']
      exact hp
  | cons u t =>
    have hq' : q ∈ (if p.2 = 0 then u :: t else if u.1 = p.1 then (if u.2 + p.2 = 0 then t else (u.1, u.2 + p.2) :: t) else p :: u :: t) := hq
    split at hq'
    · exact h q hq'
    · split at hq'
      · split at hq'
        · exact h q (List.mem_cons_of_mem _ hq')
        · rcases List.mem_cons.mp hq' with rfl | hq'
          · exact h u List.mem_cons_self
          · exact h q (List.mem_cons_of_mem _ hq')
      · rcases List.mem_cons.mp hq' with rfl | hq'
        · exact hp
        · exact h q hq'
theorem pl_joint : ∀ {l r : Row}, Pl r → Pl l → Pl (Wm.joint r l)
  | [], _, h, _ => h
  | p :: l, r, h, hl => pl_joint (l := l) (pl_push (hl p List.mem_cons_self) h) fun q hq => hl q (List.mem_cons_of_mem _ hq)
theorem pl_rev {l : Row} (h : Pl l) : Pl l.reverse := fun p hp => h p (List.mem_reverse.mp hp)
theorem pl_undo {l : Row} (h : Pl l) : Pl (undo l) := fun p hp => by
  rw [undo_eq] at hp
  obtain ⟨q, hq, rfl⟩ := List.mem_map.mp hp
  exact h q (List.mem_reverse.mp hq)
/-- one more run behind a row, forward -/
def putL (l : Row) (p : Str × Int) : Row := (Wm.push p l.reverse).reverse
def jointL (l k : Row) : Row := (Wm.joint l.reverse k).reverse
theorem jointL_cons (l : Row) (p : Str × Int) (k : Row) : jointL l (p :: k) = jointL (putL l p) k := by
  unfold jointL putL
  rw [List.reverse_reverse]
  rfl
theorem jointL_take {l k : Row} {i : Nat} {p : Str × Int} (h : k[i]? = some p) : jointL l (k.take (i + 1)) = putL (jointL l (k.take i)) p := by
  unfold jointL putL
  rw [List.take_add_one, h, List.reverse_reverse, Wm.joint_app]
  rfl
theorem jointL_len (l k : Row) : (jointL l k).length ≤ l.length + k.length := by
  unfold jointL
  rw [List.length_reverse]
  have := joint_len k l.reverse
  rw [List.length_reverse] at this
  exact this
theorem six_last (n d : Nat) : HT.sIx n d (some (-1)) = ((-1 : Int) + (n : Int)).toNat := by
  show (if (-1 : Int) < 0 then ((-1 : Int) + (n : Int)).toNat else min (-1 : Int).toNat n) = _
  exact if_pos (by decide)
theorem cut_last (xs : List V) (z : V) : cutV (xs ++ [z]) none (some (-1)) = xs := by
  unfold cutV
  have e1 : HT.sIx (xs ++ [z]).length 0 none = 0 := rfl
  have e2 : HT.sIx (xs ++ [z]).length (xs ++ [z]).length (some (-1)) = xs.length := by
    rw [six_last, List.length_append, List.length_singleton]
    omega
  rw [e1, e2, List.drop_zero, Nat.sub_zero, List.take_left]
section
variable {P : Program} {w : World} {K : PySem.W.Frag} {mg : Str → Option Value} {base : Heap}
theorem SqT.of_row {H H' : Hp} {a : Addr} {ys : List V} (s : Same H H') (h : SqT K H a ys) : SqT K H' a ys := by
  rcases h with h | h
  · rcases h with h | ⟨o, h⟩
    · exact .inl (.inl (s _ _ h))
    · exact .inl (.inr ⟨o, s _ _ h⟩)
  · exact .inr h
theorem each_split {α β : Type} {R : α → β → Prop} {c : β} : ∀ {ys : List α} {l : List β}, PySem.W.EachIs R ys (l ++ [c]) → ∃ ys' y, ys = ys' ++ [y] ∧ PySem.W.EachIs R ys' l ∧ R y c
  | _, [], h => by
    cases h with
    | cons r h =>
      cases h
      exact ⟨[], _, rfl, .nil, r⟩
  | _, b :: l, h => by
    cases h with
    | cons r h =>
      obtain ⟨ys', y, rfl, h1, h2⟩ := each_split h
      exact ⟨_ :: ys', y, rfl, .cons r h1, h2⟩
/-- a row with one run written behind it -/
theorem cat_one {H : Hp} {a : Addr} {l : Row} {x : Str} {m : Int} {Q : VK} (hr : TupRow K H a l) (hl : l.length ≤ 1000000) (q : ∀ p H', Same H H' → TupRow K H' p (l ++ [(x, m)]) → Q (.ref p) H') {pt pq : Addr} (npt : H pt = none)
    (npq : (upd H pt (.tup [.str x, .int m])) pq = none) : rCatRow K (.ref a) (.ref pq) (upd (upd H pt (.tup [.str x, .int m])) pq (.tup [.ref pt])) Q := by
  have s1 := same_upd (o := .tup [.str x, .int m]) npt
  have s2 := same_upd (o := .tup [.ref pt]) npq
  refine ⟨a, pq, l, [(x, m)], rfl, rfl, hr.same (s1.trans s2), .new upd_same (.cons ⟨pt, rfl, s2 _ _ upd_same⟩ .nil), ?_, fun p H' s h => q p H' ((s1.trans s2).trans s) h⟩
  rw [List.length_singleton]
  omega
theorem putL_nil {p : Str × Int} (h : p.2 ≠ 0) : putL [] p = [p] := by
  unfold putL
  have : Wm.push p ([] : Row) = [p] := if_neg h
  show (Wm.push p []).reverse = [p]
  rw [this]
  rfl
theorem putL_last {l : Row} {c p : Str × Int} (h : p.2 ≠ 0) : putL (l ++ [c]) p = if c.1 = p.1 then (if c.2 + p.2 = 0 then l else l ++ [(c.1, c.2 + p.2)]) else l ++ [c] ++ [p] := by
  unfold putL
  rw [List.reverse_append]
  show (if p.2 = 0 then c :: l.reverse else if c.1 = p.1 then (if c.2 + p.2 = 0 then l.reverse else (c.1, c.2 + p.2) :: l.reverse) else p :: c :: l.reverse).reverse = _
  rw [if_neg h]
  split
  · split
    · rw [List.reverse_reverse]
    · rw [List.reverse_cons, List.reverse_reverse]
  · rw [List.reverse_cons, List.reverse_cons, List.reverse_reverse]
end
end K4

set_option Elab.async false
set_option linter.all false
set_option maxRecDepth 100000
set_option maxHeartbeats 3200000
namespace K4
open PySem L2 Tx Tg Tm
theorem push_mem {p q : Str × Int} {l : Row} (h : q ∈ Wm.push p l) : q ∈ l ∨ q = p ∨ ∃ u ∈ l, q = (u.1, u.2 + p.2) := by
  cases l with
  | nil =>
    have h' : q ∈ (if p.2 = 0 then ([] : Row) else [p]) := h
    split at h'
    · cases h'
    · exact .inr (.inl (List.mem_singleton.mp h'))
  | cons u t =>
    have h' : q ∈ (if p.2 = 0 then u :: t else if u.1 = p.1 then (if u.2 + p.2 = 0 then t else (u.1, u.2 + p.2) :: t) else p :: u :: t) := h
    split at h'
    · exact .inl h'
    · split at h'
      · split at h'
        · exact .inl (List.mem_cons_of_mem _ h')
        · rcases List.mem_cons.mp h' with h' | h'
          · exact .inr (.inr ⟨u, List.mem_cons_self, h'⟩)
          · exact .inl (List.mem_cons_of_mem _ h')
      · rcases List.mem_cons.mp h' with h' | h'
        · exact .inr (.inl h')
        · exact .inl h'
/-- runs of these letters, exponents below a bound -/
def Ru (sg : Str) (B : Nat) (l : Row) : Prop := ∀ p ∈ l, (∃ c ∈ cds sg, p.1 = one c) ∧ p.2.natAbs ≤ B
theorem Ru.pl {sg : Str} {B : Nat} {l : Row} (hs : ∀ c ∈ cds sg, c < 128) (h : Ru sg B l) : Pl l := fun p hp c hc => by
  obtain ⟨⟨d, hd, e⟩, _⟩ := h p hp
  rw [e] at hc
  rw [List.mem_singleton.mp (show c ∈ [d] from hc)]
  exact hs d hd
theorem Ru.rev {sg : Str} {B : Nat} {l : Row} (h : Ru sg B l) : Ru sg B l.reverse := fun p hp => h p (List.mem_reverse.mp hp)
theorem Ru.push {sg : Str} {B C : Nat} {l : Row} {c : Nat} {n : Int} (h : Ru sg B l) (hc : c ∈ cds sg) (hn : n.natAbs ≤ C) : Ru sg (B + C) (Wm.push (one c, n) l) := fun q hq => by
  rcases push_mem hq with hq | rfl | ⟨u, hu, rfl⟩
  · exact ⟨(h q hq).1, by have := (h q hq).2; omega⟩
  · exact ⟨⟨c, hc, rfl⟩, show n.natAbs ≤ B + C by omega⟩
  · refine ⟨(h u hu).1, ?_⟩
    have := (h u hu).2
    show (u.2 + n).natAbs ≤ B + C
    omega
theorem push_len (p : Str × Int) (r : Row) : (Wm.push p r).length ≤ r.length + 1 := joint_len [p] r
theorem signs_plain {sg : Str} (h : Signs sg) : ∀ c ∈ cds sg, c < 128 := by
  rcases h with rfl | rfl | rfl | rfl <;> decide +kernel
theorem signs_len {sg : Str} (h : Signs sg) : 0 < sg.length ∧ sg.length < 100 := by
  rcases h with rfl | rfl | rfl | rfl <;> decide +kernel
section
variable {P : Program} {w : World} {K : PySem.W.Frag} {mg : Str → Option Value} {base : Heap}
def spMost : Sp := fun vs H Q _ => ∃ (n m : Int), vs = [.int n, .int m] ∧ n ≤ m ∧ Q .non H
theorem scMost : FnScope ["many", "limit"] ["many", "limit"] (defScope sMost) := ⟨rfl, rfl, rfl, by decide +kernel, rfl, by decide +kernel, by decide +kernel⟩
theorem ok_most {f : Addr} {fd : FuncData} (F : Fun K "check_most" "check_most" sMost f fd) (T : Txt K mg) : FnOk P w K mg base CX0 1 f fd ["many", "limit"] spMost := by
  refine F.ok scMost (fun vs H Q E h => ?_) (fun cdv A outer s H vs Q E hr h => ?_)
  · obtain ⟨n, m, rfl, _⟩ := h
    rfl
  · obtain ⟨n, m, rfl, hnm, q⟩ := h
    refine ⟨_, pss_one (ps_if (pt_cmpR op_gt (pv 0) (pv 1) (nomark _)) (pss_one ps_never) pss_nil), ?_⟩
    refine ⟨_, rfl, _, rfl, _, _, rfl, rfl, _, rfl, ?_⟩
    rw [decide_eq_false (by omega)]
    exact iteF q
theorem ten30 : (1 : Int) + 10 ^ 30 ≤ 10 ^ 31 := by decide +kernel
theorem sm {m : Int} (h0 : 0 < m) (h : m ≤ 100) : m.natAbs < 2 ^ 9000 := Nat.lt_of_lt_of_le (show m.natAbs < 2 ^ 7 by omega) (Nat.pow_le_pow_right (by decide) (by decide))
theorem sm30 : ((10 : Int) ^ 30).natAbs < 2 ^ 9000 := Nat.lt_of_lt_of_le (show ((10 : Int) ^ 30).natAbs < 2 ^ 100 by decide +kernel) (Nat.pow_le_pow_right (by decide) (by decide))
end
end K4

set_option Elab.async false
set_option linter.all false
set_option maxRecDepth 100000
set_option maxHeartbeats 3200000
namespace K4
open PySem L2 Tx Tg Tm
theorem not_cup {H : Hp} {c a : Addr} {o : HO} (h : Cup H c) (e : H a = some o) (n : ∀ xs, o ≠ .lst xs) : a ≠ c := by
  rintro rfl
  obtain ⟨x, y, z, e2⟩ := h
  rw [e] at e2
  exact n _ (Option.some.inj e2)
theorem TupRow.but {K : PySem.W.Frag} {H H' : Hp} {c a : Addr} {l : Row} (hc : Cup H c) (b : But c H H') (h : TupRow K H a l) : TupRow K H' a l := by
  obtain ⟨ys, ha, hp⟩ := h
  refine ⟨ys, ?_, hp.mono fun y p ⟨t, e1, e2⟩ => ⟨t, e1, b _ _ (not_cup hc e2 fun xs z => by cases z) e2⟩⟩
  rcases ha with h | h
  · rcases h with h | ⟨o, h⟩
    · exact .inl (.inl (b _ _ (not_cup hc h fun xs z => by cases z) h))
    · exact .inl (.inr ⟨o, b _ _ (not_cup hc h fun xs z => by cases z) h⟩)
  · exact .inr h
theorem put_red {l : Row} {p : Str × Int} (h : Wm.Red l.reverse) : Wm.Red (putL l p).reverse := by
  unfold putL
  rw [List.reverse_reverse]
  exact Wm.red_push h
theorem put_len (l : Row) (p : Str × Int) : (putL l p).length ≤ l.length + 1 := by
  unfold putL
  rw [List.length_reverse]
  have := push_len p l.reverse
  rw [List.length_reverse] at this
  exact this
theorem put_ru {sg : Str} {B C : Nat} {l : Row} {c : Nat} {n : Int} (h : Ru sg B l) (hc : c ∈ cds sg) (hn : n.natAbs ≤ C) : Ru sg (B + C) (putL l (one c, n)) := (h.rev.push hc hn).rev
abbrev nRow : List Str := ["_law_cup_here", "_law_signs_here", "_law_much", "_law_most", "_law_row_here", "_law_turn"]
section
variable {P : Program} {w : World} {K : PySem.W.Frag} {mg : Str → Option Value} {base : Heap}
end
end K4

set_option Elab.async false
set_option linter.all false
set_option maxRecDepth 100000
set_option maxHeartbeats 3200000
namespace K4
open PySem L2 Tx Tg Tm
theorem k_tuple_tuple : kitB "tuple" "tuple" = some true := by decide +kernel
theorem isInt_of {n : Int} {B : Nat} (h : n.natAbs ≤ B) (hB : B < 10 ^ 200) : isInt (.int n) = true := by
  show decide (n.natAbs < 10 ^ 200) = true
  exact decide_eq_true (Nat.lt_of_le_of_lt h hB)
section
variable {P : Program} {w : World} {K : PySem.W.Frag} {mg : Str → Option Value} {base : Heap}
def spIsRun : Sp := fun vs H Q _ => ∃ (sg : Str) (t : Addr) (c : Nat) (n : Int), vs = [.str sg, .ref t] ∧ H t = some (.tup [.str (one c), .int n]) ∧ c ∈ cds sg ∧ isInt (.int n) = true ∧ Q (.bl true) H
theorem scIsRun : FnScope ["letters", "value", "letter", "exponent"] ["letters", "value"] (defScope sIsRun) := ⟨rfl, rfl, rfl, by decide +kernel, rfl, by decide +kernel, by decide +kernel⟩
theorem ok_isrun {f fI : Addr} {fd fdI : FuncData} (F : Fun K "is_run" "is_run" sIsRun f fd) (T : Txt K mg) (DI : Df K mg "is_integer" sInt ["value"] fI fdI) : FnOk P w K mg base CX0 2 f fd ["letters", "value"] spIsRun := by
  have G := ok_int (P := P) (w := w) (base := base) DI.F T
  refine F.ok scIsRun (fun vs H Q E h => ?_) (fun cdv A outer s H vs Q E hr h => ?_)
  · obtain ⟨sg, t, c, n, rfl, _⟩ := h
    rfl
  · obtain ⟨sg, t, c, n, rfl, et, hc, hn, q⟩ := h
    refine ⟨_, pss_cons (ps_if (PW.pt (pw_or (pt_not (pt_val (pe_callB call_isi (by rfl) T.isi (by decide +kernel) (pa_cons (pv 1) (pa_cons (pe_bltn (v := .ty "tuple") (by rfl) T.tuple (by decide +kernel) rfl) pa_nil)))))
        (pw_or1 (pt_cmpR op_ne (pe_callB call_len_seq (by rfl) T.len PySem.boot_len (pa_cons (pv 1) pa_nil)) pe_int (nomark _))))) (pss_one (ps_ret pe_bl)) pss_nil)
      (pss_cons (ps_asg (pv 1) (pg_tup rfl (pgs_cons (pg_name (i := 2) scIsRun.nd rfl (Or.inl rfl)) (pgs_cons (pg_name (i := 3) scIsRun.nd rfl (Or.inl rfl)) pgs_nil))))
      (pss_one (ps_ret (pe_and (pe_callB call_isi (by rfl) T.isi (by decide +kernel) (pa_cons (pv 2) (pa_cons (pe_bltn (v := .ty "str") (by rfl) T.str (by decide +kernel) rfl) pa_nil)))
        (pe_and (pe_cmpR op_eq (pe_callB call_len_str (by rfl) T.len PySem.boot_len (pa_cons (pv 2) pa_nil)) pe_int (nomark _))
        (pe_and (pe_cmpR op_in_sign (pv 2) (pv 0) (by rfl)) (pe_one (pe_call G hr (by rfl) DI.m DI.F.kp DI.b .nil pass0 (pa_cons (pv 3) pa_nil))))))))), ?_⟩
    refine ⟨_, rfl, _, _, _, _, _, rfl, .ty "tuple", TyX.base (.tup et), kit_ty k_tuple_tuple, true, rfl, _, rfl, ?_⟩
    refine ⟨t, _, rfl, .inr (SqT.of et), rfl, _, rfl, ?_⟩
    refine ⟨_, rfl, t, _, rfl, SqT.of et, rfl, _, _, rfl, _, _, rfl, rfl, ?_⟩
    refine ⟨_, rfl, _, _, _, _, _, rfl, .ty "str", TyX.base (.str (one c)), kit_ty k_str_str, true, rfl, iteT ?_⟩
    refine ⟨_, rfl, one c, rfl, (show 1 ≤ sizeLine by decide), rfl, _, rfl, iteT ?_⟩
    refine ⟨_, rfl, _, rfl, c, sg, rfl, rfl, _, rfl, ?_⟩
    rw [decide_eq_true hc]
    refine iteT ⟨_, rfl, .int n, .int n, rfl, .int n, ?_⟩
    rw [hn]
    exact q
def spIsRow (K : PySem.W.Frag) : Sp := fun vs H Q _ => ∃ (sg : Str) (a : Addr) (l : Row) (B : Nat), vs = [.str sg, .ref a] ∧ TupRow K H a l ∧ Ru sg B l ∧ B < 10 ^ 200 ∧ l.length ≤ 100000 ∧ ∀ H', Same H H' → Q (.bl true) H'
theorem scIsRow : FnScope ["letters", "value", "pair"] ["letters", "value"] (defScope sIsRow) := ⟨rfl, rfl, rfl, by decide +kernel, rfl, by decide +kernel, by decide +kernel⟩
theorem ok_isrow {f fR fI : Addr} {fd fdR fdI : FuncData} (F : Fun K "is_row_of_runs" "is_row_of_runs" sIsRow f fd) (T : Txt K mg) (DI : Df K mg "is_integer" sInt ["value"] fI fdI) (DR : Df K mg "is_run" sIsRun ["letters", "value"] fR fdR) :
    FnOk P w K mg base CX0 3 f fd ["letters", "value"] (spIsRow K) := by
  have G := ok_isrun (P := P) (w := w) (base := base) DR.F T DI
  refine F.ok scIsRow (fun vs H Q E h => ?_) (fun cdv A outer s H vs Q E hr h => ?_)
  · obtain ⟨sg, a, l, B, rfl, _⟩ := h
    rfl
  · obtain ⟨sg, a, l, B, rfl, ⟨ys, ha, hp⟩, hru, hB, hl, q⟩ := h
    refine ⟨_, pss_one (ps_ret (pe_and (pe_callB call_isi (by rfl) T.isi (by decide +kernel) (pa_cons (pv 1) (pa_cons (pe_bltn (v := .ty "tuple") (by rfl) T.tuple (by decide +kernel) rfl) pa_nil)))
      (pe_one (pe_callB (cr_all rfl) (by rfl) T.all (by decide +kernel) (pa_cons (pe_lc (own := [("pair", 2)]) (g := gName 2) (tt := tYes) rfl scIsRow.nd (pi_tup (pv 1))
        (blkOk_by (own := [("pair", 2)]) (N := ["letters", "value", "pair"]) (sc := defScope sIsRow) (by decide +kernel)) (fun _ _ _ _ _ => pg_name (i := 2) scIsRow.nd rfl (Or.inl rfl)) (fun _ _ _ _ _ => pts_nil)
        (fun _ _ _ _ _ => pe_call G hr (by rfl) DR.m DR.F.kp DR.b .nil pass0 (pa_cons (pv 0) (pa_cons (pv 2) pa_nil)))) pa_nil))))), ?_⟩
    have ty : TyX K H (.ref a) (.type "tuple") := by
      rcases ha with h | ⟨o, its, n, hk, hc, _⟩
      · rcases h with h | ⟨o, h⟩
        · exact .base (.tup h)
        · exact .fTuple h
      · exact .kTuple hk hc
    refine ⟨_, rfl, _, _, _, _, _, rfl, .ty "tuple", ty, kit_ty k_tuple_tuple, true, rfl, iteT ?_⟩
    refine ⟨_, rfl, a, rfl, ⟨_, ha⟩, fun D hD => ?_⟩
    have hlen : ys.length = l.length := hp.length
    refine lc_tup (xs := ys) (fun i H1 => Same H H1 ∧ H1 D = some (.lst ((List.replicate i true).map V.bl))) ⟨same_upd hD, upd_same⟩ (fun i H1 _ z => K4.SqT.of_row z.1 ha) ?_ ?_
    · rintro i x H1 hx ⟨s1, e1⟩
      have hi := (List.getElem?_eq_some_iff.mp hx).1
      have hi' : i < l.length := by omega
      obtain ⟨t, rfl, et⟩ : PairAt H x l[i] := hp.zip (x, l[i]) (List.mem_of_getElem? (i := i) (by rw [List.getElem?_zip_eq_some]; exact ⟨hx, List.getElem?_eq_getElem hi'⟩))
      obtain ⟨⟨c, hc, ec⟩, hb⟩ := hru l[i] (List.getElem_mem hi')
      rw [ec] at et
      refine ⟨rfl, iteT (B := Same H H1 ∧ H1 D = some (.lst ((List.replicate (i + 1) true).map V.bl))) ?_⟩
      refine ⟨_, rfl, _, rfl, sg, t, c, _, rfl, s1 _ _ et, hc, isInt_of hb hB, _, e1, ?_, same_put s1 hD, ?_⟩
      · rw [List.length_map, List.length_replicate]
        exact Nat.lt_of_lt_of_le (show i < 100000 by omega) (by decide)
      · rw [upd_same, List.replicate_succ', List.map_append]
        rfl
    · rintro H1 ⟨s1, e1⟩
      have hall : (List.replicate ys.length true).all id = true := List.all_eq_true.mpr fun b hb => by rw [(List.mem_replicate.mp hb).2]; rfl
      refine ⟨D, _, rfl, SqL.of e1, ?_⟩
      rw [hall]
      exact q _ s1
end
end K4

set_option Elab.async false
set_option linter.all false
set_option maxRecDepth 100000
set_option maxHeartbeats 3200000
namespace K4
open PySem L2 Tx Tg Tm
def clsBody (s : Stmt) : List Stmt := match s with
  | .ClassDef (body := b) .. => b
  | _ => []
abbrev sMadeInit : Stmt := (clsBody (top 48)).getD 0 (.Pass ⟨0, 0, 0, 0⟩)
abbrev wdef (i : Nat) : Stmt := (clsBody (top 55)).getD i (.Pass ⟨0, 0, 0, 0⟩)
abbrev sWordInit : Stmt := wdef 0
/-- what is asked of the two classes -/
structure WF (K : PySem.W.Frag) (mg : Str → Option Value) (CM CW : Addr) : Prop where
  gM : mg "Made" = some (.ref CM)
  gW : mg "Word" = some (.ref CW)
  clM : Cls K CM
  nC : NoAttr K CM "content"
  clW : Cls K CW
  nL : NoAttr K CW "_letters"
  nR : NoAttr K CW "_runs"
  iMM : PySem.W.kitOne K (.ref CM) (.ref CM) = some true
  iTM : PySem.W.kitOne K (.type "tuple") (.ref CM) = some false
  tyM : ∀ (H : Hp) (a dx : Addr) (fs : List (Str × V)), H a = some (.ins CM dx fs) → TyX K H (.ref a) (.ref CM)
  tyW : ∀ (H : Hp) (a dx : Addr) (fs : List (Str × V)), H a = some (.ins CW dx fs) → TyX K H (.ref a) (.ref CW)
  iWW : PySem.W.kitOne K (.ref CW) (.ref CW) = some true
section
variable {P : Program} {w : World} {K : PySem.W.Frag} {mg : Str → Option Value} {base : Heap}
def spMadeInit (CM : Addr) : Sp := fun vs H Q _ => ∃ (x dx : Addr) (v : V), vs = [.ref x, v] ∧ H x = some (.ins CM dx []) ∧ Q .non (upd H x (.ins CM dx [("content", v)]))
theorem scMadeInit : FnScope ["self", "content"] ["self", "content"] (defScope sMadeInit) := ⟨rfl, rfl, rfl, by decide +kernel, rfl, by decide +kernel, by decide +kernel⟩
theorem ok_madeinit {CM CW f : Addr} {fd : FuncData} (F : Fun K "__init__" "Made.__init__" sMadeInit f fd) (W : WF K mg CM CW) : FnOk P w K mg base CX0 1 f fd ["self", "content"] (spMadeInit CM) := by
  refine F.ok scMadeInit (fun vs H Q E h => ?_) (fun cdv A outer s H vs Q E hr h => ?_)
  · obtain ⟨x, dx, v, rfl, _⟩ := h
    rfl
  · obtain ⟨x, dx, v, rfl, hx, q⟩ := h
    refine ⟨_, pss_one (ps_fld (pv 0) (pv 1) rfl), ?_⟩
    exact ⟨_, rfl, _, rfl, x, CM, dx, [], rfl, hx, W.clM, W.nC, by decide, q⟩
end
end K4

set_option Elab.async false
set_option linter.all false
set_option maxRecDepth 100000
set_option maxHeartbeats 3200000
namespace K4
open PySem L2 Tx Tg Tm
theorem signs_letters {sg : Str} (h : Signs sg) : letters (.str sg) = true := by
  have go : ∀ z : Str, (decide (z.length ≤ 3) && only z alpha && decide (z ≠ Str.empty)) = true → (cds z).Pairwise (· < ·) → letters (.str z) = true := fun z h1 h2 => by
    show (decide (z.length ≤ 3) && only z alpha && decide (z ≠ Str.empty) && rise z) = true
    rw [h1, Bool.true_and]
    exact decide_eq_true (up_eq h2 (ups_up _) fun c => (ups_mem _ c).symm)
  rcases h with rfl | rfl | rfl | rfl <;> exact go _ (by decide +kernel) (by decide +kernel)
theorem signs_fine {sg : Str} (h : Signs sg) : Fine sg := by
  rcases h with rfl | rfl | rfl | rfl <;> exact ⟨by decide +kernel, by decide +kernel, by decide +kernel⟩
/-- rows stay where only an instance is written -/
theorem TupRow.ins {K : PySem.W.Frag} {H H' : Hp} {c a : Addr} {l : Row} {C dx : Addr} {fs : List (Str × V)} (hc : H c = some (.ins C dx fs)) (b : But c H H') (h : TupRow K H a l) : TupRow K H' a l := by
  have nc : ∀ {q : Addr} {o : HO}, H q = some o → (∀ D y gs, o ≠ .ins D y gs) → q ≠ c := fun e n z => by
    rw [z, hc] at e
    exact n _ _ _ (Option.some.inj e).symm
  obtain ⟨ys, ha, hp⟩ := h
  refine ⟨ys, ?_, hp.mono fun y p ⟨t, e1, e2⟩ => ⟨t, e1, b _ _ (nc e2 fun _ _ _ z => by cases z) e2⟩⟩
  rcases ha with h | h
  · rcases h with h | ⟨o, h⟩
    · exact .inl (.inl (b _ _ (nc h fun _ _ _ z => by cases z) h))
    · exact .inl (.inr ⟨o, b _ _ (nc h fun _ _ _ z => by cases z) h⟩)
  · exact .inr h
section
variable {P : Program} {w : World} {K : PySem.W.Frag} {mg : Str → Option Value} {base : Heap}
def spPassL : Sp := fun vs H Q _ => ∃ (sg : Str), vs = [.str sg] ∧ Signs sg ∧ ∀ H', Same H H' → Q .non H'
theorem scCheck : FnScope ["value"] ["value"] (defScope sCheck) := ⟨rfl, rfl, rfl, by decide +kernel, rfl, by decide +kernel, by decide +kernel⟩
theorem ok_passL {f fH fL : Addr} {fd fdH fdL : FuncData} (F : Fun K "check_letters" "check_letters" sCheck f fd) (T : Txt K mg) (DH : Df K mg "has_only" sHas ["value", "signs", "most"] fH fdH)
    (DL : Df K mg "is_letters" sLetters ["value"] fL fdL) : FnOk P w K mg base CX0 3 f fd ["value"] spPassL := by
  have G := ok_letters (P := P) (w := w) (base := base) DL.F T DH
  refine F.ok scCheck (fun vs H Q E h => ?_) (fun cdv A outer s H vs Q E hr h => ?_)
  · obtain ⟨v, rfl, _⟩ := h
    rfl
  · obtain ⟨sg, rfl, hs, q⟩ := h
    refine ⟨_, pss_one (ps_if (pt_not (pt_val (pe_call G hr (by rfl) DL.m DL.F.kp DL.b .nil pass0 (pa_cons (pv 0) pa_nil)))) (pss_one ps_never) pss_nil), ?_⟩
    refine ⟨_, rfl, .str sg, .str sg, rfl, .str sg, signs_fine hs, fun H' s1 => ⟨_, rfl, ?_⟩⟩
    rw [signs_letters hs]
    exact iteF (q _ s1)
/-- what a word is made of: a row of runs that is judged, or one that is handed over -/
def Src (K : PySem.W.Frag) (CM : Addr) (H : Hp) (sg : Str) (a : Addr) (l : Row) : Prop :=
  (∃ b dm, H a = some (.ins CM dm [("content", .ref b)]) ∧ TupRow K H b l) ∨ (TupRow K H a l ∧ ∃ B, Ru sg B l ∧ B < 10 ^ 200)
theorem wi_tail {CM CW : Addr} {D : Ends} {H H2 : Hp} {x dx p : Addr} {v2 : Option V} {sg : Str} {r : Row} (W : WF K mg CM CW) (s2 : Same H H2) (hx : H x = some (.ins CW dx [])) (hr : TupRow K H2 p r) (hl : r.length ≤ 200)
    (q : ∀ H', But x H H' → H' x = some (.ins CW dx [("_letters", .str sg), ("_runs", .ref p)]) → TupRow K H' p r → D.nx [some (.ref x), some (.str sg), v2, some (.ref p)] H') :
    tSeq (tDrop (tCall spMost [] E0 (tCons (tCB (fun xs H Q => ∃ p ys, xs = [V.ref p] ∧ (SqL K H p ys ∨ SqT K H p ys) ∧ Q (V.int (ys.length : Nat)) H) (tCons (tVar 3) tNil)) (tCons (tC (V.int 200)) tNil))))
      (tSeq (sFld K (tVar 0) (tVar 1) "_letters") (sFld K (tVar 0) (tVar 3) "_runs")) D [some (.ref x), some (.str sg), v2, some (.ref p)] H2 := by
  obtain ⟨ys, hy, hp⟩ := id hr
  have hx2 := s2 _ _ hx
  refine ⟨_, rfl, p, ys, rfl, .inr hy, _, _, rfl, by rw [hp.length]; omega, ?_⟩
  refine ⟨_, rfl, _, rfl, x, CW, dx, [], rfl, hx2, W.clW, W.nL, by decide, ?_⟩
  refine ⟨_, rfl, _, rfl, x, CW, dx, _, rfl, upd_same, W.clW, W.nR, by show 1 < 1000; decide, ?_⟩
  refine q _ (fun b o n e => ?_) upd_same (hr.ins hx2 fun b o n e => ?_)
  · rw [upd_ne n, upd_ne n]
    exact s2 _ _ e
  · rw [upd_ne n, upd_ne n]
    exact e
def spWordInit (K : PySem.W.Frag) (CM CW : Addr) : Sp := fun vs H Q _ => ∃ (x dx : Addr) (sg : Str) (a : Addr) (l : Row), vs = [.ref x, .str sg, .ref a] ∧ H x = some (.ins CW dx []) ∧ Signs sg ∧ Src K CM H sg a l ∧ l.length ≤ 100000 ∧ (rowOf l).length ≤ 200 ∧
  ∀ H' p, But x H H' → H' x = some (.ins CW dx [("_letters", .str sg), ("_runs", .ref p)]) → TupRow K H' p (rowOf l) → Q .non H'
abbrev nWI : List Str := ["self", "letters", "runs", "left"]
theorem scWordInit : FnScope nWI ["self", "letters", "runs"] (defScope sWordInit) := ⟨rfl, rfl, rfl, by decide +kernel, rfl, by decide +kernel, by decide +kernel⟩
theorem ok_wordinit {CM CW f fH fL fC fI fR fRR fJ fM : Addr} {fd fdH fdL fdC fdI fdR fdRR fdJ fdM : FuncData} (F : Fun K "__init__" "Word.__init__" sWordInit f fd) (T : Txt K mg) (W : WF K mg CM CW) (DH : Df K mg "has_only" sHas ["value", "signs", "most"] fH fdH)
    (DL : Df K mg "is_letters" sLetters ["value"] fL fdL) (DC : Df K mg "check_letters" sCheck ["value"] fC fdC) (DI : Df K mg "is_integer" sInt ["value"] fI fdI) (DR : Df K mg "is_run" sIsRun ["letters", "value"] fR fdR) (DRR : Df K mg "is_row_of_runs" sIsRow ["letters", "value"] fRR fdRR)
    (DJ : Df K mg "joined_runs" sJoin ["pairs"] fJ fdJ) (DM : Df K mg "check_most" sMost ["many", "limit"] fM fdM) : FnOk P w K mg base CX0 4 f fd ["self", "letters", "runs"] (spWordInit K CM CW) := by
  have GC := ok_passL (P := P) (w := w) (base := base) DC.F T DH DL
  have GR := ok_isrow (P := P) (w := w) (base := base) DRR.F T DI DR
  have GJ := ok_join' (P := P) (w := w) (base := base) DJ.F T
  have GM := ok_most (P := P) (w := w) (base := base) DM.F T
  refine F.ok scWordInit (fun vs H Q E h => ?_) (fun cdv A outer s H vs Q E hr h => ?_)
  · obtain ⟨x, dx, sg, a, l, rfl, _⟩ := h
    rfl
  · obtain ⟨x, dx, sg, a, l, rfl, hx, hsg, hsrc, hl, hrl, q⟩ := h
    have r1 : Room 1 _ := hr.mono (by decide)
    obtain ⟨t4, g4⟩ := T.mRuns
    refine ⟨_, pss_cons (ps_expr (pe_call GC hr (by rfl) DC.m DC.F.kp DC.b .nil pass0 (pa_cons (pv 1) pa_nil)))
      (pss_cons (ps_if (pt_val (pe_callB call_isi (by rfl) T.isi (by decide +kernel) (pa_cons (pv 2) (pa_cons (pe_glob (v := .ref CM) (by rfl) W.gM rfl) pa_nil))))
          (pss_one (ps_set (i := 3) scWordInit.nd rfl (Or.inl rfl) (pe_call GJ r1 (by rfl) DJ.m DJ.F.kp DJ.b .nil pass0 (pa_cons (pe_fld (pv 2) rfl) pa_nil))))
          (pss_one (ps_if (pt_val (pe_call GR hr (by rfl) DRR.m DRR.F.kp DRR.b .nil pass0 (pa_cons (pv 1) (pa_cons (pv 2) pa_nil))))
            (pss_one (ps_set (i := 3) scWordInit.nd rfl (Or.inl rfl) (pe_call GJ r1 (by rfl) DJ.m DJ.F.kp DJ.b .nil pass0 (pa_cons (pv 2) pa_nil)))) (pss_one ps_never))))
      (pss_cons (ps_expr (pe_call GM r1 (by rfl) DM.m DM.F.kp DM.b .nil pass0 (pa_cons (pe_callB call_len_seq (by rfl) T.len PySem.boot_len (pa_cons (pv 3) pa_nil)) (pa_cons (pe_glob (v := .int 200) (by rfl) g4 ⟨_, rfl⟩) pa_nil))))
      (pss_cons (ps_fld (pv 0) (pv 1) rfl)
      (pss_one (ps_fld (pv 0) (pv 3) rfl))))), ?_⟩
    refine ⟨_, rfl, sg, rfl, hsg, fun H1 s1 => ?_⟩
    rcases hsrc with ⟨b, dm, ha, hb⟩ | ⟨hrow, B, hru, hB⟩
    · refine ⟨_, rfl, _, _, _, _, _, rfl, .own CM, W.tyM _ _ _ _ (s1 _ _ ha), W.iMM, true, rfl, iteT ?_⟩
      refine ⟨_, rfl, a, CM, dm, _, _, rfl, s1 _ _ ha, W.clM, W.nC, rfl, ?_⟩
      refine ⟨b, l, rfl, hb.same s1, by omega, fun p H2 s2 h2 => ?_⟩
      exact wi_tail W (s1.trans s2) hx h2 hrl fun H' b1 b2 b3 => q H' p b1 b2 b3
    · have ty : TyX K H1 (.ref a) (.type "tuple") := by
        obtain ⟨ys, hy, _⟩ := hrow.same s1
        rcases hy with h | ⟨o, its, n, hk, hc, _⟩
        · rcases h with h | ⟨o, h⟩
          · exact .base (.tup h)
          · exact .fTuple h
        · exact .kTuple hk hc
      refine ⟨_, rfl, _, _, _, _, _, rfl, .own CM, ty, W.iTM, false, rfl, iteF ?_⟩
      refine ⟨_, rfl, _, rfl, sg, a, l, B, rfl, hrow.same s1, hru, hB, hl, fun H2 s2 => ⟨_, rfl, iteT ?_⟩⟩
      refine ⟨_, rfl, a, l, rfl, hrow.same (s1.trans s2), by omega, fun p H3 s3 h3 => ?_⟩
      exact wi_tail W ((s1.trans s2).trans s3) hx h3 hrl fun H' b1 b2 b3 => q H' p b1 b2 b3
end
end K4

set_option Elab.async false
set_option linter.all false
set_option maxRecDepth 100000
set_option maxHeartbeats 3200000
namespace K4
open PySem L2 Tx Tg Tm
abbrev sMul : Stmt := wdef 10
abbrev sInv : Stmt := wdef 11
def WordAt (K : PySem.W.Frag) (CW : Addr) (H : Hp) (a : Addr) (sg : Str) (l : Row) : Prop := ∃ dx p, H a = some (.ins CW dx [("_letters", .str sg), ("_runs", .ref p)]) ∧ TupRow K H p l
theorem WordAt.same {K : PySem.W.Frag} {CW : Addr} {H H' : Hp} {a : Addr} {sg : Str} {l : Row} (s : Same H H') (h : WordAt K CW H a sg l) : WordAt K CW H' a sg l := by
  obtain ⟨dx, p, e, r⟩ := h
  exact ⟨dx, p, s _ _ e, r.same s⟩
/-- the classes' makers -/
structure Makes4 (P : Program) (w : World) (K : PySem.W.Frag) (mg : Str → Option Value) (base : Heap) (CM CW fMI fWI : Addr) (dMI dWI : FuncData) : Prop where
  W : WF K mg CM CW
  mM : Mk K CM fMI
  mW : Mk K CW fWI
  gMI : FnOk P w K mg base CX0 1 fMI dMI ["self", "content"] (spMadeInit CM)
  gWI : FnOk P w K mg base CX0 4 fWI dWI ["self", "letters", "runs"] (spWordInit K CM CW)
  bMI : Binds K dMI ["self", "content"] []
  bWI : Binds K dWI ["self", "letters", "runs"] []
/-- Word(letters, Made(row)): the two objects new -/
theorem made_word {P : Program} {w : World} {K : PySem.W.Frag} {mg : Str → Option Value} {base : Heap} {CM CW fMI fWI : Addr} {dMI dWI : FuncData} (G : Makes4 P w K mg base CM CW fMI fWI dMI dWI) {H : Hp} {sg : Str} {b : Addr} {l : Row} {Q : VK} {E : XK} (hsg : Signs sg) (hb : TupRow K H b l) (hl : l.length ≤ 100000)
    (hrl : (rowOf l).length ≤ 200) (q : ∀ x H', Same H H' → WordAt K CW H' x sg (rowOf l) → Q (.ref x) H') :
    ∀ m dm, H m = none → H dm = none → dm ≠ m → spMadeInit CM (.ref m :: ([V.ref b] ++ [])) (upd (upd H dm (.own m)) m (.ins CM dm [])) (fun v H2 => v = .non ∧ ∀ x dx, H2 x = none → H2 dx = none → dx ≠ x →
      spWordInit K CM CW (.ref x :: ([V.str sg, V.ref m] ++ [])) (upd (upd H2 dx (.own x)) x (.ins CW dx [])) (fun v H3 => v = .non ∧ Q (.ref x) H3) E) E := by
  intro m dm nm ndm nmm
  refine ⟨m, dm, .ref b, rfl, upd_same, rfl, fun x dx nx ndx nxx => ?_⟩
  have s1 : Same H (upd H dm (.own m)) := same_upd ndm
  have n1 : (upd H dm (.own m)) m = none := by rw [upd_ne nmm.symm]; exact nm
  have s2 : Same (upd H dm (.own m)) (upd (upd (upd H dm (.own m)) m (.ins CM dm [])) m (.ins CM dm [("content", .ref b)])) := same_put (same_upd n1) n1
  have em : (upd (upd (upd H dm (.own m)) m (.ins CM dm [])) m (.ins CM dm [("content", .ref b)])) m = some (.ins CM dm [("content", .ref b)]) := upd_same
  generalize upd (upd (upd H dm (.own m)) m (.ins CM dm [])) m (.ins CM dm [("content", .ref b)]) = H2 at s2 em nx ndx ⊢
  have s02 := s1.trans s2
  have s3 : Same H2 (upd H2 dx (.own x)) := same_upd ndx
  have n3 : (upd H2 dx (.own x)) x = none := by rw [upd_ne nxx.symm]; exact nx
  have s4 : Same (upd H2 dx (.own x)) (upd (upd H2 dx (.own x)) x (.ins CW dx [])) := same_upd n3
  have ex : (upd (upd H2 dx (.own x)) x (.ins CW dx [])) x = some (.ins CW dx []) := upd_same
  have s24 := s3.trans s4
  generalize upd (upd H2 dx (.own x)) x (.ins CW dx []) = H4 at s24 ex ⊢
  refine ⟨x, dx, sg, m, l, rfl, ex, hsg, .inl ⟨b, dm, s24 _ _ em, hb.same (s02.trans s24)⟩, hl, hrl, fun H' p bt e hp => ⟨rfl, q x H' (fun c o ec => ?_) ⟨dx, p, e, hp⟩⟩⟩
  have e2 := s02 _ _ ec
  exact bt _ _ (ne_of_none e2 nx) (s24 _ _ e2)
section
variable {P : Program} {w : World} {K : PySem.W.Frag} {mg : Str → Option Value} {base : Heap}
def spMul (K : PySem.W.Frag) (CW : Addr) : Sp := fun vs H Q _ => ∃ (a b : Addr) (sg : Str) (l k : Row), vs = [.ref a, .ref b] ∧ Signs sg ∧ WordAt K CW H a sg l ∧ WordAt K CW H b sg k ∧ l.length ≤ 200 ∧ k.length ≤ 200 ∧ (rowOf (l ++ k)).length ≤ 200 ∧
  ∀ x H', Same H H' → WordAt K CW H' x sg (rowOf (l ++ k)) → Q (.ref x) H'
theorem scMul : FnScope ["self", "other"] ["self", "other"] (defScope sMul) := ⟨rfl, rfl, rfl, by decide +kernel, rfl, by decide +kernel, by decide +kernel⟩
theorem ok_mul {CM CW fMI fWI f : Addr} {dMI dWI fd : FuncData} (F : Fun K "__mul__" "Word.__mul__" sMul f fd) (T : Txt K mg) (G : Makes4 P w K mg base CM CW fMI fWI dMI dWI) : FnOk P w K mg base CX0 6 f fd ["self", "other"] (spMul K CW) := by
  refine F.ok scMul (fun vs H Q E h => ?_) (fun cdv A outer s H vs Q E hr h => ?_)
  · obtain ⟨a, b, sg, l, k, rfl, _⟩ := h
    rfl
  · obtain ⟨a, b, sg, l, k, rfl, hsg, ⟨da, pa, ha, hl⟩, ⟨db, pb, hb, hk⟩, ll, lk, lr, q⟩ := h
    have r2 : Room 2 _ := hr.mono (by decide)
    refine ⟨_, pss_cons (ps_if (PW.pt (pw_or (pt_not (pt_val (pe_callB call_isi (by rfl) T.isi (by decide +kernel) (pa_cons (pv 1) (pa_cons (pe_glob (v := .ref CW) (by rfl) G.W.gW rfl) pa_nil)))))
        (pw_or1 (pt_cmpR op_ne (pe_fld (pv 1) rfl) (pe_fld (pv 0) rfl) (nomark _))))) (pss_one ps_never) pss_nil)
      (pss_one (ps_ret (pe_make G.mW G.gWI hr (by rfl) G.W.gW G.bWI .nil pass0 (pa_cons (pe_fld (pv 0) rfl) (pa_cons (pe_make G.mM G.gMI r2 (by rfl) G.W.gM G.bMI .nil pass0
        (pa_cons (pe_op op_catRow (pe_fld (pv 0) rfl) (pe_fld (pv 1) rfl)) pa_nil)) pa_nil))))), ?_⟩
    refine ⟨_, rfl, _, _, _, _, _, rfl, .own CW, G.W.tyW _ _ _ _ hb, G.W.iWW, true, rfl, ?_⟩
    refine ⟨_, rfl, b, CW, db, _, _, rfl, hb, G.W.clW, G.W.nL, rfl, _, rfl, a, CW, da, _, _, rfl, ha, G.W.clW, G.W.nL, rfl, rfl, _, rfl, ?_⟩
    rw [decide_eq_true rfl]
    refine iteF ?_
    refine ⟨_, rfl, a, CW, da, _, _, rfl, ha, G.W.clW, G.W.nL, rfl, ?_⟩
    refine ⟨_, rfl, a, CW, da, _, _, rfl, ha, G.W.clW, G.W.nR, rfl, _, rfl, b, CW, db, _, _, rfl, hb, G.W.clW, G.W.nR, rfl, ?_⟩
    refine ⟨pa, pb, l, k, rfl, rfl, hl, hk, by omega, fun p H1 s1 h1 => ?_⟩
    exact made_word G hsg h1 (by rw [List.length_append]; omega) lr fun x H' s h => q x H' (s1.trans s) h
end
end K4

set_option Elab.async false
set_option linter.all false
set_option maxRecDepth 100000
set_option maxHeartbeats 3200000
namespace K4
open PySem L2 Tx Tg Tm
abbrev sLen : Stmt := wdef 6
abbrev sEq : Stmt := wdef 8
theorem eqv_rows : ∀ l k : Row, PyData.eqvAll (rowsD l) (rowsD k) = decide (l = k)
  | [], [] => rfl
  | [], _ :: _ => rfl
  | _ :: _, [] => rfl
  | p :: l, q :: k => by
    show (((p.1 == q.1) && ((p.2 == q.2) && true)) && PyData.eqvAll (rowsD l) (rowsD k)) = _
    rw [eqv_rows l k, Bool.and_true, Bool.eq_iff_iff]
    simp only [Bool.and_eq_true, beq_iff_eq, decide_eq_true_eq, List.cons.injEq]
    constructor
    · rintro ⟨⟨h1, h2⟩, h3⟩
      exact ⟨Prod.ext h1 h2, h3⟩
    · rintro ⟨rfl, h3⟩
      exact ⟨⟨rfl, rfl⟩, h3⟩
section
variable {P : Program} {w : World} {K : PySem.W.Frag} {mg : Str → Option Value} {base : Heap}
def spInv (K : PySem.W.Frag) (CW : Addr) : Sp := fun vs H Q _ => ∃ (a : Addr) (sg : Str) (l : Row), vs = [.ref a] ∧ Signs sg ∧ WordAt K CW H a sg l ∧ l.length ≤ 200 ∧ ∀ x H', Same H H' → WordAt K CW H' x sg (rowOf (undo l)) → Q (.ref x) H'
theorem scInv : FnScope ["self"] ["self"] (defScope sInv) := ⟨rfl, rfl, rfl, by decide +kernel, rfl, by decide +kernel, by decide +kernel⟩
theorem ok_inv {CM CW fMI fWI f fU : Addr} {dMI dWI fd fdU : FuncData} (F : Fun K "__invert__" "Word.__invert__" sInv f fd) (T : Txt K mg) (G : Makes4 P w K mg base CM CW fMI fWI dMI dWI) (DU : Df K mg "undone_runs" sUndo ["runs"] fU fdU) : FnOk P w K mg base CX0 6 f fd ["self"] (spInv K CW) := by
  have GU := ok_undone (P := P) (w := w) (base := base) DU.F T
  refine F.ok scInv (fun vs H Q E h => ?_) (fun cdv A outer s H vs Q E hr h => ?_)
  · obtain ⟨a, sg, l, rfl, _⟩ := h
    rfl
  · obtain ⟨a, sg, l, rfl, hsg, ⟨da, pa, ha, hl⟩, ll, q⟩ := h
    have r1 : Room 1 _ := hr.mono (by decide)
    have r2 : Room 2 _ := hr.mono (by decide)
    refine ⟨_, pss_one (ps_ret (pe_make G.mW G.gWI hr (by rfl) G.W.gW G.bWI .nil pass0 (pa_cons (pe_fld (pv 0) rfl) (pa_cons (pe_make G.mM G.gMI r2 (by rfl) G.W.gM G.bMI .nil pass0
        (pa_cons (pe_call GU r1 (by rfl) DU.m DU.F.kp DU.b .nil pass0 (pa_cons (pe_fld (pv 0) rfl) pa_nil)) pa_nil)) pa_nil)))), ?_⟩
    refine ⟨_, rfl, a, CW, da, _, _, rfl, ha, G.W.clW, G.W.nL, rfl, ?_⟩
    refine ⟨_, rfl, a, CW, da, _, _, rfl, ha, G.W.clW, G.W.nR, rfl, ?_⟩
    refine ⟨pa, l, rfl, hl, by omega, fun p H1 s1 h1 => ?_⟩
    have := rowOf_len (undo l)
    have e := undo_len l
    exact made_word G hsg h1 (by omega) (by omega) fun x H' s h => q x H' (s1.trans s) h
def spLen (K : PySem.W.Frag) (CW : Addr) : Sp := fun vs H Q _ => ∃ (a : Addr) (sg : Str) (l : Row), vs = [.ref a] ∧ WordAt K CW H a sg l ∧ Q (.int (l.length : Nat)) H
theorem scLen : FnScope ["self"] ["self"] (defScope sLen) := ⟨rfl, rfl, rfl, by decide +kernel, rfl, by decide +kernel, by decide +kernel⟩
theorem ok_len {CM CW f : Addr} {fd : FuncData} (F : Fun K "__len__" "Word.__len__" sLen f fd) (T : Txt K mg) (W : WF K mg CM CW) : FnOk P w K mg base CX0 1 f fd ["self"] (spLen K CW) := by
  refine F.ok scLen (fun vs H Q E h => ?_) (fun cdv A outer s H vs Q E hr h => ?_)
  · obtain ⟨a, sg, l, rfl, _⟩ := h
    rfl
  · obtain ⟨a, sg, l, rfl, ⟨da, pa, ha, ys, hy, hp⟩, q⟩ := h
    refine ⟨_, pss_one (ps_ret (pe_callB call_len_seq (by rfl) T.len PySem.boot_len (pa_cons (pe_fld (pv 0) rfl) pa_nil))), ?_⟩
    refine ⟨_, rfl, a, CW, da, _, _, rfl, ha, W.clW, W.nR, rfl, pa, ys, rfl, .inr hy, ?_⟩
    rw [hp.length]
    exact q
def spEq (K : PySem.W.Frag) (CW : Addr) : Sp := fun vs H Q _ => ∃ (a b : Addr) (sg : Str) (l k : Row), vs = [.ref a, .ref b] ∧ WordAt K CW H a sg l ∧ WordAt K CW H b sg k ∧ Pl l ∧ Pl k ∧ Q (.bl (decide (l = k))) H
theorem scEq : FnScope ["self", "other"] ["self", "other"] (defScope sEq) := ⟨rfl, rfl, rfl, by decide +kernel, rfl, by decide +kernel, by decide +kernel⟩
theorem ok_eq {CM CW f : Addr} {fd : FuncData} (F : Fun K "__eq__" "Word.__eq__" sEq f fd) (T : Txt K mg) (W : WF K mg CM CW) : FnOk P w K mg base CX0 1 f fd ["self", "other"] (spEq K CW) := by
  refine F.ok scEq (fun vs H Q E h => ?_) (fun cdv A outer s H vs Q E hr h => ?_)
  · obtain ⟨a, b, sg, l, k, rfl, _⟩ := h
    rfl
  · obtain ⟨a, b, sg, l, k, rfl, ⟨da, pa, ha, xs, hx, px⟩, ⟨db, pb, hb, ys, hy, py⟩, pl, pk, q⟩ := h
    refine ⟨_, pss_one (ps_ret (pe_and (pe_callB call_isi (by rfl) T.isi (by decide +kernel) (pa_cons (pv 1) (pa_cons (pe_glob (v := .ref CW) (by rfl) W.gW rfl) pa_nil)))
      (pe_and (pe_cmpR op_eq (pe_fld (pv 0) rfl) (pe_fld (pv 1) rfl) (nomark _)) (pe_one (pe_cmpR (op_eqD hr.units) (pe_fld (pv 0) rfl) (pe_fld (pv 1) rfl) (nomark _)))))), ?_⟩
    refine ⟨_, rfl, _, _, _, _, _, rfl, .own CW, W.tyW _ _ _ _ hb, W.iWW, true, rfl, iteT ?_⟩
    refine ⟨_, rfl, a, CW, da, _, _, rfl, ha, W.clW, W.nL, rfl, _, rfl, b, CW, db, _, _, rfl, hb, W.clW, W.nL, rfl, rfl, _, rfl, ?_⟩
    rw [decide_eq_true rfl]
    refine iteT ?_
    refine ⟨_, rfl, a, CW, da, _, _, rfl, ha, W.clW, W.nR, rfl, _, rfl, b, CW, db, _, _, rfl, hb, W.clW, W.nR, rfl, ?_⟩
    refine ⟨.tuple (rowsD l), .tuple (rowsD k), .tup hx (rows_all px), .tup hy (rows_all py), shaped_row pl, shaped_row pk, ?_⟩
    have e : PyData.eqv (.tuple (rowsD l)) (.tuple (rowsD k)) = decide (l = k) := eqv_rows l k
    rw [e]
    exact q
end
end K4

set_option linter.all false
/-! signed texts: neighbours that undo one another, taken out in any order, leave the same; and the rows of runs of them. A sign is a letter and whether it is a capital; a stack lies with its last sign ahead. -/
namespace Cu
variable {α : Type} [DecidableEq α]
def opp (x : α × Bool) : α × Bool := (x.1, !x.2)
theorem opp_opp (x : α × Bool) : opp (opp x) = x := by
  obtain ⟨a, b⟩ := x
  show (a, !(!b)) = (a, b)
  rw [Bool.not_not]
def pushS (x : α × Bool) : List (α × Bool) → List (α × Bool)
  | [] => [x]
  | y :: r => if y = opp x then r else x :: y :: r
/-- no neighbours undo one another -/
def Plain : List (α × Bool) → Prop
  | [] => True
  | [_] => True
  | x :: y :: r => y ≠ opp x ∧ Plain (y :: r)
theorem Plain.tail {x : α × Bool} {r : List (α × Bool)} (h : Plain (x :: r)) : Plain r := by
  cases r with
  | nil => trivial
  | cons y r => exact h.2
theorem plain_push {x : α × Bool} {s : List (α × Bool)} (h : Plain s) : Plain (pushS x s) := by
  cases s with
  | nil => trivial
  | cons y r =>
    show Plain (if y = opp x then r else x :: y :: r)
    by_cases e : y = opp x
    · rw [if_pos e]
      exact h.tail
    · rw [if_neg e]
      exact ⟨e, h⟩
theorem push_pair {x : α × Bool} {s : List (α × Bool)} (h : Plain s) : pushS (opp x) (pushS x s) = s := by
  cases s with
  | nil =>
    show (if x = opp (opp x) then [] else [opp x, x]) = []
    rw [if_pos (opp_opp x).symm]
  | cons y r =>
    show pushS (opp x) (if y = opp x then r else x :: y :: r) = y :: r
    by_cases e : y = opp x
    · rw [if_pos e]
      cases r with
      | nil => rw [e]; rfl
      | cons z r =>
        have hz : z ≠ opp (opp x) := by
          rw [← e]
          exact h.1
        show (if z = opp (opp x) then r else opp x :: z :: r) = y :: z :: r
        rw [if_neg hz, e]
    · rw [if_neg e]
      show (if x = opp (opp x) then y :: r else opp x :: x :: y :: r) = y :: r
      rw [if_pos (opp_opp x).symm]
def run (s l : List (α × Bool)) : List (α × Bool) := l.foldl (fun s x => pushS x s) s
theorem run_app (s l m : List (α × Bool)) : run s (l ++ m) = run (run s l) m := List.foldl_append
theorem plain_run : ∀ {l s : List (α × Bool)}, Plain s → Plain (run s l)
  | [], _, h => h
  | x :: l, s, h => plain_run (l := l) (plain_push h)
/-- a pair taken out changes nothing -/
theorem run_cut {s l r : List (α × Bool)} {x : α × Bool} (h : Plain s) : run s (l ++ x :: opp x :: r) = run s (l ++ r) := by
  rw [run_app, run_app]
  show run (pushS (opp x) (pushS x (run s l))) r = _
  rw [push_pair (plain_run h)]
/-- what is left of a plain text is the text -/
theorem run_plain : ∀ {l s : List (α × Bool)}, Plain (l.reverse ++ s) → run s l = l.reverse ++ s
  | [], _, _ => rfl
  | x :: l, s, h => by
    rw [List.reverse_cons, List.append_assoc] at h ⊢
    have hs : Plain (x :: s) := by
      have : ∀ m : List (α × Bool), Plain (m ++ x :: s) → Plain (x :: s) := by
        intro m
        induction m with
        | nil => exact fun h => h
        | cons y m ih => exact fun h => ih h.tail
      exact this _ h
    have e : pushS x s = x :: s := by
      cases s with
      | nil => rfl
      | cons y r =>
        show (if y = opp x then r else x :: y :: r) = x :: y :: r
        rw [if_neg hs.1]
    show run (pushS x s) l = l.reverse ++ (x :: s)
    rw [e]
    exact run_plain h
theorem plain_rev_aux : ∀ (l : List (α × Bool)), (∀ i (h : i + 1 < l.length), l[i + 1] ≠ opp l[i]) → Plain l
  | [], _ => trivial
  | [_], _ => trivial
  | x :: y :: r, h => ⟨h 0 (by simp), plain_rev_aux (y :: r) fun i hi => h (i + 1) (by simpa using hi)⟩
/-- told by places -/
theorem plain_rev {l : List (α × Bool)} (h : ∀ i (h : i + 1 < l.length), l[i + 1] ≠ opp l[i]) : Plain l.reverse := by
  refine plain_rev_aux _ fun i hi => ?_
  rw [List.length_reverse] at hi
  rw [List.getElem_reverse, List.getElem_reverse]
  have := h (l.length - 1 - (i + 1)) (by omega)
  intro e
  have e2 : l.length - 1 - (i + 1) + 1 = l.length - 1 - i := by omega
  refine this ?_
  have e3 : l[l.length - 1 - (i + 1) + 1]'(by omega) = l[l.length - 1 - i]'(by omega) := by congr 1
  rw [e3, e, opp_opp]
/-- the reduced text -/
def nf (l : List (α × Bool)) : List (α × Bool) := (run [] l).reverse
theorem nf_cut {l r : List (α × Bool)} {x : α × Bool} : nf (l ++ x :: opp x :: r) = nf (l ++ r) := by
  unfold nf
  rw [run_cut (by exact trivial)]
theorem nf_plain {l : List (α × Bool)} (h : ∀ i (h : i + 1 < l.length), l[i + 1] ≠ opp l[i]) : nf l = l := by
  unfold nf
  rw [run_plain (by rw [List.append_nil]; exact plain_rev h), List.append_nil, List.reverse_reverse]
/-! ### runs -/
/-- a sign as a run -/
def sg (x : α × Bool) : α × Int := (x.1, if x.2 then -1 else 1)
/-- the signs of a run -/
def ex1 (p : α × Int) : List (α × Bool) := List.replicate p.2.natAbs (p.1, decide (p.2 < 0))
/-- the signs of a row (both with the last ahead) -/
def ex : List (α × Int) → List (α × Bool)
  | [] => []
  | p :: r => ex1 p ++ ex r
theorem ex1_pos {a : α} {n : Int} (h : 0 < n) : ex1 (a, n + 1) = (a, false) :: ex1 (a, n) := by
  unfold ex1
  have e : (n + 1).natAbs = n.natAbs + 1 := by omega
  rw [e, List.replicate_succ, decide_eq_false (by show ¬ (n + 1 < 0); omega), decide_eq_false (by show ¬ (n < 0); omega)]
theorem ex1_neg {a : α} {n : Int} (h : n < 0) : ex1 (a, n + -1) = (a, true) :: ex1 (a, n) := by
  unfold ex1
  have e : (n + -1).natAbs = n.natAbs + 1 := by omega
  rw [e, List.replicate_succ, decide_eq_true (by show n + -1 < 0; omega), decide_eq_true (by show n < 0; omega)]
theorem ex1_head {p : α × Int} (h : p.2 ≠ 0) : ∃ r, ex1 p = (p.1, decide (p.2 < 0)) :: r := by
  unfold ex1
  cases e : p.2.natAbs with
  | zero => exact absurd (Int.natAbs_eq_zero.mp e) h
  | succ n => exact ⟨_, List.replicate_succ⟩
theorem ex_push {x : α × Bool} {r : List (α × Int)} (h : Wm.Red r) : ex (Wm.push (sg x) r) = pushS x (ex r) := by
  obtain ⟨a, b⟩ := x
  have h1 : (sg (a, b)).2 ≠ 0 := by
    cases b
    · exact show (1 : Int) ≠ 0 by decide
    · exact show (-1 : Int) ≠ 0 by decide
  have e1 : ex1 (sg (a, b)) = [(a, b)] := by cases b <;> rfl
  cases r with
  | nil =>
    show ex (if (sg (a, b)).2 = 0 then [] else [sg (a, b)]) = _
    rw [if_neg h1]
    show ex1 (sg (a, b)) ++ [] = [(a, b)]
    rw [e1]
    rfl
  | cons q t =>
    obtain ⟨c, n⟩ := q
    have hn : n ≠ 0 := h.head
    show ex (if (sg (a, b)).2 = 0 then (c, n) :: t else if c = a then (if n + (sg (a, b)).2 = 0 then t else (c, n + (sg (a, b)).2) :: t) else sg (a, b) :: (c, n) :: t) = pushS (a, b) (ex1 (c, n) ++ ex t)
    rw [if_neg h1]
    by_cases ec : c = a
    · subst ec
      rw [if_pos rfl]
      cases b with
      | false =>
        show ex (if n + 1 = 0 then t else (c, n + 1) :: t) = _
        by_cases e0 : n + 1 = 0
        · have : n = -1 := by omega
          subst this
          rw [if_pos e0]
          show _ = (if (c, true) = opp (c, false) then ex t else _)
          rw [if_pos (show (c, true) = opp (c, false) from rfl)]
        · rw [if_neg e0]
          show ex1 (c, n + 1) ++ ex t = _
          by_cases hp : 0 < n
          · rw [ex1_pos hp]
            obtain ⟨m, em⟩ := ex1_head (p := (c, n)) hn
            rw [em, decide_eq_false (by show ¬ (n < 0); omega)]
            show _ = (if (c, false) = opp (c, false) then _ else (c, false) :: (c, false) :: (m ++ ex t))
            rw [if_neg (by intro z; injection z with _ z; cases z)]
            rfl
          · have hm : n + 1 < 0 := by omega
            have := ex1_neg (a := c) hm
            rw [show n + 1 + -1 = n by omega] at this
            rw [this]
            show _ = (if (c, true) = opp (c, false) then ex1 (c, n + 1) ++ ex t else _)
            rw [if_pos (show (c, true) = opp (c, false) from rfl)]
      | true =>
        show ex (if n + -1 = 0 then t else (c, n + -1) :: t) = _
        by_cases e0 : n + -1 = 0
        · have : n = 1 := by omega
          subst this
          rw [if_pos e0]
          show _ = (if (c, false) = opp (c, true) then ex t else _)
          rw [if_pos (show (c, false) = opp (c, true) from rfl)]
        · rw [if_neg e0]
          show ex1 (c, n + -1) ++ ex t = _
          by_cases hp : n < 0
          · rw [ex1_neg hp]
            obtain ⟨m, em⟩ := ex1_head (p := (c, n)) hn
            rw [em, decide_eq_true (show n < 0 from hp)]
            show _ = (if (c, true) = opp (c, true) then _ else (c, true) :: (c, true) :: (m ++ ex t))
            rw [if_neg (by intro z; injection z with _ z; cases z)]
            rfl
          · have hm : 0 < n + -1 := by omega
            have := ex1_pos (a := c) hm
            rw [show n + -1 + 1 = n by omega] at this
            rw [this]
            show _ = (if (c, false) = opp (c, true) then ex1 (c, n + -1) ++ ex t else _)
            rw [if_pos (show (c, false) = opp (c, true) from rfl)]
    · rw [if_neg ec]
      show ex1 (sg (a, b)) ++ (ex1 (c, n) ++ ex t) = _
      rw [e1]
      obtain ⟨m, em⟩ := ex1_head (p := (c, n)) hn
      rw [em]
      show (a, b) :: ((c, decide (n < 0)) :: (m ++ ex t)) = (if (c, decide (n < 0)) = opp (a, b) then _ else _)
      rw [if_neg fun z => ec (congrArg Prod.fst z)]
      rfl
theorem ex_joint : ∀ {l : List (α × Bool)} {r : List (α × Int)}, Wm.Red r → ex (Wm.joint r (l.map sg)) = run (ex r) l
  | [], _, _ => rfl
  | x :: l, r, h => by
    show ex (Wm.joint (Wm.push (sg x) r) (l.map sg)) = run (pushS x (ex r)) l
    rw [← ex_push h]
    exact ex_joint (Wm.red_push h)
/-- the row of a signed text, written out, is the reduced text -/
theorem ex_row (l : List (α × Bool)) : (ex (Wm.joint [] (l.map sg))).reverse = nf l := by
  rw [ex_joint (by exact trivial)]
  rfl
theorem ex_inj : ∀ {r t : List (α × Int)}, Wm.Red r → Wm.Red t → ex r = ex t → r = t
  | [], [], _, _, _ => rfl
  | [], q :: t, _, h, e => by
    obtain ⟨m, em⟩ := ex1_head h.head
    have e : ([] : List (α × Bool)) = ex1 q ++ ex t := e
    rw [em] at e
    cases e
  | p :: r, [], h, _, e => by
    obtain ⟨m, em⟩ := ex1_head h.head
    have e : ex1 p ++ ex r = ([] : List (α × Bool)) := e
    rw [em] at e
    cases e
  | (a, m) :: r, (b, n) :: t, h, k, e => by
    have e : ex1 (a, m) ++ ex r = ex1 (b, n) ++ ex t := e
    obtain ⟨m1, em⟩ := ex1_head (p := (a, m)) h.head
    obtain ⟨n1, en⟩ := ex1_head (p := (b, n)) k.head
    have hm : m ≠ 0 := h.head
    have hn : n ≠ 0 := k.head
    have eh : (a, decide (m < 0)) = (b, decide (n < 0)) := by
      rw [em, en] at e
      exact (List.cons.inj e).1
    obtain ⟨rfl, es⟩ := Prod.mk.inj eh
    have es : decide (m < 0) = decide (n < 0) := es
    have hd : ∀ {a : α} {m : Int} {r : List (α × Int)} (b : Bool), Wm.Red ((a, m) :: r) → ∀ y s, ex r = y :: s → y ≠ (a, b) := by
      intro a m r b h y s e z
      cases r with
      | nil => cases e
      | cons q r =>
        obtain ⟨w, ew⟩ := ex1_head (p := q) h.tail.head
        have e : ex1 q ++ ex r = y :: s := e
        rw [ew] at e
        have := (List.cons.inj e).1
        rw [z] at this
        exact h.2.1 (congrArg Prod.fst this).symm
    have rep : ∀ (i j : Nat) (x : α × Bool) (u v : List (α × Bool)), (∀ y s, u = y :: s → y ≠ x) → (∀ y s, v = y :: s → y ≠ x) → List.replicate i x ++ u = List.replicate j x ++ v → i = j ∧ u = v := by
      intro i
      induction i with
      | zero =>
        intro j x u v hu hv e
        cases j with
        | zero => exact ⟨rfl, e⟩
        | succ j => exact absurd rfl (hu x (List.replicate j x ++ v) (by have : u = List.replicate (j + 1) x ++ v := e; rw [this, List.replicate_succ]; rfl))
      | succ i ih =>
        intro j x u v hu hv e
        cases j with
        | zero => exact absurd rfl (hv x (List.replicate i x ++ u) (by have : List.replicate (i + 1) x ++ u = v := e; rw [← this, List.replicate_succ]; rfl))
        | succ j =>
          rw [List.replicate_succ, List.replicate_succ] at e
          obtain ⟨e1, e2⟩ := ih j x u v hu hv (List.cons.inj e).2
          exact ⟨by rw [e1], e2⟩
    have e2 : List.replicate m.natAbs (a, decide (m < 0)) ++ ex r = List.replicate n.natAbs (a, decide (m < 0)) ++ ex t := by
      have : ex1 (a, n) = List.replicate n.natAbs (a, decide (m < 0)) := by
        show List.replicate n.natAbs (a, decide (n < 0)) = _
        rw [es]
      rw [← this]
      exact e
    obtain ⟨e3, e4⟩ := rep _ _ _ _ _ (hd _ h) (hd _ k) e2
    have emn : m = n := by
      by_cases z : m < 0
      · have : n < 0 := of_decide_eq_true (by rw [← es]; exact decide_eq_true z)
        omega
      · have : ¬ n < 0 := of_decide_eq_false (by rw [← es]; exact decide_eq_false z)
        omega
    subst emn
    rw [ex_inj h.tail k.tail e4]
/-- two signed texts have one row exactly if they are reduced to the same -/
theorem row_iff (l m : List (α × Bool)) : Wm.joint [] (l.map sg) = Wm.joint [] (m.map sg) ↔ nf l = nf m := by
  constructor
  · intro e
    rw [← ex_row, ← ex_row, e]
  · intro e
    rw [← ex_row, ← ex_row] at e
    exact ex_inj (Wm.red_joint trivial) (Wm.red_joint trivial) (List.reverse_inj.mp e)
end Cu

set_option linter.all false
/-! turns of points, as lists: put together, undone, and how often they lead all points back -/
namespace Pm
variable {n p q : Nat} {t u v : List Nat}
/-- where a turn leads a point -/
def to (t : List Nat) (p : Nat) : Nat := t.getD p 0
def Turn (n : Nat) (t : List Nat) : Prop := t.Perm (List.range n)
theorem to_get (h : p < t.length) : to t p = t[p] := by
  unfold to
  rw [List.getD_eq_getElem?_getD, List.getElem?_eq_getElem h]
  rfl
theorem Turn.len (h : Turn n t) : t.length = n := by
  have := h.length_eq
  rw [List.length_range] at this
  exact this
theorem Turn.mem (h : Turn n t) : p ∈ t ↔ p < n := h.mem_iff.trans List.mem_range
theorem Turn.nodup (h : Turn n t) : t.Nodup := h.nodup_iff.mpr List.nodup_range
theorem Turn.lt (h : Turn n t) (hp : p < n) : to t p < n := by
  have hp' : p < t.length := by rw [h.len]; exact hp
  rw [to_get hp']
  exact h.mem.mp (List.getElem_mem hp')
def joint (t u : List Nat) : List Nat := t.map (to u)
theorem range_map (h : u.length = n) : (List.range n).map (to u) = u := by
  apply List.ext_getElem
  · rw [List.length_map, List.length_range, h]
  · intro i h1 h2
    rw [List.getElem_map, List.getElem_range, to_get h2]
theorem turn_joint (h : Turn n t) (k : Turn n u) : Turn n (joint t u) := by
  have := h.map (to u)
  rw [range_map k.len] at this
  exact this.trans k
theorem joint_len : (joint t u).length = t.length := List.length_map ..
theorem to_joint (hp : p < t.length) : to (joint t u) p = to u (to t p) := by
  rw [to_get (by rw [joint_len]; exact hp), to_get hp]
  exact List.getElem_map ..
theorem joint_assoc (h : Turn n t) (k : Turn n u) : joint (joint t u) v = joint t (joint u v) := by
  unfold joint
  rw [List.map_map]
  refine List.map_congr_left fun x hx => ?_
  exact (to_joint (t := u) (u := v) (by rw [k.len]; exact h.mem.mp hx)).symm
theorem to_still (hp : p < n) : to (List.range n) p = p := by
  rw [to_get (by rw [List.length_range]; exact hp), List.getElem_range]
theorem joint_still (h : Turn n t) : joint t (List.range n) = t := by
  unfold joint
  have : t.map (to (List.range n)) = t.map id := List.map_congr_left fun x hx => to_still (h.mem.mp hx)
  rw [this, List.map_id]
theorem still_joint (h : Turn n t) : joint (List.range n) t = t := range_map h.len
theorem still_turn : Turn n (List.range n) := List.Perm.refl _
/-- two turns are the same if they lead all points so -/
theorem turn_ext (h : Turn n t) (k : Turn n u) (e : ∀ p, p < n → to t p = to u p) : t = u := by
  rw [← range_map h.len, ← range_map k.len]
  exact List.map_congr_left fun x hx => e x (List.mem_range.mp hx)
theorem nodup_inj {l : List Nat} (h : l.Nodup) {i j : Nat} (hi : i < l.length) (hj : j < l.length) (e : l[i] = l[j]) : i = j := by
  rcases Nat.lt_trichotomy i j with c | c | c
  · exact absurd e (List.pairwise_iff_getElem.mp h i j hi hj c)
  · exact c
  · exact absurd e.symm (List.pairwise_iff_getElem.mp h j i hj hi c)
def undone (t : List Nat) : List Nat := (List.range t.length).map fun q => t.idxOf q
theorem to_idx (h : Turn n t) (hq : q < n) : to t (t.idxOf q) = q := by
  have hm := h.mem.mpr hq
  rw [to_get (List.idxOf_lt_length_of_mem hm)]
  exact List.getElem_idxOf _
theorem idx_to (h : Turn n t) (hp : p < n) : t.idxOf (to t p) = p := by
  have hp' : p < t.length := by rw [h.len]; exact hp
  have hm : to t p ∈ t := h.mem.mpr (h.lt hp)
  have hl := List.idxOf_lt_length_of_mem hm
  have e : t[t.idxOf (to t p)] = t[p] := by
    rw [List.getElem_idxOf]
    exact to_get hp'
  exact nodup_inj h.nodup hl hp' e
theorem undone_len : (undone t).length = t.length := by
  unfold undone
  rw [List.length_map, List.length_range]
theorem to_undone (h : Turn n t) (hq : q < n) : to (undone t) q = t.idxOf q := by
  have hq' : q < t.length := by rw [h.len]; exact hq
  rw [to_get (by rw [undone_len]; exact hq')]
  unfold undone
  rw [List.getElem_map, List.getElem_range]
theorem turn_undone (h : Turn n t) : Turn n (undone t) := by
  have h1 : undone t = (List.range n).map fun q => t.idxOf q := by unfold undone; rw [h.len]
  have h2 : t.map (fun q => t.idxOf q) = List.range n := by
    apply List.ext_getElem
    · rw [List.length_map, h.len, List.length_range]
    · intro i h3 h4
      rw [List.length_range] at h4
      rw [List.getElem_map, List.getElem_range]
      have := idx_to h h4
      rw [to_get (by rw [h.len]; exact h4)] at this
      exact this
  have h3 := (h.symm).map fun q => t.idxOf q
  rw [h2] at h3
  rw [h1]
  exact h3
theorem joint_undone (h : Turn n t) : joint t (undone t) = List.range n :=
  turn_ext (turn_joint h (turn_undone h)) still_turn fun p hp => by
    rw [to_joint (by rw [h.len]; exact hp), to_undone h (h.lt hp), idx_to h hp, to_still hp]
theorem undone_joint (h : Turn n t) : joint (undone t) t = List.range n :=
  turn_ext (turn_joint (turn_undone h) h) still_turn fun p hp => by
    rw [to_joint (by rw [(turn_undone h).len]; exact hp), to_undone h hp, to_idx h hp, to_still hp]
theorem undone_undone (h : Turn n t) : undone (undone t) = t := by
  have k := turn_undone h
  have e : joint (joint (undone (undone t)) (undone t)) t = joint (undone (undone t)) (joint (undone t) t) := joint_assoc (turn_undone k) k
  rw [undone_joint k, undone_joint h, still_joint h, joint_still (turn_undone k)] at e
  exact e.symm
theorem undone_of_joint (h : Turn n t) (k : Turn n u) : undone (joint t u) = joint (undone u) (undone t) := by
  have hj := turn_joint h k
  have hu := turn_undone hj
  refine turn_ext hu (turn_joint (turn_undone k) (turn_undone h)) fun p hp => ?_
  rw [to_undone hj hp, to_joint (by rw [(turn_undone k).len]; exact hp), to_undone k hp]
  have hp1 : u.idxOf p < n := by
    have := List.idxOf_lt_length_of_mem (k.mem.mpr hp)
    rw [k.len] at this
    exact this
  rw [to_undone h hp1]
  have hp2 : t.idxOf (u.idxOf p) < n := by
    have := List.idxOf_lt_length_of_mem (h.mem.mpr hp1)
    rw [h.len] at this
    exact this
  have e : to (joint t u) (t.idxOf (u.idxOf p)) = p := by rw [to_joint (by rw [h.len]; exact hp2), to_idx h hp1, to_idx k hp]
  have := idx_to hj hp2
  rw [e] at this
  exact this
theorem to_inj (h : Turn n t) (hp : p < n) (hq : q < n) (e : to t p = to t q) : p = q := by
  rw [← idx_to h hp, e, idx_to h hq]
/-! again and again -/
def it (t : List Nat) : Nat → Nat → Nat
  | 0, p => p
  | k + 1, p => to t (it t k p)
theorem it_lt (h : Turn n t) (hp : p < n) : ∀ k, it t k p < n
  | 0 => hp
  | k + 1 => h.lt (it_lt h hp k)
theorem it_add (t : List Nat) (a : Nat) (p : Nat) : ∀ b, it t (b + a) p = it t b (it t a p)
  | 0 => by rw [Nat.zero_add]; rfl
  | b + 1 => by
    rw [show b + 1 + a = (b + a) + 1 by omega]
    show to t (it t (b + a) p) = to t (it t b (it t a p))
    rw [it_add t a p b]
theorem it_comm (t : List Nat) (a b p : Nat) : it t a (it t b p) = it t b (it t a p) := by rw [← it_add, ← it_add, Nat.add_comm]
theorem it_mul {m : Nat} (e : it t m p = p) : ∀ c, it t (m * c) p = p
  | 0 => rfl
  | c + 1 => by
    rw [Nat.mul_succ, it_add, e]
    exact it_mul e c
theorem it_inj (h : Turn n t) (hp : p < n) (hq : q < n) : ∀ k, it t k p = it t k q → p = q
  | 0, e => e
  | k + 1, e => it_inj h hp hq k (to_inj h (it_lt h hp k) (it_lt h hq k) e)
/-- if no earlier one comes back, then all that come back are multiples -/
theorem it_dvd {m : Nat} (h : Turn n t) (hp : p < n) (hm : 0 < m) (e : it t m p = p) (hl : ∀ k, 0 < k → k < m → it t k p ≠ p) (k : Nat) : it t k p = p ↔ m ∣ k := by
  constructor
  · intro hk
    have e2 : it t (k % m) p = p := by
      have := Nat.div_add_mod k m
      have e3 : it t (k % m + m * (k / m)) p = p := by rw [Nat.add_comm, this]; exact hk
      rw [it_add, it_mul e] at e3
      exact e3
    by_cases h0 : k % m = 0
    · exact Nat.dvd_of_mod_eq_zero h0
    · exact absurd e2 (hl _ (Nat.pos_of_ne_zero h0) (Nat.mod_lt _ hm))
  · rintro ⟨c, rfl⟩
    exact it_mul e c
/-- the order: just the multiples lead all points back -/
def Ord (n : Nat) (t : List Nat) (L : Nat) : Prop := 0 < L ∧ ∀ k, (∀ p, p < n → it t k p = p) ↔ L ∣ k
theorem ord_uniq {L M : Nat} (a : Ord n t L) (b : Ord n t M) : L = M :=
  Nat.dvd_antisymm ((a.2 M).mp ((b.2 M).mpr (Nat.dvd_refl M))) ((b.2 L).mp ((a.2 L).mpr (Nat.dvd_refl L)))
theorem ord_undone {L : Nat} (h : Turn n t) (a : Ord n t L) : Ord n (undone t) L := by
  refine ⟨a.1, fun k => Iff.trans ?_ (a.2 k)⟩
  have b1 : ∀ k p, p < n → it t k (it (undone t) k p) = p := by
    intro k
    induction k with
    | zero => intro p hp; rfl
    | succ k ih =>
      intro p hp
      have hq := it_lt (turn_undone h) hp k
      have e : it t (k + 1) (to (undone t) (it (undone t) k p)) = it t k (to t (to (undone t) (it (undone t) k p))) := it_add t 1 _ k
      show it t (k + 1) (to (undone t) (it (undone t) k p)) = p
      rw [e, to_undone h hq, to_idx h hq]
      exact ih p hp
  constructor
  · intro hk p hp
    have := b1 k p hp
    rw [hk p hp] at this
    exact this
  · intro hk p hp
    have := b1 k p hp
    rw [hk _ (it_lt (turn_undone h) hp k)] at this
    exact this
theorem ord_conj {L : Nat} {c d s : List Nat} (hc : Turn n c) (hd : Turn n d) (hs : Turn n s) (e : ∀ p, p < n → to d (to s p) = to s (to c p)) (a : Ord n c L) : Ord n d L := by
  refine ⟨a.1, fun k => Iff.trans ?_ (a.2 k)⟩
  have b1 : ∀ k p, p < n → it d k (to s p) = to s (it c k p) := by
    intro k
    induction k with
    | zero => intro p hp; rfl
    | succ k ih =>
      intro p hp
      show to d (it d k (to s p)) = to s (to c (it c k p))
      rw [ih p hp, e _ (it_lt hc hp k)]
  constructor
  · intro hk p hp
    have := b1 k p hp
    rw [hk _ (hs.lt hp)] at this
    exact (to_inj hs hp (it_lt hc hp k) this).symm
  · intro hk q hq
    have := b1 k (s.idxOf q) (by
      have := List.idxOf_lt_length_of_mem (hs.mem.mpr hq)
      rw [hs.len] at this
      exact this)
    rw [to_idx hs hq, hk _ (by
      have := List.idxOf_lt_length_of_mem (hs.mem.mpr hq)
      rw [hs.len] at this
      exact this), to_idx hs hq] at this
    exact this
theorem ord_one {L : Nat} (h : Turn n t) (a : Ord n t L) : L = 1 ↔ t = List.range n := by
  have e := a.2 1
  constructor
  · intro hl
    refine turn_ext h still_turn fun p hp => ?_
    rw [to_still hp]
    exact e.mpr (by rw [hl]; exact Nat.dvd_refl 1) p hp
  · intro ht
    exact Nat.dvd_one.mp (e.mp fun p hp => by
      show to t p = p
      rw [ht]
      exact to_still hp)
/-- so many of a turn -/
def pw (t : List Nat) : Nat → List Nat
  | 0 => t
  | k + 1 => joint (pw t k) t
theorem turn_pw (h : Turn n t) : ∀ k, Turn n (pw t k)
  | 0 => h
  | k + 1 => turn_joint (turn_pw h k) h
theorem to_pw (h : Turn n t) (hp : p < n) : ∀ k, to (pw t k) p = it t (k + 1) p
  | 0 => rfl
  | k + 1 => by
    show to (joint (pw t k) t) p = to t (it t (k + 1) p)
    rw [to_joint (by rw [(turn_pw h k).len]; exact hp), to_pw h hp k]
theorem pw_still {L k : Nat} (h : Turn n t) (a : Ord n t L) : pw t k = List.range n ↔ L ∣ k + 1 := by
  rw [← a.2 (k + 1)]
  constructor
  · intro e p hp
    rw [← to_pw h hp, e, to_still hp]
  · intro e
    exact turn_ext (turn_pw h k) still_turn fun p hp => by rw [to_pw h hp, e p hp, to_still hp]
end Pm

set_option linter.all false
/-! the rows of points that a turn leads round -/
namespace Pm
variable {n : Nat} {t : List Nat}
theorem len_le : ∀ {l r : List Nat}, l.Nodup → (∀ x ∈ l, x ∈ r) → l.length ≤ r.length
  | [], _, _, _ => Nat.zero_le _
  | a :: l, r, hn, hs => by
    have ha := hs a List.mem_cons_self
    have hn' := List.nodup_cons.mp hn
    have := len_le (l := l) (r := r.erase a) hn'.2 fun x hx => by
      have hne : x ≠ a := fun e => hn'.1 (e ▸ hx)
      exact (List.mem_erase_of_ne hne).mpr (hs x (List.mem_cons_of_mem _ hx))
    have h1 := List.length_erase_of_mem ha
    have h2 := List.length_pos_of_mem ha
    rw [List.length_cons]
    omega
theorem small_len {l : List Nat} (h : l.Nodup) (hl : ∀ x ∈ l, x < n) : l.length ≤ n := by
  have := len_le (r := List.range n) h fun x hx => List.mem_range.mpr (hl x hx)
  rw [List.length_range] at this
  exact this
/-- what is known ahead of the start i -/
structure Out (n : Nat) (t : List Nat) (i : Nat) (S M : List Nat) : Prop where
  nd : S.Nodup
  lt : ∀ p ∈ S, p < n
  cl : ∀ p, p < n → (p ∈ S ↔ to t p ∈ S)
  all : ∀ p, p < i → p ∈ S
  per : ∀ k, (∀ p ∈ S, it t k p = p) ↔ ∀ m ∈ M, m ∣ k
  sz : ∀ m ∈ M, 1 ≤ m ∧ m ≤ n
  ln : M.length ≤ i
def walk (t : List Nat) (s j : Nat) : List Nat := (List.range j).map fun k => it t k s
theorem walk_succ (t : List Nat) (s j : Nat) : walk t s (j + 1) = walk t s j ++ [it t j s] := by
  unfold walk
  rw [List.range_succ, List.map_append]
  rfl
theorem mem_walk {s j x : Nat} : x ∈ walk t s j ↔ ∃ k, k < j ∧ it t k s = x := by
  unfold walk
  rw [List.mem_map]
  constructor
  · rintro ⟨k, hk, e⟩
    exact ⟨k, List.mem_range.mp hk, e⟩
  · rintro ⟨k, hk, e⟩
    exact ⟨k, List.mem_range.mpr hk, e⟩
theorem walk_len (t : List Nat) (s j : Nat) : (walk t s j).length = j := by
  unfold walk
  rw [List.length_map, List.length_range]
/-- what is known on the way from the start s -/
structure In (S : List Nat) (t : List Nat) (s j : Nat) : Prop where
  nd : (walk t s j).Nodup
  off : ∀ x ∈ walk t s j, x ∉ S
theorem in_zero (S : List Nat) (t : List Nat) (s : Nat) : In S t s 0 := ⟨List.nodup_nil, fun x hx => by cases hx⟩
theorem in_succ {S : List Nat} {s j : Nat} (h : In S t s j) (hp : it t j s ∉ S ++ walk t s j) : In S t s (j + 1) := by
  rw [List.mem_append, not_or] at hp
  constructor
  · rw [walk_succ]
    refine List.nodup_append.mpr ⟨h.nd, by simp, fun x hx y hy e => ?_⟩
    rw [List.mem_singleton.mp hy] at e
    exact hp.2 (e ▸ hx)
  · intro x hx
    rw [walk_succ] at hx
    rcases List.mem_append.mp hx with hx | hx
    · exact h.off x hx
    · rw [List.mem_singleton.mp hx]
      exact hp.1
theorem in_le {S : List Nat} {s j : Nat} (ht : Turn n t) (hs : s < n) (h : In S t s j) : j ≤ n := by
  have := small_len (n := n) h.nd fun x hx => by
    obtain ⟨k, _, e⟩ := mem_walk.mp hx
    rw [← e]
    exact it_lt ht hs k
  rw [walk_len] at this
  exact this
theorem out_zero : Out n t 0 [] [] := ⟨List.nodup_nil, (fun p hp => (by cases hp)), (fun p _ => ⟨(fun h => (by cases h)), (fun h => (by cases h))⟩), (fun p hp => absurd hp (Nat.not_lt_zero p)), (fun k => ⟨(fun _ m hm => (by cases hm)), (fun _ p hp => (by cases hp))⟩), (fun m hm => (by cases hm)), Nat.le_refl 0⟩
theorem out_same {i : Nat} {S M : List Nat} (h : Out n t i S M) (hi : i ∈ S) : Out n t (i + 1) S M :=
  ⟨h.nd, h.lt, h.cl, fun p hp => by
    rcases Nat.lt_succ_iff_lt_or_eq.mp hp with c | c
    · exact h.all p c
    · rw [c]; exact hi, h.per, h.sz, by have := h.ln; omega⟩
theorem it_mem {i : Nat} {S M : List Nat} (ht : Turn n t) (h : Out n t i S M) {s : Nat} (hs : s < n) : ∀ k, it t k s ∈ S → s ∈ S
  | 0, e => e
  | k + 1, e => it_mem ht h hs k ((h.cl _ (it_lt ht hs k)).mpr e)
theorem it_back {s j : Nat} {S M : List Nat} {i : Nat} (ht : Turn n t) (h : Out n t i S M) (hs : s < n) (hI : In S t s (j + 1)) (hp : it t (j + 1) s ∈ S ++ walk t s (j + 1)) : it t (j + 1) s = s := by
  have h0 : s ∉ S := hI.off s (mem_walk.mpr ⟨0, Nat.succ_pos j, rfl⟩)
  rcases List.mem_append.mp hp with hp | hp
  · exact absurd (it_mem ht h hs _ hp) h0
  · obtain ⟨k, hk, e⟩ := mem_walk.mp hp
    cases k with
    | zero => exact e.symm
    | succ k =>
      have e2 : it t k s = it t j s := to_inj ht (it_lt ht hs k) (it_lt ht hs j) e
      have hl : (walk t s (j + 1)).length = j + 1 := walk_len ..
      have e3 : (walk t s (j + 1))[k]'(by omega) = (walk t s (j + 1))[j]'(by omega) := by
        unfold walk
        rw [List.getElem_map, List.getElem_map, List.getElem_range, List.getElem_range]
        exact e2
      have := nodup_inj hI.nd _ _ e3
      omega
theorem out_succ {j i : Nat} {S M : List Nat} (ht : Turn n t) (h : Out n t i S M) (hs : i < n) (hI : In S t i (j + 1)) (hp : it t (j + 1) i ∈ S ++ walk t i (j + 1)) : Out n t (i + 1) (S ++ walk t i (j + 1)) (M ++ [j + 1]) := by
  have hb := it_back ht h hs hI hp
  have hne : ∀ k, 0 < k → k < j + 1 → it t k i ≠ i := by
    intro k h0 hk e
    have hl : (walk t i (j + 1)).length = j + 1 := walk_len ..
    have e3 : (walk t i (j + 1))[k]'(by omega) = (walk t i (j + 1))[0]'(by omega) := by
      unfold walk
      rw [List.getElem_map, List.getElem_map, List.getElem_range, List.getElem_range]
      exact e
    have := nodup_inj hI.nd _ _ e3
    omega
  refine ⟨?_, ?_, ?_, ?_, ?_, ?_, ?_⟩
  · refine List.nodup_append.mpr ⟨h.nd, hI.nd, fun x hx y hy e => ?_⟩
    exact hI.off y hy (e ▸ hx)
  · intro p hp'
    rcases List.mem_append.mp hp' with c | c
    · exact h.lt p c
    · obtain ⟨k, _, e⟩ := mem_walk.mp c
      rw [← e]
      exact it_lt ht hs k
  · intro p hpn
    rw [List.mem_append, List.mem_append]
    constructor
    · rintro (c | c)
      · exact .inl ((h.cl p hpn).mp c)
      · obtain ⟨k, hk, e⟩ := mem_walk.mp c
        refine .inr (mem_walk.mpr ?_)
        by_cases hk2 : k + 1 < j + 1
        · exact ⟨k + 1, hk2, by show to t (it t k i) = to t p; rw [e]⟩
        · have : k = j := by omega
          subst this
          exact ⟨0, by omega, by
            show i = to t p
            rw [← e]
            exact hb.symm⟩
    · rintro (c | c)
      · exact .inl ((h.cl p hpn).mpr c)
      · obtain ⟨k, hk, e⟩ := mem_walk.mp c
        refine .inr (mem_walk.mpr ?_)
        cases k with
        | zero =>
          refine ⟨j, Nat.lt_succ_self j, to_inj ht (it_lt ht hs j) hpn ?_⟩
          exact hb.trans e
        | succ k => exact ⟨k, by omega, to_inj ht (it_lt ht hs k) hpn e⟩
  · intro p hp'
    rcases Nat.lt_succ_iff_lt_or_eq.mp hp' with c | c
    · exact List.mem_append_left _ (h.all p c)
    · rw [c]
      exact List.mem_append_right _ (mem_walk.mpr ⟨0, Nat.succ_pos j, rfl⟩)
  · intro k
    have e1 : (∀ p ∈ walk t i (j + 1), it t k p = p) ↔ (j + 1) ∣ k := by
      rw [← it_dvd ht hs (Nat.succ_pos j) hb hne k]
      constructor
      · intro a
        exact a i (mem_walk.mpr ⟨0, Nat.succ_pos j, rfl⟩)
      · intro a p hp'
        obtain ⟨m, _, e⟩ := mem_walk.mp hp'
        rw [← e, it_comm, a]
    constructor
    · intro a m hm
      rcases List.mem_append.mp hm with c | c
      · exact (h.per k).mp (fun p hp' => a p (List.mem_append_left _ hp')) m c
      · rw [List.mem_singleton.mp c]
        exact e1.mp fun p hp' => a p (List.mem_append_right _ hp')
    · intro a p hp'
      rcases List.mem_append.mp hp' with c | c
      · exact (h.per k).mpr (fun m hm => a m (List.mem_append_left _ hm)) p c
      · exact e1.mpr (a _ (List.mem_append_right _ (List.mem_singleton.mpr rfl))) p c
  · intro m hm
    rcases List.mem_append.mp hm with c | c
    · exact h.sz m c
    · rw [List.mem_singleton.mp c]
      exact ⟨by omega, in_le ht hs hI⟩
  · have := h.ln
    rw [List.length_append, List.length_singleton]
    omega
/-- what the lengths tell -/
structure Lens (n : Nat) (t : List Nat) (M : List Nat) : Prop where
  per : ∀ k, (∀ p, p < n → it t k p = p) ↔ ∀ m ∈ M, m ∣ k
  sz : ∀ m ∈ M, 1 ≤ m ∧ m ≤ n
  ln : M.length ≤ n
theorem out_end {S M : List Nat} (h : Out n t n S M) : Lens n t M :=
  ⟨fun k => Iff.trans ⟨fun a p hp => a p (h.lt p hp), fun a p hp => a p (h.all p hp)⟩ (h.per k), h.sz, h.ln⟩
def lcmOf (M : List Nat) : Nat := M.foldl (fun a m => Nat.lcm a m) 1
theorem lcm_dvd (k : Nat) : ∀ (M : List Nat) (a : Nat), M.foldl (fun a m => Nat.lcm a m) a ∣ k ↔ a ∣ k ∧ ∀ m ∈ M, m ∣ k
  | [], a => by simp
  | m :: M, a => by
    show M.foldl (fun a m => Nat.lcm a m) (Nat.lcm a m) ∣ k ↔ _
    rw [lcm_dvd k M, Nat.lcm_dvd_iff]
    constructor
    · rintro ⟨⟨h1, h2⟩, h3⟩
      refine ⟨h1, fun x hx => ?_⟩
      rcases List.mem_cons.mp hx with rfl | hx
      · exact h2
      · exact h3 x hx
    · rintro ⟨h1, h2⟩
      exact ⟨⟨h1, h2 m List.mem_cons_self⟩, fun x hx => h2 x (List.mem_cons_of_mem _ hx)⟩
theorem lcm_take {M : List Nat} {i m : Nat} (h : M[i]? = some m) : lcmOf (M.take (i + 1)) = Nat.lcm (lcmOf (M.take i)) m := by
  unfold lcmOf
  rw [List.take_add_one, h, List.foldl_append]
  rfl
theorem lcm_pos : ∀ (M : List Nat), (∀ m ∈ M, 1 ≤ m) → ∀ a, 0 < a → 0 < M.foldl (fun a m => Nat.lcm a m) a
  | [], _, a, h => h
  | m :: M, hM, a, h => lcm_pos M (fun x hx => hM x (List.mem_cons_of_mem _ hx)) _ (Nat.lcm_pos h (hM m List.mem_cons_self))
theorem lcm_bound {b : Nat} (hb : 1 ≤ b) : ∀ (M : List Nat), (∀ m ∈ M, m ≤ b) → ∀ a, M.foldl (fun a m => Nat.lcm a m) a ≤ a * b ^ M.length
  | [], _, a => by simp
  | m :: M, hM, a => by
    have h1 := lcm_bound hb M (fun x hx => hM x (List.mem_cons_of_mem _ hx)) (Nat.lcm a m)
    have h2 : Nat.lcm a m ≤ a * m := by
      unfold Nat.lcm
      exact Nat.div_le_self _ _
    have h3 : a * m ≤ a * b := Nat.mul_le_mul_left _ (hM m List.mem_cons_self)
    show M.foldl (fun a m => Nat.lcm a m) (Nat.lcm a m) ≤ a * b ^ (M.length + 1)
    refine Nat.le_trans h1 (Nat.le_trans (Nat.mul_le_mul_right _ (Nat.le_trans h2 h3)) ?_)
    rw [Nat.pow_succ, Nat.mul_assoc, Nat.mul_comm b]
    exact Nat.le_refl _
theorem ord_lcm {M : List Nat} (h : Lens n t M) : Ord n t (lcmOf M) :=
  ⟨lcm_pos M (fun m hm => (h.sz m hm).1) 1 Nat.one_pos, fun k => by
    rw [h.per k]
    unfold lcmOf
    rw [lcm_dvd k M 1]
    exact ⟨fun a => ⟨Nat.one_dvd k, a⟩, fun a => a.2⟩⟩
end Pm

set_option Elab.async false
set_option linter.all false
set_option maxRecDepth 100000
set_option maxHeartbeats 3200000
namespace K4
open PySem L2 Tx Tg Tm
/-! ### signed texts -/
def lowc (c : Nat) : Nat := if c < 97 then c + 32 else c
def dec (c : Nat) : Str × Bool := (one (lowc c), decide (c < 97))
/-- the signs of a text -/
def Ls (z : Str) : List (Str × Bool) := (cds z).map dec
def Vc (sg : Str) (c : Nat) : Prop := c ∈ cds sg ∨ (c < 97 ∧ c + 32 ∈ cds sg)
def Sgd (sg z : Str) : Prop := ∀ c ∈ cds z, Vc sg c
theorem sg_range {sg : Str} (h : Signs sg) : ∀ c ∈ cds sg, 97 ≤ c ∧ c ≤ 122 := by
  rcases h with rfl | rfl | rfl | rfl <;> decide +kernel
theorem Vc.range {sg : Str} {c : Nat} (h : Signs sg) (v : Vc sg c) : 65 ≤ c ∧ c < 123 ∧ (c ≤ 90 ∨ 97 ≤ c) := by
  rcases v with v | ⟨v1, v2⟩
  · have := sg_range h c v
    omega
  · have := sg_range h _ v2
    omega
theorem chk1 : ∀ c < 123, 65 ≤ c → (c ≤ 90 ∨ 97 ≤ c) → Txt.lower (one c) = one (lowc c) ∧ Txt.islower (one c) = decide (97 ≤ c) ∧ (Txt.upper (one (lowc c))) = one (lowc c - 32) := by decide +kernel
theorem one_inj {a b : Nat} (h : one a = one b) : a = b := by
  have e : cds (one a) = cds (one b) := congrArg cds h
  exact (List.cons.inj (show [a] = [b] from e)).1
theorem Vc.low {sg : Str} {c : Nat} (h : Signs sg) (v : Vc sg c) : lowc c ∈ cds sg := by
  rcases v with v | ⟨v1, v2⟩
  · have := sg_range h c v
    unfold lowc
    rw [if_neg (by omega)]
    exact v
  · unfold lowc
    rw [if_pos v1]
    exact v2
theorem sg_up {sg : Str} (h : Signs sg) : cds (sg ++ Txt.upper sg) = cds sg ++ (cds sg).map (· - 32) := by
  rcases h with rfl | rfl | rfl | rfl <;> decide +kernel
theorem sgd_mem {sg z : Str} (h : Signs sg) (v : Sgd sg z) : ∀ c ∈ cds z, c ∈ cds (sg ++ Txt.upper sg) := fun c hc => by
  rw [sg_up h, List.mem_append, List.mem_map]
  rcases v c hc with v | ⟨v1, v2⟩
  · exact .inl v
  · exact .inr ⟨c + 32, v2, by omega⟩
theorem has_sgd {sg z : Str} (h : Signs sg) (v : Sgd sg z) (hl : z.length ≤ 4000) : has (sg ++ Txt.upper sg) 4000 (.str z) = true := by
  show (decide (z.length ≤ 4000) && only z (sg ++ Txt.upper sg)) = true
  rw [decide_eq_true hl, only_iff.mpr (sgd_mem h v)]
  rfl
theorem fine_sgd {sg z : Str} (h : Signs sg) (v : Sgd sg z) (hl : z.length ≤ 4000) : Fine z := by
  refine ⟨by omega, ?_, fun c hc => ?_⟩
  · rw [← (ups_perm (cds z)).length_eq]
    have h1 := Pm.len_le (ups_nodup (cds z)) (r := cds (sg ++ Txt.upper sg)) fun c hc => sgd_mem h v c ((ups_mem _ c).mp hc)
    have h2 : (cds (sg ++ Txt.upper sg)).length ≤ 6 := by rcases h with rfl | rfl | rfl | rfl <;> decide +kernel
    omega
  · have := (v c hc).range h
    omega
theorem Vc.dec_lt {c : Nat} : (dec c).2 = decide (c < 97) := rfl
theorem dec_inj {sg : Str} (h : Signs sg) {c d : Nat} (v : Vc sg c) (w : Vc sg d) (e : dec c = dec d) : c = d := by
  have e1 := one_inj (congrArg Prod.fst e)
  have e2 : decide (c < 97) = decide (d < 97) := congrArg Prod.snd e
  have r1 := v.range h
  have r2 := w.range h
  unfold lowc at e1
  by_cases z : c < 97
  · have : d < 97 := of_decide_eq_true (by rw [← e2]; exact decide_eq_true z)
    rw [if_pos z, if_pos this] at e1
    omega
  · have : ¬ d < 97 := of_decide_eq_false (by rw [← e2]; exact decide_eq_false z)
    rw [if_neg z, if_neg this] at e1
    exact e1
theorem map_inj {sg : Str} (h : Signs sg) : ∀ {l m : List Nat}, (∀ c ∈ l, Vc sg c) → (∀ c ∈ m, Vc sg c) → l.map dec = m.map dec → l = m
  | [], [], _, _, _ => rfl
  | [], _ :: _, _, _, e => by cases e
  | _ :: _, [], _, _, e => by cases e
  | c :: l, d :: m, v, w, e => by
    obtain ⟨e1, e2⟩ := List.cons.inj e
    rw [dec_inj h (v c List.mem_cons_self) (w d List.mem_cons_self) e1, map_inj h (fun x hx => v x (List.mem_cons_of_mem _ hx)) (fun x hx => w x (List.mem_cons_of_mem _ hx)) e2]
/-- a text is told by its signs -/
theorem Ls_inj {sg z y : Str} (h : Signs sg) (v : Sgd sg z) (w : Sgd sg y) (e : Ls z = Ls y) : z = y := cds_ext (map_inj h v w e)
/-- neighbours that undo one another -/
theorem opp_iff {sg : Str} (h : Signs sg) {c d : Nat} (v : Vc sg c) (w : Vc sg d) : dec d = Cu.opp (dec c) ↔ c ≠ d ∧ lowc c = lowc d := by
  have r1 := v.range h
  have r2 := w.range h
  constructor
  · intro e
    have e1 := one_inj (congrArg Prod.fst e)
    have e2 : decide (d < 97) = !decide (c < 97) := congrArg Prod.snd e
    refine ⟨fun z => ?_, e1.symm⟩
    rw [z] at e2
    cases hh : decide (d < 97) <;> rw [hh] at e2 <;> cases e2
  · rintro ⟨n, e⟩
    have e2 : decide (d < 97) = !decide (c < 97) := by
      unfold lowc at e
      by_cases z1 : c < 97 <;> by_cases z2 : d < 97
      · rw [if_pos z1, if_pos z2] at e
        omega
      · rw [decide_eq_true z1, decide_eq_false z2]
        rfl
      · rw [decide_eq_false z1, decide_eq_true z2]
        rfl
      · rw [if_neg z1, if_neg z2] at e
        omega
    exact Prod.ext (congrArg one e.symm) e2
/-- the row of a text -/
def rowZ (z : Str) : Row := rowOf ((Ls z).map Cu.sg)
theorem rowZ_rev (z : Str) : (rowZ z).reverse = Wm.joint [] ((Ls z).map Cu.sg) := List.reverse_reverse _
theorem rowZ_red (z : Str) : Wm.Red (rowZ z).reverse := by
  rw [rowZ_rev]
  exact Wm.red_joint trivial
theorem rowZ_ex (z : Str) : (Cu.ex (rowZ z).reverse).reverse = Cu.nf (Ls z) := by
  rw [rowZ_rev, Cu.ex_row]
theorem rowZ_iff (z y : Str) : rowZ z = rowZ y ↔ Cu.nf (Ls z) = Cu.nf (Ls y) := by
  rw [← Cu.row_iff]
  exact ⟨fun e => List.reverse_inj.mp e, fun e => congrArg List.reverse e⟩
/-! ### what the program asks of a signed text -/
section
variable {P : Program} {w : World} {K : PySem.W.Frag} {mg : Str → Option Value} {base : Heap}
abbrev sOf : Stmt := wdef 1
def spSg : Sp := fun vs H Q _ => ∃ sg z : Str, vs = [.str sg, .str z] ∧ Signs sg ∧ Sgd sg z ∧ z.length ≤ 100 ∧ ∀ H', Same H H' → Q (.bl true) H'
theorem scSigned : FnScope ["letters", "value"] ["letters", "value"] (defScope sSigned) := ⟨rfl, rfl, rfl, by decide +kernel, rfl, by decide +kernel, by decide +kernel⟩
theorem sg_facts {sg : Str} (h : Signs sg) : sg.length ≤ 3 ∧ sg.length ≤ 5592405 ∧ (Txt.upper sg).length ≤ 3 := by
  rcases h with rfl | rfl | rfl | rfl <;> decide +kernel
theorem ok_signed {f fH fL fC : Addr} {fd fdH fdL fdC : FuncData} (F : Fun K "is_signed" "is_signed" sSigned f fd) (T : Txt K mg) (DH : Df K mg "has_only" sHas ["value", "signs", "most"] fH fdH)
    (DL : Df K mg "is_letters" sLetters ["value"] fL fdL) (DC : Df K mg "check_letters" sCheck ["value"] fC fdC) : FnOk P w K mg base CX0 4 f fd ["letters", "value"] spSg := by
  have G := ok_passL (P := P) (w := w) (base := base) DC.F T DH DL
  have GH := ok_has (P := P) (w := w) (base := base) DH.F T
  refine F.ok scSigned (fun vs H Q E h => ?_) (fun cdv A outer s H vs Q E hr h => ?_)
  · obtain ⟨sg, z, rfl, _⟩ := h
    rfl
  · obtain ⟨sg, z, rfl, hsg, hz, hl, q⟩ := h
    obtain ⟨tn, hn⟩ := T.mText
    refine ⟨_, pss_cons (ps_expr (pe_call G hr (by rfl) DC.m DC.F.kp DC.b .nil pass0 (pa_cons (pv 0) pa_nil)))
      (pss_one (ps_ret (pe_call GH (hr.mono (by decide)) (by rfl) DH.m DH.F.kp DH.b .nil pass0 (pa_cons (pv 1) (pa_cons
        (pe_op op_add_str (pv 0) (pe_bm0 PySem.F.plainAttrs_str PySem.F.slot_str_upper PySem.F.type_str_upper mt_upper (pv 0)))
        (pa_cons (pe_glob (v := .int 4000) rfl hn ⟨_, rfl⟩) pa_nil)))))), ?_⟩
    obtain ⟨l1, l2, l3⟩ := sg_facts hsg
    refine ⟨_, rfl, sg, rfl, hsg, fun H' s' => ?_⟩
    refine ⟨_, rfl, _, rfl, _, rfl, rfl, sg, rfl, rfl, l2, sg, Txt.upper sg, rfl, rfl, Nat.le_trans (show sg.length + (Txt.upper sg).length ≤ 6 by omega) (by decide), .str z, .str z, _, 4000, rfl, .str z, fine_sgd hsg hz (by omega), ?_⟩
    rw [has_sgd hsg hz (by omega)]
    exact q H' s'
def spCSg : Sp := fun vs H Q _ => ∃ sg z : Str, vs = [.str sg, .str z] ∧ Signs sg ∧ Sgd sg z ∧ z.length ≤ 100 ∧ ∀ H', Same H H' → Q .non H'
theorem scCSg : FnScope ["letters", "value"] ["letters", "value"] (defScope sCheckSigned) := ⟨rfl, rfl, rfl, by decide +kernel, rfl, by decide +kernel, by decide +kernel⟩
theorem ok_csigned {f fH fL fC fS : Addr} {fd fdH fdL fdC fdS : FuncData} (F : Fun K "check_signed" "check_signed" sCheckSigned f fd) (T : Txt K mg) (DH : Df K mg "has_only" sHas ["value", "signs", "most"] fH fdH)
    (DL : Df K mg "is_letters" sLetters ["value"] fL fdL) (DC : Df K mg "check_letters" sCheck ["value"] fC fdC) (DS : Df K mg "is_signed" sSigned ["letters", "value"] fS fdS) : FnOk P w K mg base CX0 5 f fd ["letters", "value"] spCSg := by
  have G := ok_signed (P := P) (w := w) (base := base) DS.F T DH DL DC
  refine F.ok scCSg (fun vs H Q E h => ?_) (fun cdv A outer s H vs Q E hr h => ?_)
  · obtain ⟨sg, z, rfl, _⟩ := h
    rfl
  · obtain ⟨sg, z, rfl, hsg, hz, hl, q⟩ := h
    refine ⟨_, pss_one (ps_if (pt_not (pt_val (pe_call G hr (by rfl) DS.m DS.F.kp DS.b .nil pass0 (pa_cons (pv 0) (pa_cons (pv 1) pa_nil))))) (pss_one ps_never) pss_nil), ?_⟩
    exact ⟨_, rfl, _, rfl, sg, z, rfl, hsg, hz, hl, fun H' s' => ⟨_, rfl, iteF (q H' s')⟩⟩
end
end K4

set_option Elab.async false
set_option linter.all false
set_option maxRecDepth 100000
set_option maxHeartbeats 3200000
namespace K4
open PySem L2 Tx Tg Tm
theorem lc_text {x : Str} {g : TG} {tt : TT} {te : TE} {vs : List Nat} {σ : L2.St} {H1 : Hp} {D : Addr} {Qd : Hp → Prop} (Pv : Nat → Hp → Prop) (h0 : Pv 0 (upd H1 D (.lst [])))
    (hs : ∀ i c H, (cds x)[i]? = some c → Pv i H → g (.str (one c)) (wipe σ vs) H fun σ2 H2 => wipe σ2 vs = wipe σ vs ∧ tt σ2 H2 fun b H3 =>
      if b = true then te σ2 H3 fun y H4 => ∃ acc, H4 D = some (.lst acc) ∧ acc.length < sizeLine ∧ Pv (i + 1) (upd H4 D (.lst (acc ++ [y]))) else Pv (i + 1) H3) (hd : ∀ H, Pv (cds x).length H → Qd H) :
    ∃ W : Nat → Nat → Hp → Prop, (∃ m, W 0 m (upd H1 D (.lst []))) ∧ ∀ i m H, W i m H →
      ((Its x).stop i H ∧ Qd H) ∨ ((Its x).go i H ∧ ∃ Nx : Hp → Prop, (∀ H', Nx H' → ∃ m', m' < m ∧ W (i + 1) m' H') ∧ ∀ v H', (Its x).yld i H v H' → g v (wipe σ vs) H' fun σ2 H2 => wipe σ2 vs = wipe σ vs ∧ tt σ2 H2 fun b H3 =>
        if b = true then te σ2 H3 fun y H4 => ∃ acc, H4 D = some (.lst acc) ∧ acc.length < sizeLine ∧ Nx (upd H4 D (.lst (acc ++ [y]))) else Nx H3) := by
  have hz : x.cps.size = (cds x).length := (Array.length_toList).symm
  refine ⟨fun i m H => m = (cds x).length - i ∧ i ≤ (cds x).length ∧ Pv i H, ⟨(cds x).length, by simp, Nat.zero_le _, h0⟩, ?_⟩
  rintro i m H ⟨rfl, hi, p⟩
  by_cases hlt : i < (cds x).length
  · refine .inr ⟨by show i < x.cps.size; omega, Pv (i + 1), fun H' p' => ⟨(cds x).length - (i + 1), by omega, rfl, hlt, p'⟩, ?_⟩
    rintro v H' ⟨e, c, hc, e2⟩
    subst e
    subst e2
    exact hs i c _ (by rw [Array.getElem?_toList]; exact hc) p
  · have e : i = (cds x).length := by omega
    subst e
    exact .inl ⟨by show x.cps.size ≤ _; omega, hd H p⟩
/-- cls(..), cls a variable -/
def tMakeV (i : Nat) (C : Addr) (sp : Sp) (dvs : List V) (E : XK) (t : TA) : TE := fun σ H Q => σ[i]? = some (some (.ref C)) ∧ tMake C sp dvs E t σ H Q
theorem pe_makeV {X : Cx} {CX : CXT} {k i : Nat} {f C : Addr} {fd : FuncData} {ps : List Str} {sp : Sp} {E : XK} {x : Str} {p pos : Pos} {e : Expr} {es : List Expr} {t : TA} {dvs : List V} {ds : List Value} (hv : PE X (.Name x p) (tVar i)) (M : Mk X.K C f)
    (F : FnOk X.prog X.w X.K X.mg X.base CX k f fd ps sp) (hr : Room (k + 1) X.A) (hb : Binds X.K fd ps ds) (hd : Vals dvs ds) (hx : Passes CX X E)
    (ha : PA X (e :: es) t) (he : starEach (e :: es) X.env = (false, eval e X.env) :: starEach es X.env := by rfl) (hpl : (backTo pos (starEach es X.env)).any (·.1) = false := by rfl) :
    PE X (.Call (.Name x p) (e :: es) [] pos) (tMakeV i C sp dvs E t) := by
  refine ⟨fun pins s σ H Q I h => ?_⟩
  obtain ⟨h0, h⟩ := h
  refine wpAny_Call_Name_kw (thn (hv.run pins s σ H (fun v H' => v = .ref C ∧ H' = H) I ⟨_, h0, rfl, rfl⟩) fun u s1 ⟨v, H1, I1, rv, e1, e2⟩ => ?_)
  subst e1 e2
  cases rv
  refine PySem.W.callWith_K (h₀ := X.base) I1.ok.mod.kin M.kp (thn (ha.run pos pins s1 σ _ _ I1 h) fun us s1 ⟨vs, H1, I1, r, q⟩ => ⟨I1.kIn, ?_⟩) he hpl
  exact run_make M F hr hb hd hx I1 r q
section
variable {P : Program} {w : World} {K : PySem.W.Frag} {mg : Str → Option Value} {base : Heap}
def LstRow (H : Hp) (a : Addr) (l : Row) : Prop := ∃ ys, H a = some (.lst ys) ∧ PairsAt H ys l
def spJoinL (K : PySem.W.Frag) : Sp := fun vs H Q _ => ∃ (a : Addr) (l : Row), vs = [.ref a] ∧ LstRow H a l ∧ l.length ≤ 1000000 ∧ ∀ p H' ys, H p = none → Same H H' → H' p = some (.tup ys) → PairsAt H' ys (rowOf l) → Q (.ref p) H'
theorem ok_joinL {f : Addr} {fd : FuncData} (F : Fun K "joined_runs" "joined_runs" sJoin f fd) (T : Txt K mg) : FnOk P w K mg base CX0 1 f fd ["pairs"] (spJoinL K) := by
  refine F.ok scJoin (fun vs H Q E h => ?_) (fun cdv A outer s H vs Q E hr h => ?_)
  · obtain ⟨a, l, rfl, _⟩ := h
    rfl
  · obtain ⟨a, l, rfl, ⟨ys0, ha, hp0⟩, hl, q⟩ := h
    refine ⟨_, pss_cons (ps_set (i := 1) scJoin.nd rfl (Or.inl rfl) (pe_lst pa_nil))
      (pss_cons (ps_for PassesOwn.never rfl (pi_list (pv 0)) (pg_tup rfl (pgs_cons (pg_name (i := 2) scJoin.nd rfl (Or.inl rfl)) (pgs_cons (pg_name (i := 3) scJoin.nd rfl (Or.inl rfl)) pgs_nil)))
        (pss_cons (ps_set (i := 4) scJoin.nd rfl (Or.inl rfl) (pv 3))
        (pss_cons (ps_if (PW.pt (pw_and (pt_truth (pv 1) (by intro _; rfl)) (pw_and1 (pt_cmpR op_eq (pe_ix ix_tup (pe_ix ix_list (pv 1) (pe_un un_neg pe_int) (fun _ _ => rfl)) pe_int (fun _ _ => rfl)) (pv 2) (nomark _)))))
          (pss_one (ps_set (i := 4) scJoin.nd rfl (Or.inl rfl) (pe_op op_add (pv 3) (pe_ix ix_tup (pe_bm0 PySem.F.plainAttrs_list PySem.F.slot_list_pop PySem.F.type_list_pop mt_pop (pv 1)) pe_int (fun _ _ => rfl))))) pss_nil)
        (pss_one (ps_if (pt_cmpR op_ne (pv 4) pe_int (nomark _)) (pss_one (ps_expr (pe_bm PySem.F.plainAttrs_list PySem.F.slot_list_append PySem.F.type_list_append mt_append (pv 1) (pa_cons (pe_tup (pa_cons (pv 2) (pa_cons (pv 4) pa_nil))) pa_nil)))) pss_nil)))))
      (pss_one (ps_ret (pe_callTy call_tuple_of (by rfl) T.tuple (by decide +kernel) (pa_cons (pv 1) pa_nil))))), ?_⟩
    refine ⟨by decide, fun p np => ?_⟩
    have s0 : Same H (upd H p (.lst [])) := same_upd np
    have sT : ∀ {H'}, Same H H' → SqL K H' a ys0 := fun s => SqL.of (s _ _ ha)
    have hlen : ys0.length = l.length := hp0.length
    refine ⟨_, rfl, a, rfl, ⟨_, sT s0⟩, ?_⟩
    refine for_list (xs := ys0) (fun i σ H1 => ∃ (t2 t3 t4 : Option V) (zs : List V), σ = [some (.ref a), some (.ref p), t2, t3, t4] ∧ Same H H1 ∧ H1 p = some (.lst zs.reverse) ∧ PairsAt H1 zs (Wm.joint [] (l.take i)))
      ⟨none, none, none, [], rfl, s0, upd_same, .nil⟩ (fun i σ H1 _ z => by obtain ⟨_, _, _, _, _, s, _⟩ := z; exact sT s) ?_ ?_
    · rintro i x σ H1 hx ⟨t2, t3, t4, zs, rfl, s1, e1, hz⟩
      have hi := (List.getElem?_eq_some_iff.mp hx).1
      have hi' : i < l.length := by omega
      obtain ⟨t, rfl, et⟩ : PairAt H x l[i] := hp0.zip (x, l[i]) (List.mem_of_getElem? (i := i) (by rw [List.getElem?_zip_eq_some]; exact ⟨hx, List.getElem?_eq_getElem hi'⟩))
      rw [joint_take (List.getElem?_eq_getElem hi')]
      have hred : Wm.Red (Wm.joint [] (l.take i)) := Wm.red_joint (r := ([] : Row)) trivial
      have hjl : (Wm.joint [] (l.take i)).length ≤ i := by
        have := joint_len (l.take i) []
        rw [List.length_take, List.length_nil] at this
        omega
      have hzl := hz.length
      generalize l[i] = pr at et ⊢
      generalize Wm.joint [] (l.take i) = acc at hz hred hjl hzl ⊢
      refine ⟨t, _, rfl, SqT.of (s1 _ _ et), rfl, _, _, rfl, _, _, rfl, rfl, ?_⟩
      refine ⟨_, rfl, ?_⟩
      have hres : ∀ {m : Int} {c r : Row}, (if m = 0 then c else (pr.1, m) :: c) = r → (if m = 0 then c else (pr.1, m) :: c) = r := fun h => h
      cases hz with
      | nil =>
        refine ⟨_, rfl, false, .inl ⟨_, SqL.of e1, rfl⟩, iteF ?_⟩
        exact join_tail (acc := []) s1 np e1 .nil (Nat.zero_le _) rfl fun H3 zs' a1 a2 a3 => ⟨_, _, _, zs', rfl, a1, a2, a3⟩
      | @cons z c zs' acc' hzc hz' =>
        have hb : (z :: zs').reverse = zs'.reverse ++ [z] := List.reverse_cons ..
        obtain ⟨tz, rfl, etz⟩ := hzc
        have hne : (!((V.ref tz :: zs').reverse).isEmpty) = true := by rw [hb]; simp
        refine ⟨_, rfl, true, .inl ⟨_, SqL.of e1, hne.symm⟩, iteT ?_⟩
        refine ⟨_, rfl, _, rfl, p, _, _, .ref tz, rfl, rfl, SqL.of e1, by rw [hb]; exact atI_last _ _, tz, _, _, .str c.1, rfl, rfl, SqT.of etz, rfl, _, rfl, rfl, _, rfl, ?_⟩
        have hs : decide (V.str c.1 = V.str pr.1) = decide (c.1 = pr.1) := decide_eq_decide.mpr ⟨fun e => by injection e, fun e => by rw [e]⟩
        rw [hs]
        have hcl : acc'.length ≤ 1000000 := by
          rw [List.length_cons] at hjl
          omega
        by_cases hc : c.1 = pr.1
        · rw [decide_eq_true hc]
          refine iteT ?_
          refine ⟨_, rfl, _, rfl, .inl ⟨rfl, _, SqL.of e1⟩, p, _, .ref tz, rfl, rfl, e1, ?_, ?_⟩
          · rw [hb, List.length_append, List.length_singleton, Nat.add_sub_cancel, List.getElem?_append_right (Nat.le_refl _), Nat.sub_self]
            rfl
          have hd : ((V.ref tz :: zs').reverse).dropLast = zs'.reverse := by rw [hb, List.dropLast_concat]
          rw [hd]
          have ntp : tz ≠ p := fun e => by
            rw [e, e1] at etz
            cases etz
          refine ⟨tz, _, _, .int c.2, rfl, rfl, SqT.of (by rw [upd_ne ntp]; exact etz), rfl, _, _, rfl, rfl, ?_⟩
          refine join_tail (acc := acc') (same_put s1 np) np upd_same (PairsAt.put e1 hz') (by omega) ?_ fun H3 zs'' a1 a2 a3 => ⟨_, _, _, zs'', rfl, a1, a2, a3⟩
          show _ = (if pr.2 = 0 then c :: acc' else if c.1 = pr.1 then (if c.2 + pr.2 = 0 then acc' else (c.1, c.2 + pr.2) :: acc') else pr :: c :: acc')
          have hc2 : c.2 ≠ 0 := hred.head
          have ea : pr.2 + c.2 = c.2 + pr.2 := Int.add_comm _ _
          rw [ea]
          by_cases h0 : pr.2 = 0
          · rw [if_pos h0, h0, Int.add_zero, if_neg hc2, ← hc]
          · rw [if_neg h0, if_pos hc, hc]
        · rw [decide_eq_false hc]
          refine iteF ?_
          refine join_tail (acc := c :: acc') s1 np e1 (.cons ⟨tz, rfl, etz⟩ hz') (by rw [List.length_cons]; omega) ?_ fun H3 zs'' a1 a2 a3 => ⟨_, _, _, zs'', rfl, a1, a2, a3⟩
          show _ = (if pr.2 = 0 then c :: acc' else if c.1 = pr.1 then _ else pr :: c :: acc')
          rw [if_neg hc]
    · rintro σ H1 ⟨t2, t3, t4, zs, rfl, s1, e1, hz⟩
      have et : l.take ys0.length = l := List.take_of_length_le (by omega)
      rw [et] at hz
      refine ⟨_, rfl, p, _, rfl, .inl ⟨SqL.of e1, fun pl npl => ?_⟩⟩
      exact q pl _ _ (free_none s1 npl) (s1.trans (same_upd npl)) upd_same (PairsAt.same (same_upd npl) (each_rev hz))
end
theorem row_word {P : Program} {w : World} {K : PySem.W.Frag} {mg : Str → Option Value} {base : Heap} {CM CW fMI fWI : Addr} {dMI dWI : FuncData} (G : Makes4 P w K mg base CM CW fMI fWI dMI dWI) {H : Hp} {sg : Str} {b : Addr} {l : Row} {B : Nat} {Q : VK} {E : XK} (hsg : Signs sg) (hb : TupRow K H b l)
    (hru : Ru sg B l) (hB : B < 10 ^ 200) (hl : l.length ≤ 200) (q : ∀ x H', Same H H' → WordAt K CW H' x sg (rowOf l) → Q (.ref x) H') :
    ∀ x dx, H x = none → H dx = none → dx ≠ x → spWordInit K CM CW (.ref x :: ([V.str sg, V.ref b] ++ [])) (upd (upd H dx (.own x)) x (.ins CW dx [])) (fun v H3 => v = .non ∧ Q (.ref x) H3) E := by
  intro x dx nx ndx nxx
  have s3 : Same H (upd H dx (.own x)) := same_upd ndx
  have n3 : (upd H dx (.own x)) x = none := by rw [upd_ne nxx.symm]; exact nx
  have s4 : Same (upd H dx (.own x)) (upd (upd H dx (.own x)) x (.ins CW dx [])) := same_upd n3
  have ex : (upd (upd H dx (.own x)) x (.ins CW dx [])) x = some (.ins CW dx []) := upd_same
  have s24 := s3.trans s4
  generalize upd (upd H dx (.own x)) x (.ins CW dx []) = H4 at s24 ex ⊢
  have := rowOf_len l
  refine ⟨x, dx, sg, b, l, rfl, ex, hsg, .inr ⟨hb.same s24, B, hru, hB⟩, by omega, by omega, fun H' p bt e hp => ⟨rfl, q x H' (fun c o ec => ?_) ⟨dx, p, e, hp⟩⟩⟩
  exact bt _ _ (ne_of_none ec nx) (s24 _ _ ec)

theorem ru_joint {sg : Str} : ∀ (l : Row) (B : Nat) (r : Row), Ru sg B r → (∀ p ∈ l, (∃ c ∈ cds sg, p.1 = one c) ∧ p.2.natAbs ≤ 1) → Ru sg (B + l.length) (Wm.joint r l)
  | [], B, r, h, _ => h
  | (x, n) :: l, B, r, h, hl => by
    obtain ⟨⟨c, hc, rfl⟩, hn⟩ := hl (x, n) List.mem_cons_self
    have := ru_joint l (B + 1) (Wm.push (one c, n) r) (h.push hc hn) fun p hp => hl p (List.mem_cons_of_mem _ hp)
    rw [List.length_cons, show B + (l.length + 1) = B + 1 + l.length by omega]
    exact this
theorem Ls_len (z : Str) : (Ls z).length = z.length := (List.length_map ..).trans (cds_len z)
theorem rowZ_ru {sg z : Str} (h : Signs sg) (v : Sgd sg z) (hl : z.length ≤ 100) : Ru sg 100 (rowZ z) := by
  have h1 := ru_joint (sg := sg) ((Ls z).map Cu.sg) 0 [] (fun p hp => by cases hp) fun p hp => by
    obtain ⟨x, hx, rfl⟩ := List.mem_map.mp hp
    obtain ⟨c, hc, rfl⟩ := List.mem_map.mp hx
    refine ⟨⟨lowc c, (v c hc).low h, rfl⟩, ?_⟩
    show (if decide (c < 97) = true then (-1 : Int) else 1).natAbs ≤ 1
    split <;> decide
  rw [List.length_map, Ls_len] at h1
  intro p hp
  have := h1.rev p hp
  exact ⟨this.1, by omega⟩
theorem rowZ_len (z : Str) : (rowZ z).length ≤ z.length := by
  have := rowOf_len ((Ls z).map Cu.sg)
  rw [List.length_map, Ls_len] at this
  exact this
theorem rowOf_red {l : Row} (h : Wm.Red l.reverse) : rowOf l = l := by
  have := Wm.joint_self h
  rw [List.reverse_reverse] at this
  unfold rowOf
  rw [this, List.reverse_reverse]
section
variable {P : Program} {w : World} {K : PySem.W.Frag} {mg : Str → Option Value} {base : Heap}
def spRoS (K : PySem.W.Frag) : Sp := fun vs H Q _ => ∃ sg z : Str, vs = [.str z] ∧ Signs sg ∧ Sgd sg z ∧ z.length ≤ 100 ∧ ∀ p H', Same H H' → TupRow K H' p (rowZ z) → Q (.ref p) H'
theorem scRoS : FnScope ["signs", "sign"] ["signs"] (defScope sOfSigns) := ⟨rfl, rfl, rfl, by decide +kernel, rfl, by decide +kernel, by decide +kernel⟩
theorem ok_ros {f fJ : Addr} {fd fdJ : FuncData} (F : Fun K "runs_of_signs" "runs_of_signs" sOfSigns f fd) (T : Txt K mg) (DJ : Df K mg "joined_runs" sJoin ["pairs"] fJ fdJ) : FnOk P w K mg base CX0 2 f fd ["signs"] (spRoS K) := by
  have G := ok_joinL (P := P) (w := w) (base := base) DJ.F T
  refine F.ok scRoS (fun vs H Q E h => ?_) (fun cdv A outer s H vs Q E hr h => ?_)
  · obtain ⟨sg, z, rfl, _⟩ := h
    rfl
  · obtain ⟨sg, z, rfl, hsg, hz, hl, q⟩ := h
    refine ⟨_, pss_one (ps_ret (pe_call G hr (by rfl) DJ.m DJ.F.kp DJ.b .nil pass0 (pa_cons (pe_lc (own := [("sign", 1)]) (g := gName 1) (tt := tYes) rfl scRoS.nd (pi_str (pv 0))
      (blkOk_by (own := [("sign", 1)]) (N := ["signs", "sign"]) (sc := defScope sOfSigns) (by decide +kernel))
      (fun _ _ _ _ _ => pg_name (i := 1) scRoS.nd rfl (Or.inl rfl)) (fun _ _ _ _ _ => pts_nil)
      (fun _ _ _ _ _ => pe_tup (pa_cons (pe_lower (pv 1)) (pa_cons (pe_ifExp (pt_val (pe_m0 PySem.F.slot_str_islower PySem.F.type_str_islower mt_islower (pv 1))) pe_int (pe_un un_neg pe_int)) pa_nil)))) pa_nil))), ?_⟩
    refine ⟨_, rfl, z, rfl, fun D hD => ?_⟩
    have hcl := cds_len z
    refine lc_text (fun i H3 => Same H H3 ∧ ∃ zs, H3 D = some (.lst zs) ∧ PairsAt H3 zs (((Ls z).map Cu.sg).take i)) ⟨same_upd hD, [], upd_same, .nil⟩ ?_ ?_
    · rintro i c H2 hc ⟨s2, zs, e2, hzs⟩
      have hi := (List.getElem?_eq_some_iff.mp hc).1
      have hv := hz c (List.mem_of_getElem? hc)
      obtain ⟨v1, v2, v3⟩ := hv.range hsg
      obtain ⟨hlo, hil, _⟩ := chk1 c v2 v1 v3
      have hzl : zs.length = i := by
        have : zs.length = (((Ls z).map Cu.sg).take i).length := hzs.length
        rw [this, List.length_take, List.length_map, Ls_len]
        omega
      have ex : ((Ls z).map Cu.sg)[i]? = some (one (lowc c), if decide (c < 97) = true then -1 else 1) := by
        rw [List.getElem?_map]
        show Option.map _ ((List.map dec (cds z))[i]?) = _
        rw [List.getElem?_map, hc]
        rfl
      have fin : ∀ m : Int, m = (if decide (c < 97) = true then -1 else 1) → ∀ pt, H2 pt = none → ∃ acc, (upd H2 pt (.tup [.str (one (lowc c)), .int m])) D = some (.lst acc) ∧ acc.length < sizeLine ∧ (Same H (upd (upd H2 pt (.tup [.str (one (lowc c)), .int m])) D (.lst (acc ++ [.ref pt]))) ∧
          ∃ zs, (upd (upd H2 pt (.tup [.str (one (lowc c)), .int m])) D (.lst (acc ++ [.ref pt]))) D = some (.lst zs) ∧ PairsAt (upd (upd H2 pt (.tup [.str (one (lowc c)), .int m])) D (.lst (acc ++ [.ref pt]))) zs (((Ls z).map Cu.sg).take (i + 1))) := by
        rintro m rfl pt npt
        have e4 := (same_upd (o := .tup [.str (one (lowc c)), .int (if decide (c < 97) = true then -1 else 1)]) npt) _ _ e2
        have nPD : pt ≠ D := (ne_of_none e2 npt).symm
        refine ⟨zs, e4, ?_, same_put (s2.trans (same_upd npt)) hD, zs ++ [.ref pt], upd_same, ?_⟩
        · rw [hzl]
          exact Nat.lt_of_le_of_lt (show i ≤ 100 by omega) (by decide)
        · rw [List.take_add_one, ex]
          exact each_app (PairsAt.put e4 (PairsAt.same (same_upd npt) hzs)) (.cons ⟨pt, rfl, by rw [upd_ne nPD, upd_same]⟩ .nil)
      refine ⟨rfl, iteT (B := False) ?_⟩
      refine ⟨_, rfl, ⟨_, rfl⟩, _, rfl, rfl, by show 1 ≤ 5592405; decide, _, rfl, ⟨_, rfl⟩, _, rfl, rfl, trivial, _, rfl, ?_⟩
      rw [hil, hlo]
      by_cases hc97 : 97 ≤ c
      · rw [decide_eq_true hc97]
        refine iteT ?_
        exact ⟨by show 2 ≤ sizeLine; decide, fun pt npt => fin 1 (by rw [decide_eq_false (by omega)]; rfl) pt npt⟩
      · rw [decide_eq_false hc97]
        refine iteF ⟨_, rfl, ?_⟩
        exact ⟨by show 2 ≤ sizeLine; decide, fun pt npt => fin (-1) (by rw [decide_eq_true (by omega)]; rfl) pt npt⟩
    · rintro H2 ⟨s2, zs, e2, hzs⟩
      rw [List.take_of_length_le (by rw [List.length_map, Ls_len]; omega)] at hzs
      refine ⟨D, _, rfl, ⟨zs, e2, hzs⟩, ?_, fun p H' ys _ s3 e3 h3 => ?_⟩
      · rw [List.length_map, Ls_len]
        exact Nat.le_trans hl (by decide)
      · exact q p H' (s2.trans s3) (.new e3 h3)
def spOf (K : PySem.W.Frag) (CW : Addr) : Sp := fun vs H Q _ => ∃ sg z : Str, vs = [.ref CW, .str sg, .str z] ∧ Signs sg ∧ Sgd sg z ∧ z.length ≤ 100 ∧ ∀ x H', Same H H' → WordAt K CW H' x sg (rowZ z) → Q (.ref x) H'
theorem scOf : FnScope ["cls", "letters", "text"] ["cls", "letters", "text"] (defScope sOf) := ⟨rfl, rfl, rfl, by decide +kernel, rfl, by decide +kernel, by decide +kernel⟩
theorem ok_of {CM CW fMI fWI f fH fL fC fS fCS fJ fR : Addr} {dMI dWI fd fdH fdL fdC fdS fdCS fdJ fdR : FuncData} (F : Fun K "of" "Word.of" sOf f fd) (T : Txt K mg) (G : Makes4 P w K mg base CM CW fMI fWI dMI dWI) (DH : Df K mg "has_only" sHas ["value", "signs", "most"] fH fdH)
    (DL : Df K mg "is_letters" sLetters ["value"] fL fdL) (DC : Df K mg "check_letters" sCheck ["value"] fC fdC) (DS : Df K mg "is_signed" sSigned ["letters", "value"] fS fdS) (DCS : Df K mg "check_signed" sCheckSigned ["letters", "value"] fCS fdCS)
    (DJ : Df K mg "joined_runs" sJoin ["pairs"] fJ fdJ) (DR : Df K mg "runs_of_signs" sOfSigns ["signs"] fR fdR) : FnOk P w K mg base CX0 6 f fd ["cls", "letters", "text"] (spOf K CW) := by
  have GS := ok_csigned (P := P) (w := w) (base := base) DCS.F T DH DL DC DS
  have GR := ok_ros (P := P) (w := w) (base := base) DR.F T DJ
  refine F.ok scOf (fun vs H Q E h => ?_) (fun cdv A outer s H vs Q E hr h => ?_)
  · obtain ⟨sg, z, rfl, _⟩ := h
    rfl
  · obtain ⟨sg, z, rfl, hsg, hz, hl, q⟩ := h
    have r2 : Room 2 _ := hr.mono (by decide)
    refine ⟨_, pss_cons (ps_expr (pe_call GS hr (by rfl) DCS.m DCS.F.kp DCS.b .nil pass0 (pa_cons (pv 1) (pa_cons (pv 2) pa_nil))))
      (pss_one (ps_ret (pe_makeV (i := 0) (pv 0) G.mW G.gWI hr G.bWI .nil pass0 (pa_cons (pv 1) (pa_cons (pe_call GR r2 (by rfl) DR.m DR.F.kp DR.b .nil pass0 (pa_cons (pv 2) pa_nil)) pa_nil))))), ?_⟩
    refine ⟨_, rfl, _, rfl, sg, z, rfl, hsg, hz, hl, fun H1 s1 => ⟨rfl, _, rfl, _, rfl, sg, z, rfl, hsg, hz, hl, fun p H2 s2 h2 => ?_⟩⟩
    refine row_word G hsg h2 (rowZ_ru hsg hz hl) (by decide +kernel) (by have := rowZ_len z; omega) fun x H' s h => ?_
    rw [rowOf_red (rowZ_red z)] at h
    exact q x H' ((s1.trans s2).trans s) h
end
end K4

set_option Elab.async false
set_option linter.all false
set_option maxRecDepth 100000
set_option maxHeartbeats 3200000
namespace K4
open PySem L2 Tx Tg Tm
/-! ### texts of runs -/
theorem cds_app (a b : Str) : cds (a ++ b) = cds a ++ cds b := by
  show (a.cps ++ b.cps).toList = _
  rw [Array.toList_append]
theorem cds_mul1 (d : Nat) {n : Int} (h : 1 ≤ n) : cds (Txt.mul (one d) n) = List.replicate n.toNat d := by
  unfold Txt.mul
  rw [if_neg (by omega)]
  split
  · rename_i q
    rcases Bool.or_eq_true _ _ ▸ q with q | q
    · have : n = 1 := by simpa using q
      subst this
      rfl
    · cases q
  · have all : ∀ (k : Nat) (acc : Array Nat), ((List.replicate k (one d).cps).foldl (· ++ ·) acc).toList = acc.toList ++ List.replicate k d := by
      intro k
      induction k with
      | zero => intro acc; simp
      | succ k ih =>
        intro acc
        rw [List.replicate_succ, List.foldl_cons, ih, List.replicate_succ, Array.toList_append, List.append_assoc]
        rfl
    exact (all n.toNat #[]).trans (List.nil_append _)
theorem cds_join : ∀ l : List Str, cds (Txt.join "" l) = (l.map cds).flatten := by
  intro l
  rw [show Txt.join "" l = Str.join "" l from TL.join_eq _ _]
  have e0 : cds ("" : Str) = [] := by decide +kernel
  induction l with
  | nil => exact e0
  | cons x l ih =>
    cases l with
    | nil =>
      show cds x = cds x ++ []
      rw [List.append_nil]
    | cons y r =>
      show cds (x ++ ("" : Str) ++ Str.join "" (y :: r)) = cds x ++ ((y :: r).map cds).flatten
      rw [cds_app, cds_app, e0, List.append_nil, ih]
/-- the code points of a run -/
def sgn (p : Str × Int) : Str := if p.2 > 0 then Txt.mul p.1 p.2 else Txt.mul (Txt.upper p.1) (-p.2)
/-- runs of letters, exponents at most B and not 0 -/
def Nz (sg : Str) (B : Nat) (l : Row) : Prop := Ru sg B l ∧ ∀ p ∈ l, p.2 ≠ 0
theorem up_one {sg : Str} (h : Signs sg) {d : Nat} (hd : d ∈ cds sg) : Txt.upper (one d) = one (d - 32) ∧ Vc sg d ∧ Vc sg (d - 32) ∧ dec d = (one d, false) ∧ dec (d - 32) = (one d, true) := by
  have r := sg_range h d hd
  have el : lowc d = d := if_neg (by omega)
  have el2 : lowc (d - 32) = d := by
    unfold lowc
    rw [if_pos (by omega)]
    omega
  have c1 := (chk1 d (by omega) (by omega) (by omega)).2.2
  rw [el] at c1
  refine ⟨c1, .inl hd, .inr ⟨by omega, by rw [show d - 32 + 32 = d by omega]; exact hd⟩, ?_, ?_⟩
  · unfold dec
    rw [el, decide_eq_false (by omega)]
  · unfold dec
    rw [el2, decide_eq_true (by omega)]
theorem sgn_cds {sg : Str} (h : Signs sg) {p : Str × Int} (hp : ∃ d ∈ cds sg, p.1 = one d) (hn : p.2 ≠ 0) : (cds (sgn p)).map dec = Cu.ex1 p ∧ (∀ c ∈ cds (sgn p), Vc sg c) ∧ (sgn p).length = p.2.natAbs := by
  obtain ⟨x, n⟩ := p
  obtain ⟨d, hd, rfl⟩ := hp
  obtain ⟨u1, u2, u3, u4, u5⟩ := up_one h hd
  have hn : n ≠ 0 := hn
  unfold sgn
  by_cases hpos : n > 0
  · rw [if_pos hpos]
    have e : cds (Txt.mul (one d) n) = List.replicate n.toNat d := cds_mul1 d (by omega)
    refine ⟨?_, ?_, ?_⟩
    · show List.map dec (cds (Txt.mul (one d) n)) = List.replicate n.natAbs (one d, decide (n < 0))
      rw [e, List.map_replicate, u4, decide_eq_false (by omega), show n.toNat = n.natAbs by omega]
    · show ∀ c ∈ cds (Txt.mul (one d) n), _
      rw [e]
      intro c hc
      rw [(List.mem_replicate.mp hc).2]
      exact u2
    · show (Txt.mul (one d) n).length = n.natAbs
      rw [← cds_len, e, List.length_replicate]
      omega
  · rw [if_neg hpos]
    have e : cds (Txt.mul (Txt.upper (one d)) (-n)) = List.replicate (-n).toNat (d - 32) := by
      rw [u1]
      exact cds_mul1 _ (by omega)
    refine ⟨?_, ?_, ?_⟩
    · show List.map dec (cds (Txt.mul (Txt.upper (one d)) (-n))) = List.replicate n.natAbs (one d, decide (n < 0))
      rw [e, List.map_replicate, u5, decide_eq_true (by omega), show (-n).toNat = n.natAbs by omega]
    · show ∀ c ∈ cds (Txt.mul (Txt.upper (one d)) (-n)), _
      rw [e]
      intro c hc
      rw [(List.mem_replicate.mp hc).2]
      exact u3
    · show (Txt.mul (Txt.upper (one d)) (-n)).length = n.natAbs
      rw [← cds_len, e, List.length_replicate]
      omega
theorem ex1_rev (p : Str × Int) : (Cu.ex1 p).reverse = Cu.ex1 p := List.reverse_replicate ..
theorem ex_app (l k : Row) : Cu.ex (l ++ k) = Cu.ex l ++ Cu.ex k := by
  induction l with
  | nil => rfl
  | cons p l ih =>
    show Cu.ex1 p ++ Cu.ex (l ++ k) = (Cu.ex1 p ++ Cu.ex l) ++ Cu.ex k
    rw [ih, List.append_assoc]
theorem ex_flat : ∀ l : Row, (Cu.ex l.reverse).reverse = (l.map Cu.ex1).flatten
  | [] => rfl
  | p :: l => by
    rw [List.reverse_cons, ex_app, List.reverse_append, ex_flat l]
    show (Cu.ex1 p ++ []).reverse ++ _ = Cu.ex1 p ++ (l.map Cu.ex1).flatten
    rw [List.append_nil, ex1_rev]
/-- the shortest text of a row -/
def shortT (l : Row) : Str := Txt.join "" (l.map sgn)
theorem short_cds {sg : Str} (h : Signs sg) : ∀ {l : Row}, (∀ p ∈ l, (∃ d ∈ cds sg, p.1 = one d) ∧ p.2 ≠ 0) → ((l.map sgn).map cds).flatten.map dec = (l.map Cu.ex1).flatten ∧ (∀ c ∈ ((l.map sgn).map cds).flatten, Vc sg c) ∧ ((l.map sgn).map cds).flatten.length = (l.map fun p => p.2.natAbs).sum
  | [], _ => ⟨rfl, (fun c hc => (by cases hc)), rfl⟩
  | p :: l, hl => by
    obtain ⟨a1, a2, a3⟩ := sgn_cds h (hl p List.mem_cons_self).1 (hl p List.mem_cons_self).2
    obtain ⟨b1, b2, b3⟩ := short_cds h (l := l) fun q hq => hl q (List.mem_cons_of_mem _ hq)
    refine ⟨?_, ?_, ?_⟩
    · show List.map dec (cds (sgn p) ++ ((l.map sgn).map cds).flatten) = Cu.ex1 p ++ (l.map Cu.ex1).flatten
      rw [List.map_append, a1, b1]
    · intro c hc
      rcases List.mem_append.mp (show c ∈ cds (sgn p) ++ ((l.map sgn).map cds).flatten from hc) with hc | hc
      · exact a2 c hc
      · exact b2 c hc
    · show (cds (sgn p) ++ ((l.map sgn).map cds).flatten).length = p.2.natAbs + (l.map fun p => p.2.natAbs).sum
      rw [List.length_append, b3, cds_len, a3]
theorem short_facts {sg : Str} (h : Signs sg) {l : Row} (hl : ∀ p ∈ l, (∃ d ∈ cds sg, p.1 = one d) ∧ p.2 ≠ 0) : Ls (shortT l) = (Cu.ex l.reverse).reverse ∧ Sgd sg (shortT l) ∧ (shortT l).length = (l.map fun p => p.2.natAbs).sum := by
  obtain ⟨a1, a2, a3⟩ := short_cds h hl
  have e := cds_join (l.map sgn)
  refine ⟨?_, ?_, ?_⟩
  · show (cds (shortT l)).map dec = _
    rw [ex_flat, ← a1]
    exact congrArg _ e
  · intro c hc
    have hc : c ∈ cds (Txt.join "" (l.map sgn)) := hc
    rw [e] at hc
    exact a2 c hc
  · rw [← cds_len, ← a3]
    exact congrArg _ e
theorem red_nz : ∀ {l : Row}, Wm.Red l → ∀ p ∈ l, p.2 ≠ 0
  | p :: l, h, q, hq => by
    rcases List.mem_cons.mp hq with rfl | hq
    · exact h.head
    · exact red_nz h.tail q hq
/-- what the word of a text tells -/
theorem rowZ_short {sg z : Str} (h : Signs sg) (v : Sgd sg z) (hl : z.length ≤ 100) : Ls (shortT (rowZ z)) = Cu.nf (Ls z) ∧ Sgd sg (shortT (rowZ z)) ∧ (shortT (rowZ z)).length = ((rowZ z).map fun p => p.2.natAbs).sum := by
  have := short_facts h (l := rowZ z) fun p hp => ⟨(rowZ_ru h v hl p hp).1, red_nz (rowZ_red z) p (List.mem_reverse.mpr hp)⟩
  rw [rowZ_ex] at this
  exact this
end K4

set_option Elab.async false
set_option linter.all false
set_option maxRecDepth 100000
set_option maxHeartbeats 3200000
/-! a * b, ~a and the like by an own operator of a class of the text -/
namespace Ow
open PySem PySem.Spec PyProof.Rows L2
theorem no_ni {v : V} {u : Value} (r : RelV v u) : u ≠ .notImplemented := by
  rintro rfl
  cases v <;> first | (obtain ⟨_, r⟩ := r; exact Value.noConfusion r) | exact Value.noConfusion r
section
variable {X : Cx} {CX : CXT} {C f : Addr} {fd : FuncData} {ps : List Str} {sp : Sp} {E : XK} {k : Nat} {op : Operator}
/-- both of the class at C: what the operator's def promises -/
def rOwn (C : Addr) (sp : Sp) (E : XK) : R2 := fun x y H Q => ∃ a b dx dy fs gs, x = .ref a ∧ y = .ref b ∧ H a = some (.ins C dx fs) ∧ H b = some (.ins C dy gs) ∧ sp [.ref a, .ref b] H Q E
/-- a call of such a def from where the operator stands -/
theorem own_call (F : FnOk X.prog X.w X.K X.mg X.base CX k f fd ps sp) (hr : Room k X.A) (hb : Binds X.K fd ps []) (hx : Passes CX X E) {pins : List (Addr × Obj)} {s : Shared} {σ : L2.St} {H : Hp} {Q : VK} {us : List Value} {vs : List V}
    (I : Inv X pins σ H s) (r : Vals vs us) (h : sp vs H Q E) : wpAny (model X.prog X.w) X.A (call (.ref f) us) (EP X pins σ Q) X.xe s := by
  have hl := F.len _ _ _ _ h
  refine wpAny_call (codeAny_mono (F.run X.A X.stack s H ⟨us, []⟩ us vs Q E hr I.env0 (by
    have := hb s us I.kIn (by rw [List.append_nil, ← r.length]; exact hl)
    simpa using this) r h) fun r s' hq => ?_)
  cases r with
  | error e => exact hx pins σ H s e s' I hq
  | ok fl =>
    cases fl with
    | ret w => exact I.after hq
    | next => exact False.elim hq
    | brk => exact False.elim hq
    | cont => exact False.elim hq
theorem op_own (F : FnOk X.prog X.w X.K X.mg X.base CX k f fd ps sp) (hr : Room k X.A) (hc : PySem.W.selfFirst X.K C = true) (hs : PySem.W.findIn X.K (.ref C) (PySem.dunder op.info.2) = some (some (.ref f))) (hf : PySem.W.isFn X.K (.ref f) = true)
    (hb : Binds X.K fd ps []) (hx : Passes CX X E) : OpR X (binaryOp op) (rOwn C sp E) := by
  intro pins s σ H x y u v Q I rx ry hq
  obtain ⟨a, b, dx, dy, fs, gs, rfl, rfl, ha, hb', h⟩ := hq
  cases rx
  cases ry
  obtain ⟨mA, J, _⟩ := ins_get I.hok ha
  obtain ⟨mB, J', _⟩ := ins_get I.hok hb'
  obtain ⟨od, J, _⟩ := J.look
  obtain ⟨od', J', _⟩ := J'.look
  obtain ⟨m, hF⟩ := I.fr
  refine PySem.W.binop_K hF I.ok.mod.kin J J'.type hc hs hf ?_
  refine wpAny_mono (own_call F hr hb hx I (vs := [V.ref a, V.ref b]) (.cons rfl (.cons rfl .nil)) h) (fun w s' z => ?_) fun _ _ e => e
  obtain ⟨v, H', I', rv, q⟩ := z
  have := no_ni rv
  cases w <;> first | exact absurd rfl this | exact ⟨v, H', I', rv, q⟩
/-- a op v, v of a built-in type (an own operator that refuses such) -/
def rOwnT (K : PySem.W.Frag) (C : Addr) (T : String) (sp : Sp) (E : XK) : R2 := fun x y H Q => ∃ a dx fs, x = .ref a ∧ H a = some (.ins C dx fs) ∧ (∀ u, RelV y u → typeOf u = pure (.type T)) ∧ sp [.ref a, y] H Q E
theorem op_ownT {T : String} {fo ro rc : Option Value} (F : FnOk X.prog X.w X.K X.mg X.base CX k f fd ps sp) (hr : Room k X.A) (hc : PySem.W.selfFirst X.K C = true) (hs : PySem.W.findIn X.K (.ref C) (PySem.dunder op.info.2) = some (some (.ref f))) (hf : PySem.W.isFn X.K (.ref f) = true)
    (hrc : PySem.W.findIn X.K (.ref C) (dunderR op.info.2) = some rc) (hp : rc = none ∨ ∃ g : Addr, rc = some (.ref g)) (h1 : PySem.W.findIn X.K (.type T) (PySem.dunder op.info.2) = some fo) (h2 : PySem.W.findIn X.K (.type T) (dunderR op.info.2) = some ro)
    (hsub : PySem.W.subIn X.K (.type T) (.ref C) = some false) (hb : Binds X.K fd ps []) (hx : Passes CX X E) : OpR X (binaryOp op) (rOwnT X.K C T sp E) := by
  intro pins s σ H x y u v Q I rx ry hq
  obtain ⟨a, dx, fs, rfl, ha, ht, h⟩ := hq
  cases rx
  obtain ⟨mA, J, _⟩ := ins_get I.hok ha
  obtain ⟨od, J, _⟩ := J.look
  obtain ⟨m, hF⟩ := I.fr
  refine PySem.W.ksp_binT hF I.ok.mod.kin J (ht _ ry) hc hs hf hrc hp h1 h2 hsub ?_
  refine wpAny_mono (own_call F hr hb hx I (vs := [V.ref a, y]) (.cons rfl (.cons ry .nil)) h) (fun w s' z => ?_) fun _ _ e => e
  obtain ⟨v, H', I', rv, q⟩ := z
  have := no_ni rv
  cases w <;> first | exact absurd rfl this | exact ⟨v, H', I', rv, q⟩
/-- ~a, -a by the text's own operator -/
def rOwn1 (C : Addr) (sp : Sp) (E : XK) : V → Hp → VK → Prop := fun x H Q => ∃ a dx fs, x = .ref a ∧ H a = some (.ins C dx fs) ∧ sp [.ref a] H Q E
theorem un_own (F : FnOk X.prog X.w X.K X.mg X.base CX k f fd ps sp) (hr : Room k X.A) (hs : PySem.W.findIn X.K (.ref C) "__invert__" = some (some (.ref f))) (hf : PySem.W.isFn X.K (.ref f) = true)
    (hb : Binds X.K fd ps []) (hx : Passes CX X E) : UnR X (unaryOp .Invert) (rOwn1 C sp E) := by
  intro pins s σ H x u Q I rx hq
  obtain ⟨a, dx, fs, rfl, ha, h⟩ := hq
  cases rx
  obtain ⟨mA, J, _⟩ := ins_get I.hok ha
  obtain ⟨od, J, _⟩ := J.look
  obtain ⟨m, hF⟩ := I.fr
  exact PySem.W.ksp_inv hF I.ok.mod.kin J hs hf (own_call F hr hb hx I (vs := [V.ref a]) (.cons rfl .nil) h)
/-- the same call one step further within -/
theorem own_call1 {A : Around} (hA : A.frames = X.A.frames) (F : FnOk X.prog X.w X.K X.mg X.base CX k f fd ps sp) (hr : Room k A) (hb : Binds X.K fd ps []) (hx : Passes CX X E) {pins : List (Addr × Obj)} {s : Shared} {σ : L2.St} {H : Hp} {Q : VK} {us : List Value} {vs : List V}
    (I : Inv X pins σ H s) (r : Vals vs us) (h : sp vs H Q E) : wpAny (model X.prog X.w) A (call (.ref f) us) (EP X pins σ Q) X.xe s := by
  have hl := F.len _ _ _ _ h
  have e0 : Env0 X.prog X.w X.K X.mg X.base A X.stack s H := by
    have e := I.env0
    exact ⟨by rw [hA]; exact e.frames, e.mod, e.bs, e.bsz, e.funs, e.frf, e.hok, e.bare⟩
  refine wpAny_call (codeAny_mono (F.run A X.stack s H ⟨us, []⟩ us vs Q E hr e0 (by
    have := hb s us I.kIn (by rw [List.append_nil, ← r.length]; exact hl)
    simpa using this) r h) fun r s' hq => ?_)
  cases r with
  | error e => exact hx pins σ H s e s' I hq
  | ok fl =>
    cases fl with
    | ret w => exact I.after hq
    | next => exact False.elim hq
    | brk => exact False.elim hq
    | cont => exact False.elim hq
/-- a == b, both of the class C, by its own __eq__, whatever it answers -/
theorem eq_own (F : FnOk X.prog X.w X.K X.mg X.base CX k f fd ps sp) (hr : Room k X.A) (hn : PySem.W.notFirst X.K C (.ref C) = true) (hs : PySem.W.findIn X.K (.ref C) "__eq__" = some (some (.ref f))) (hf : PySem.W.isFn X.K (.ref f) = true)
    (hb : Binds X.K fd ps []) (hx : Passes CX X E) : OpR X (compareOp .Eq) (rOwn C sp E) := by
  intro pins s σ H x y u v Q I rx ry hq
  obtain ⟨a, b, dx, dy, fs, gs, rfl, rfl, ha, hb', h⟩ := hq
  cases rx
  cases ry
  obtain ⟨mA, J, _⟩ := ins_get I.hok ha
  obtain ⟨mB, J', _⟩ := ins_get I.hok hb'
  obtain ⟨od, J, _⟩ := J.look
  obtain ⟨od', J', _⟩ := J'.look
  obtain ⟨m, hF⟩ := I.fr
  show wpAny (model X.prog X.w) X.A (richCompare .Eq (.ref a) (.ref b)) (EP X pins σ Q) X.xe s
  refine PySem.W.cmp_K (op := .Eq) (tb := .ref C) hr.units0 hF I.ok.mod.kin J J'.type hn hs hf ?_
  refine wpAny_mono (own_call F hr hb hx I (vs := [V.ref a, V.ref b]) (.cons rfl (.cons rfl .nil)) h) (fun w s' z => ?_) fun _ _ e => e
  obtain ⟨v, H', I', rv, q⟩ := z
  have := no_ni rv
  cases w <;> first | exact absurd rfl this | exact ⟨v, H', I', rv, q⟩
/-- len(a) by the class's own __len__ -/
def rLenOwn (C : Addr) (sp : Sp) (E : XK) : List V → Hp → VK → Prop := fun xs H Q => ∃ a dx fs, xs = [.ref a] ∧ H a = some (.ins C dx fs) ∧ sp [.ref a] H (fun v H' => ∃ n : Int, v = .int n ∧ 0 ≤ n ∧ n < 2 ^ 63 ∧ Q (.int n) H') E
theorem len_own (F : FnOk X.prog X.w X.K X.mg X.base CX k f fd ps sp) (hr : Room (k + 1) X.A) (hs : PySem.W.findIn X.K (.ref C) "__len__" = some (some (.ref f))) (hf : PySem.W.isFn X.K (.ref f) = true)
    (hb : Binds X.K fd ps []) (hx : Passes CX X E) : CallR X (.builtin "len") (rLenOwn C sp E) := by
  intro pins s σ H xs us Q I r hq
  obtain ⟨a, dx, fs, rfl, ha, h⟩ := hq
  obtain rfl := Vals.ref1 r
  obtain ⟨mA, J, _⟩ := ins_get I.hok ha
  obtain ⟨od, J, _⟩ := J.look
  obtain ⟨m, hF⟩ := I.fr
  refine PySem.W.len_K hF I.ok.mod.kin J hs hf ?_
  refine wpAny_mono (own_call1 (A := X.A.in1) rfl F hr.in1 hb hx I (vs := [V.ref a]) (.cons rfl .nil) h) (fun w s' z => ?_) fun _ _ e => e
  obtain ⟨v, H', I', rv, n, rfl, h0, h1, q⟩ := z
  obtain ⟨t, rfl⟩ := rv
  exact ⟨⟨h0, h1⟩, .int n, H', I'.tok _, ⟨_, rfl⟩, q⟩
end
end Ow

set_option Elab.async false
set_option linter.all false
set_option maxRecDepth 100000
set_option maxHeartbeats 3200000
/-! a != b, both of a class of the text that has only an own __eq__ -/
namespace Ow
open PySem PySem.Spec PyProof.Rows L2
theorem ifBound_b {A : Around} {E : Value → Shared → Prop} {s : Shared} {K : PySem.W.Frag} {x C : Addr} {ox : Obj} {od : Option Obj} {name : Str} {id : String} {M : Model} {args : List Value} {Q : Option Value → Shared → Prop} (X : K.In s.heap) (I : PySem.W.InstAt s.heap x ox C od)
    (hs : PySem.W.findIn K (.ref C) name = some (some (.builtin id))) (hb : ∀ self, bindSpecial (.builtin id) self = pure (.builtin id, [self]))
    (h : wpAny M A (call (.builtin id) (.ref x :: args)) (fun v => Q (some v)) E s) : wpAny M A (callSpecialIfBound? (.ref x) name args) Q E s := by
  simp only [callSpecialIfBound?, bindSpecialIfBound?]
  refine wpAny_holding (wpAny_bind (wpAny_bind (wpAny_bind (I.type.here ((PySem.W.looks_findIn X hs).here ?_)))))
  simp only [hb]
  refine wpAny_bind (wpAny_askSetting (wpAny_ite ?_))
  have fin : wpAny M A (call (.builtin id) ([.ref x] ++ args) >>= fun v => pure (some v)) Q E s := wpAny_bind (wpAny_mono h (fun v s' h' => wpAny_pure h') fun _ _ h' => h')
  split
  · exact wpAny_bind (wpAny_pure (wpAny_pure fin))
  · exact wpAny_tryCatch (wpAny_bind (wpAny_pure (wpAny_pure fin)))
section
variable {X : Cx} {CX : CXT} {C f : Addr} {fd : FuncData} {ps : List Str} {sp : Sp} {E : XK} {k : Nat}
def rOwnNe (C : Addr) (sp : Sp) (E : XK) : R2 := fun x y H Q => ∃ a b dx dy fs gs, x = .ref a ∧ y = .ref b ∧ H a = some (.ins C dx fs) ∧ H b = some (.ins C dy gs) ∧ sp [.ref a, .ref b] H (fun v H' => ∃ t : Bool, v = .bl t ∧ Q (.bl (!t)) H') E
theorem ne_own (F : FnOk X.prog X.w X.K X.mg X.base CX k f fd ps sp) (hr : Room (k + 1) X.A) (hob : PySem.W.subIn X.K (.ref C) (.type "object") = some true) (hn : PySem.W.findIn X.K (.ref C) "__ne__" = some (some (.builtin "object.__ne__")))
    (hs : PySem.W.findIn X.K (.ref C) "__eq__" = some (some (.ref f))) (hf : PySem.W.isFn X.K (.ref f) = true) (hb : Binds X.K fd ps []) (hx : Passes CX X E) : OpR X (compareOp .NotEq) (rOwnNe C sp E) := by
  intro pins s σ H x y u v Q I rx ry hq
  obtain ⟨a, b, dx, dy, fs, gs, rfl, rfl, ha, hb', h⟩ := hq
  cases rx
  cases ry
  obtain ⟨mA, J, _⟩ := ins_get I.hok ha
  obtain ⟨mB, J', _⟩ := ins_get I.hok hb'
  obtain ⟨od, J, _⟩ := J.look
  obtain ⟨od', J', _⟩ := J'.look
  obtain ⟨m, hF⟩ := I.fr
  have X0 := I.ok.mod.kin.keeps hF.keep
  have inner := own_call1 (A := X.A.in1) rfl F hr.in1 hb hx I (vs := [V.ref a, V.ref b]) (us := [.ref a, .ref b]) (.cons rfl (.cons rfl .nil)) h
  have one : wpAny (model X.prog X.w) X.A (tryCompare (.ref a) "__ne__" (.ref b)) (fun r s' => ∃ v, r = some v ∧ EP X pins σ Q v s') X.xe s := by
    unfold tryCompare
    refine wpAny_bind (ifBound_b X0 J hn PySem.F.cmp_object.ne.bind (wpAny_call (codeAny_call_builtin PySem.F.cmp_object.ne.plain PySem.F.cmpEntry_ne
      (PySem.W.check_slot PySem.F.cmpKind_ne PySem.F.cmpSplit_ne (J.type.andThen (PySem.W.looks_subIn X0 hob)) (PySem.F.cmpArgs_ne _ _) ?_))))
    unfold Builtin.«object.__ne__»
    repeat (first
      | with_reducible refine wpAny_cRoomFor hr.in1.units0 ?_
      | (refine wpAny_bind (m := callSpecialIfBound? (.ref a) (Str.ofString "__eq__") [.ref b]) (PySem.W.ifBound_K X0 J hs hf (wpAny_mono inner (fun r s' hr' => ?_) fun _ _ e => e)))
      | wp_step)
    obtain ⟨v, H', I', rv, t, rfl, q⟩ := hr'
    obtain rfl : r = Value.bool t := rv
    repeat (first | (refine wpAny_bind (m := truthy (.bool _)) (wpAny_truthy_bool ?_)) | wp_step)
    first
      | exact ⟨_, rfl, .bl (!t), H', I', rfl, q⟩
      | exact wpAny_pure ⟨_, rfl, .bl (!t), H', I', rfl, q⟩
  show wpAny (model X.prog X.w) X.A (richCompare .NotEq (.ref a) (.ref b)) (EP X pins σ Q) X.xe s
  unfold richCompare
  simp only [oneThing_ref]
  refine wpAny_holding (wpAny_bind (wpAny_cRoomFor hr.units0 ?_))
  refine wpAny_bind (J.type.here (wpAny_bind (J'.type.here ?_)))
  rw [show (Value.ref C != Value.ref C) = false from by simp]
  simp only [Bool.false_eq_true, if_false]
  refine wpAny_bind (wpAny_pure ?_)
  simp only [Bool.false_eq_true, if_false]
  refine wpAny_bind (wpAny_mono one (fun r s' z => ?_) fun _ _ e => e)
  obtain ⟨v, rfl, hq⟩ := z
  exact wpAny_pure hq
end
end Ow

set_option Elab.async false
set_option linter.all false
set_option maxRecDepth 100000
set_option maxHeartbeats 3200000
/-! a == v, a != v with v of another kind; a[i] by an own __getitem__; str(a) by an own __str__ -/
namespace Ow
open PySem PySem.Spec PyProof.Rows L2
section
variable {X : Cx} {CX : CXT} {C f : Addr} {fd : FuncData} {ps : List Str} {sp : Sp} {E : XK} {k : Nat}
def rOwnX (K : PySem.W.Frag) (C : Addr) (sp : Sp) (E : XK) : R2 := fun x y H Q => ∃ a dx fs t, x = .ref a ∧ H a = some (.ins C dx fs) ∧ TyX K H y t ∧ PySem.W.notFirst K C t = true ∧ sp [.ref a, y] H Q E
theorem eq_ownX (F : FnOk X.prog X.w X.K X.mg X.base CX k f fd ps sp) (hr : Room k X.A) (hs : PySem.W.findIn X.K (.ref C) "__eq__" = some (some (.ref f))) (hf : PySem.W.isFn X.K (.ref f) = true)
    (hb : Binds X.K fd ps []) (hx : Passes CX X E) : OpR X (compareOp .Eq) (rOwnX X.K C sp E) := by
  intro pins s σ H x y u v Q I rx ry hq
  obtain ⟨a, dx, fs, t, rfl, ha, ty, hn, h⟩ := hq
  cases rx
  obtain ⟨mA, J, _⟩ := ins_get I.hok ha
  obtain ⟨od, J, _⟩ := J.look
  obtain ⟨m, hF⟩ := I.fr
  obtain ⟨P, Z, hP, _⟩ := kit_of I ry ty
  show wpAny (model X.prog X.w) X.A (richCompare .Eq (.ref a) v) (EP X pins σ Q) X.xe s
  refine PySem.W.cmp_K (op := .Eq) (tb := t) hr.units0 hF I.ok.mod.kin J (Z.ty _ _ I.kIn hP) hn hs hf ?_
  refine wpAny_mono (own_call F hr hb hx I (vs := [V.ref a, y]) (.cons rfl (.cons ry .nil)) h) (fun w s' z => ?_) fun _ _ e => e
  obtain ⟨v, H', I', rv, q⟩ := z
  have := no_ni rv
  cases w <;> first | exact absurd rfl this | exact ⟨v, H', I', rv, q⟩
def rOwnNeX (K : PySem.W.Frag) (C : Addr) (sp : Sp) (E : XK) : R2 := fun x y H Q => ∃ a dx fs t, x = .ref a ∧ H a = some (.ins C dx fs) ∧ TyX K H y t ∧ PySem.W.notFirst K C t = true ∧ sp [.ref a, y] H (fun v H' => ∃ t : Bool, v = .bl t ∧ Q (.bl (!t)) H') E
theorem ne_ownX (F : FnOk X.prog X.w X.K X.mg X.base CX k f fd ps sp) (hr : Room (k + 1) X.A) (hob : PySem.W.subIn X.K (.ref C) (.type "object") = some true) (hn0 : PySem.W.findIn X.K (.ref C) "__ne__" = some (some (.builtin "object.__ne__")))
    (hs : PySem.W.findIn X.K (.ref C) "__eq__" = some (some (.ref f))) (hf : PySem.W.isFn X.K (.ref f) = true) (hb : Binds X.K fd ps []) (hx : Passes CX X E) : OpR X (compareOp .NotEq) (rOwnNeX X.K C sp E) := by
  intro pins s σ H x y u v Q I rx ry hq
  obtain ⟨a, dx, fs, ty, rfl, ha, hty, hn, h⟩ := hq
  cases rx
  obtain ⟨mA, J, _⟩ := ins_get I.hok ha
  obtain ⟨od, J, _⟩ := J.look
  obtain ⟨m, hF⟩ := I.fr
  obtain ⟨P, Z, hP, _⟩ := kit_of I ry hty
  have X0 := I.ok.mod.kin.keeps hF.keep
  have hv := Z.ty (model X.prog X.w) _ I.kIn hP
  have inner := own_call1 (A := X.A.in1) rfl F hr.in1 hb hx I (vs := [V.ref a, y]) (us := [.ref a, v]) (.cons rfl (.cons ry .nil)) h
  have one : wpAny (model X.prog X.w) X.A (tryCompare (.ref a) "__ne__" v) (fun r s' => ∃ v, r = some v ∧ EP X pins σ Q v s') X.xe s := by
    unfold tryCompare
    refine wpAny_bind (ifBound_b X0 J hn0 PySem.F.cmp_object.ne.bind (wpAny_call (codeAny_call_builtin PySem.F.cmp_object.ne.plain PySem.F.cmpEntry_ne
      (PySem.W.check_slot PySem.F.cmpKind_ne PySem.F.cmpSplit_ne (J.type.andThen (PySem.W.looks_subIn X0 hob)) (PySem.F.cmpArgs_ne _ _) ?_))))
    unfold Builtin.«object.__ne__»
    repeat (first
      | with_reducible refine wpAny_cRoomFor hr.in1.units0 ?_
      | (refine wpAny_bind (m := callSpecialIfBound? (.ref a) (Str.ofString "__eq__") [v]) (PySem.W.ifBound_K X0 J hs hf (wpAny_mono inner (fun r s' hr' => ?_) fun _ _ e => e)))
      | wp_step)
    obtain ⟨v, H', I', rv, t, rfl, q⟩ := hr'
    obtain rfl : r = Value.bool t := rv
    repeat (first | (refine wpAny_bind (m := truthy (.bool _)) (wpAny_truthy_bool ?_)) | wp_step)
    first
      | exact ⟨_, rfl, .bl (!t), H', I', rfl, q⟩
      | exact wpAny_pure ⟨_, rfl, .bl (!t), H', I', rfl, q⟩
  show wpAny (model X.prog X.w) X.A (richCompare .NotEq (.ref a) v) (EP X pins σ Q) X.xe s
  unfold richCompare
  simp only [oneThing_ref]
  refine wpAny_holding (wpAny_bind (wpAny_cRoomFor hr.units0 ?_))
  refine wpAny_bind (J.type.here (wpAny_bind (hv.here ?_)))
  split
  · rename_i q
    have e : PySem.W.subIn X.K ty (.ref C) = some false := by
      rcases Bool.or_eq_true_iff.mp hn with e | e
      · rw [beq_iff_eq.mp e] at q; simp at q
      · exact beq_iff_eq.mp e
    refine wpAny_bind ((PySem.W.looks_subIn X0 e).here ?_)
    simp only [Bool.false_eq_true, if_false]
    refine wpAny_bind (wpAny_mono one (fun r s' z => ?_) fun _ _ e => e)
    obtain ⟨v, rfl, hq⟩ := z
    exact wpAny_pure hq
  · refine wpAny_bind (wpAny_pure ?_)
    simp only [Bool.false_eq_true, if_false]
    refine wpAny_bind (wpAny_mono one (fun r s' z => ?_) fun _ _ e => e)
    obtain ⟨v, rfl, hq⟩ := z
    exact wpAny_pure hq
/-- a[i] -/
def rOwnIx (C : Addr) (sp : Sp) (E : XK) : R2 := fun x y H Q => ∃ a dx fs, x = .ref a ∧ H a = some (.ins C dx fs) ∧ sp [.ref a, y] H Q E
theorem pe_ixOwn {a b : Expr} {ta tb : TE} {pos : Pos} (F : FnOk X.prog X.w X.K X.mg X.base CX k f fd ps sp) (hr : Room (k + 1) X.A) (hs : PySem.W.findIn X.K (.ref C) "__getitem__" = some (some (.ref f))) (hf : PySem.W.fnIn X.K f = true) (hfn : PySem.W.isFn X.K (.ref f) = true)
    (hb : Binds X.K fd ps []) (hx : Passes CX X E) (ha : PE X a ta) (hbb : PE X b tb) (hsl : ∀ o i, subscripted b true o i = runValue (.builtin "lifetime.subscript" ⟨[o, i], []⟩)) : PE X (.Subscript a b pos) (tOp (rOwnIx C sp E) ta tb) := by
  refine ⟨fun pins s σ H Q I h => ?_⟩
  refine Subscript_ (binT ha hbb I (R := fun x y H2 => rOwnIx C sp E x y H2 Q) h fun v u s2 x y H2 I2 rx ry q => ?_)
  obtain ⟨a, dx, fs, rfl, ha, h⟩ := q
  cases rx
  obtain ⟨mA, J, _⟩ := ins_get I2.hok ha
  obtain ⟨od, J, _⟩ := J.look
  obtain ⟨m, hF⟩ := I2.fr
  exact PySem.W.sub_K hF I2.ok.mod.kin J hs hf hfn (own_call1 (A := X.A.in1) rfl F hr.in1 hb hx I2 (vs := [V.ref a, y]) (.cons rfl (.cons ry .nil)) h) (hsl _ _)
/-- str(a) -/
def rStrOwn (C : Addr) (sp : Sp) (E : XK) : List V → Hp → VK → Prop := fun xs H Q => ∃ a dx fs, xs = [.ref a] ∧ H a = some (.ins C dx fs) ∧ sp [.ref a] H (fun v H' => ∃ z, v = .str z ∧ Q (.str z) H') E
theorem str_own (F : FnOk X.prog X.w X.K X.mg X.base CX k f fd ps sp) (hr : Room (k + 2) X.A) (hs : PySem.W.findIn X.K (.ref C) "__str__" = some (some (.ref f))) (hf : PySem.W.isFn X.K (.ref f) = true)
    (hb : Binds X.K fd ps []) (hx : Passes CX X E) : CallR X (.type "str") (rStrOwn C sp E) := by
  intro pins s σ H xs us Q I r hq
  obtain ⟨a, dx, fs, rfl, ha, h⟩ := hq
  obtain rfl := Vals.ref1 r
  obtain ⟨mA, J, _⟩ := ins_get I.hok ha
  obtain ⟨od, J, _⟩ := J.look
  obtain ⟨m, hF⟩ := I.fr
  refine PySem.W.kso_call hr.in1.in1.units0 I.kIn J hs hf ?_
  refine wpAny_mono (own_call1 (A := X.A.in1.in1) rfl F hr.in1.in1 hb hx I (vs := [V.ref a]) (.cons rfl .nil) h) (fun w s' z => ?_) fun _ _ e => e
  obtain ⟨v, H', I', rv, n, rfl, q⟩ := z
  obtain ⟨t, rfl⟩ := rv
  exact ⟨.str n, H', I', ⟨t, rfl⟩, q⟩
end
end Ow

set_option Elab.async false
set_option linter.all false
set_option maxRecDepth 100000
set_option maxHeartbeats 3200000
/-! a walk over an object by its own __iter__, which gives iter of a tuple -/
namespace Ow
open PySem PySem.Spec PyProof.Rows L2
/-- an iterator of the tuple at t, not begun -/
def ItT (t it : Addr) : HO := .ext fun h => h.IsTupleIter it t 0
section
variable {X : Cx} {pins : List (Addr × Obj)} {σ : L2.St} {H : Hp} {s : Shared}
def rIterT (K : PySem.W.Frag) (n : Nat) : List V → Hp → VK → Prop := fun xs H Q => ∃ (t : Addr) (zs : List V), xs = [.ref t] ∧ SqT K H t zs ∧ ∀ it, H it = none → n ≤ it → Q (.ref it) (upd H it (ItT t it))
theorem call_iterT : CallR X (.builtin "iter") (rIterT X.K X.s_0.heap.objs.size) := by
  intro pins s σ H xs us Q I r h
  obtain ⟨l, zs, rfl, hq, q⟩ := h
  obtain rfl := Vals.ref1 r
  obtain ⟨its, rv, pl, hz⟩ := I.tuple hq
  refine Calls.call_function_entry (by decide +kernel) (by decide +kernel) PySem.W.kdk_entry_iter (PySem.W.kdk_args_iter _) ?_
  unfold Builtin.«iter»
  refine wpAny_bind (m := someArgs "iter" 1 2 _) (wpAny_of_eq (a := [Value.ref l]) (by first | rfl | kernel_rfl!) ?_)
  show wpAny _ _ (pyIter (.ref l) >>= _) _ _ _
  refine wpAny_bind (wpAny_pyIter_tuple pl (wpAny_pure ⟨_, rfl, ?_⟩))
  have g : (s.heap.push { cls := .type "tuple_iterator", data := .fields #[.ref l, .int 0 0] }).get? s.heap.objs.size = some { cls := .type "tuple_iterator", data := .fields #[.ref l, .int 0 0] } := Heap.get?_push_size _ rfl
  have it : (s.heap.push { cls := .type "tuple_iterator", data := .fields #[.ref l, .int 0 0] }).IsTupleIter s.heap.objs.size l 0 := ⟨_, g, rfl, rfl⟩
  exact ⟨.ref s.heap.objs.size, _, I.laid (t' := s.toks) (fun b u e => Heap.get?_push_of_some _ e) (Nat.le_refl _) (show ObjOk X.prog X.w _ _ _ (ItT l _) from ⟨it, ⟨_, g⟩, fun h1 h2 q k => q.at k⟩), rfl, q _ (I.hok.fresh (Nat.le_refl _)) I.sz⟩
end
/-! ### a def's promise that knows how many things there are when it is called -/
structure FnS (P : Program) (w : World) (K : PySem.W.Frag) (mg : Str → Option Value) (base : Heap) (k : Nat) (f : Addr) (fd : FuncData) (ps : List Str) (sp : Nat → Sp) : Prop where
  long : ∀ n xs H Q E, sp n xs H Q E → xs.length = ps.length
  goes : ∀ (A : Around) (out : List Env) (s : Shared) (H : Hp) (args : Args) (us : List Value) (xs : List V) (Q : VK) (E : XK), Room k A → Env0 P w K mg base A out s H →
    BindsTo s fd args (ps.zip us) → Vals xs us → sp s.heap.objs.size xs H Q E → codeAny (model P w) A (.call (.ref f) args) (CR CX0 out P w H s Q E) s
theorem FnS.fn {P : Program} {w : World} {K : PySem.W.Frag} {mg : Str → Option Value} {base : Heap} {x qual : Str} {st : Stmt} {f : Addr} {fd : FuncData} {N ps : List Str} {k : Nat} {sp : Nat → Sp} (F : Fun K x qual st f fd) (S : FnScope N ps (defScope st))
    (long : ∀ n xs H Q E, sp n xs H Q E → xs.length = ps.length)
    (inner : ∀ (cdv : Value) (A : Around) (out : List Env) (s : Shared) (H : Hp) (xs : List V) (Q : VK) (E : XK), Room k (A.deeper (envOfC qual (defScope st) s.heap.objs.size f cdv)) → sp s.heap.objs.size xs H Q E →
      ∃ t, PSs (cxOf CX0 P w K mg base N qual (defScope st) f cdv A out s H E) (defBody st) t ∧ t { nx := fun _ H2 => Q .non H2, rt := Q } (start N xs) H) :
    FnS P w K mg base (k + 1) f fd ps sp := by
  obtain ⟨oc, od, kV, doc, pm, an, cdv, ct, osl, e, look, code⟩ := F.ex
  subst e
  refine ⟨long, ?_⟩
  intro A out s H args us xs Q E room e0 bound rel hsp
  have hl := long _ _ _ _ _ hsp
  have inK : K.In s.heap := e0.mod.kin.keeps fun b o e => (e0.bs b o e).1
  have limit : s.heap.NoLimit := e0.mod.nolimit.keeps fun b o e => (e0.bs b o e).1
  have kinds : ∀ y ∈ ps.zip us, (defScope st).names.lookup y.1 = some .local ∨
      ((defScope st).names.lookup y.1 = some .cell ∧ ((cellsFrom (s.heap.objs.size + 1) (defScope st).names []).lookup y.1).isSome = true) := by
    rintro ⟨n, v⟩ hy
    cases S.par n (List.of_mem_zip hy).1 with
    | inl q => exact .inl q
    | inr q => exact .inr ⟨q, PySem.W.cellsFrom_some _ _ _ (.inl q)⟩
  refine codeAny_call_function room.depth (inK _ _ look) rfl S.co S.gen rfl (PySem.W.codeRec_of inK code) (bound _ _ _ _ ?_)
  refine wpAny_newFunctionEnv_cells S.kind kinds fun env he z x => ?_
  subst he
  refine ⟨limit.keeps x.toInCall.keep, codeAny_func ?_⟩
  obtain ⟨t, ht, hq⟩ := inner cdv A out s H xs Q E (room.deeper _) hsp
  have J0 : Inv (cxOf CX0 P w K mg base N qual (defScope st) f cdv A out s H E) [] (start N xs) H z := inv_start S room.hd e0 hl rel x
  refine wpAny_mono (ht.run [] z (start N xs) H _ J0 hq) (fun fl z' hs => ?_) fun e z' hs => hs
  have close : ∀ {σ' : L2.St} {H2 : Hp} {v : V} {u : Value}, Inv (cxOf CX0 P w K mg base N qual (defScope st) f cdv A out s H E) [] σ' H2 z' → RelV v u → Q v H2 → CE out P w H s Q u z' := by
    intro σ' H2 v u J rv q
    exact ⟨v, H2, J.os, J.bare, J.base, J.hok, rv, q⟩
  cases fl with
  | ret u =>
    obtain ⟨v, σ', H2, J, rv, q⟩ := hs
    exact close J rv q
  | next =>
    obtain ⟨σ', H2, J, q⟩ := hs
    exact close (v := V.non) (u := Value.none) J rfl q
  | brk =>
    obtain ⟨_, _, _, q⟩ := hs
    exact q.elim
  | cont =>
    obtain ⟨_, _, _, q⟩ := hs
    exact q.elim
section
variable {X : Cx} {C f : Addr} {fd : FuncData} {ps : List Str} {sp : Nat → Sp} {E : XK} {k : Nat}
/-- for x in a: whatever the number of things is -/
def iOwn (K : PySem.W.Frag) (C : Addr) (sp : Nat → Sp) (E : XK) (to : TE) : TI := fun σ H R => to σ H fun x H1 => ∃ a dx fs, x = .ref a ∧ H1 a = some (.ins C dx fs) ∧
  ∀ n, sp n [.ref a] H1 (fun v H2 => ∃ it t, v = .ref it ∧ H1 it = none ∧ n ≤ it ∧ (∃ xs, SqT K H1 t xs) ∧ H2 = upd H1 it (ItT t it) ∧ R (Itt K t) H1) E
theorem pi_own {tg e : Expr} {to : TE} (F : FnS X.prog X.w X.K X.mg X.base k f fd ps sp) (hr : Room k X.A) (hs : PySem.W.findIn X.K (.ref C) "__iter__" = some (some (.ref f))) (hf : PySem.W.isFn X.K (.ref f) = true)
    (hb : Binds X.K fd ps []) (ho : PE X e to) : PI X tg e (iOwn X.K C sp E to) := by
  refine ⟨fun pins s σ H R I h => ?_⟩
  refine thn (ho.run pins s σ H _ I h) fun v s1 ⟨x, H1, I1, r1, a, dx, fs, ex, ha, q0⟩ => ?_
  subst ex
  cases r1
  obtain ⟨mA, J, _⟩ := ins_get I1.hok ha
  obtain ⟨od, J, _⟩ := J.look
  obtain ⟨m, hF⟩ := I1.fr
  refine PySem.W.owit_iter hF I1.ok.mod.kin J hs hf ?_
  have q1 := q0 s1.heap.objs.size
  have hl := F.long _ _ _ _ _ q1
  refine wpAny_call (codeAny_mono (F.goes X.A X.stack s1 H1 ⟨[.ref a], []⟩ [.ref a] [.ref a] _ E hr I1.env0 (by
    have := hb s1 [.ref a] I1.kIn (by rw [List.append_nil]; exact hl)
    simpa using this) (.cons rfl .nil) q1) fun r s' hq => ?_)
  cases r with
  | error e => exact False.elim hq
  | ok fl =>
    cases fl with
    | next => exact False.elim hq
    | brk => exact False.elim hq
    | cont => exact False.elim hq
    | ret w =>
      have hq0 : CE X.stack X.prog X.w H1 s1 _ w s' := hq
      obtain ⟨hh, g, d, tk, os'⟩ := s'
      obtain ⟨v, H2, os, bare, un, hok, rv, it, t, rfl, n1, hsz, ⟨xs, hxs⟩, rfl, hR⟩ := hq0
      obtain rfl : os' = s1.os := os
      cases rv
      have I2 : Inv X pins σ (upd H1 it (ItT t it)) ⟨hh, g, d, tk, s1.os⟩ := I1.call (h' := hh) (g' := g) (d' := d) (t' := tk) (ch := []) un hok bare (fun b z => absurd z (by simp))
      have hit : hh.IsTupleIter it t 0 := (show ObjOk X.prog X.w _ hh it (ItT t it) from hok it _ upd_same).1
      obtain ⟨oi, hoi, hci, hdi⟩ := id hit
      have I3 := ItX.inv_drop I2 (a := it) upd_same
      rw [ItX.dropH_upd n1] at I3
      refine wpAny_specialOf (T := "tuple_iterator") ⟨oi, hoi, hci⟩ PySem.F.slot_tuple_iterator_next.lookup ?_
      refine ⟨it, [it], _, Itt X.K t, H1, rfl, I3, turn_tuple t it, hit, fun b hb => ?_, hR⟩
      have e : b = it := by simpa using hb
      subst e
      exact I1.fpOk hsz n1
end
end Ow

set_option Elab.async false
set_option linter.all false
set_option maxRecDepth 100000
set_option maxHeartbeats 3200000
namespace K4
open PySem L2 Tx Tg Tm
abbrev sLet : Stmt := wdef 2
abbrev sRuns : Stmt := wdef 3
abbrev sSize : Stmt := wdef 4
abbrev sIx : Stmt := wdef 5
abbrev sIter : Stmt := wdef 7
abbrev sStr : Stmt := wdef 9
abbrev sShort : Stmt := wdef 15
abbrev sPlain : Stmt := wdef 16
def absOf (n : Int) : Int := if n < 0 then -n else n
theorem abs_nat (n : Int) : absOf n = (n.natAbs : Int) := by
  unfold absOf
  split <;> omega
def sizeL (l : Row) : Int := (l.map fun p => absOf p.2).sum
theorem mulT_ok {z : Str} {n : Int} (hz : z.length ≤ 100) (h1 : 1 ≤ n) (h2 : n ≤ 100) : MulOk z n := by
  refine ⟨?_, fun _ _ => ?_, fun _ _ => ?_⟩
  · rw [decide_eq_false (by omega), decide_eq_false (by omega)]
    rfl
  · have : (100 : Int) ≤ (2 ^ 63 - 1) / n := Int.le_ediv_of_mul_le (by omega) (by omega)
    omega
  · have e : PySem.Builtin.Str.tooLong (z.length * n.toNat) = decide (z.length * n.toNat > sizeLine) := rfl
    rw [e]
    refine decide_eq_false ?_
    have := Nat.mul_le_mul hz (show n.toNat ≤ 100 by omega)
    rw [sizeLine_eq]
    omega
section
variable {X : Cx}
theorem op_mulT : OpR X (binaryOp .Mult) (fun x y H Q => ∃ (z : Str) (n : Int), x = .str z ∧ y = .int n ∧ z.length ≤ 100 ∧ 1 ≤ n ∧ n ≤ 100 ∧ Q (.str (Txt.mul z n)) H) := by
  intro pins s σ H x y v u Q I rx ry h
  obtain ⟨z, n, rfl, rfl, hz, h1, h2, q⟩ := h
  obtain ⟨t, rfl⟩ := rx
  obtain ⟨t', rfl⟩ := ry
  exact SB.mul (mulT_ok hz h1 h2) fun t2 k => ⟨.str (Txt.mul z n), H, I.tok _, ⟨t2, rfl⟩, q⟩
end
section
variable {P : Program} {w : World} {K : PySem.W.Frag} {mg : Str → Option Value} {base : Heap}
def spLet (K : PySem.W.Frag) (CW : Addr) : Sp := fun vs H Q _ => ∃ (a : Addr) (sg : Str) (l : Row), vs = [.ref a] ∧ WordAt K CW H a sg l ∧ Q (.str sg) H
theorem scLet : FnScope ["self"] ["self"] (defScope sLet) := ⟨rfl, rfl, rfl, by decide +kernel, rfl, by decide +kernel, by decide +kernel⟩
theorem ok_let {CM CW f : Addr} {fd : FuncData} (F : Fun K "letters" "Word.letters" sLet f fd) (W : WF K mg CM CW) : FnOk P w K mg base CX0 1 f fd ["self"] (spLet K CW) := by
  refine F.ok scLet (fun vs H Q E h => ?_) (fun cdv A outer s H vs Q E hr h => ?_)
  · obtain ⟨a, sg, l, rfl, _⟩ := h
    rfl
  · obtain ⟨a, sg, l, rfl, ⟨da, pa, ha, hl⟩, q⟩ := h
    refine ⟨_, pss_one (ps_ret (pe_fld (pv 0) rfl)), ?_⟩
    exact ⟨_, rfl, a, CW, da, _, _, rfl, ha, W.clW, W.nL, rfl, q⟩
def spRuns (K : PySem.W.Frag) (CW : Addr) : Sp := fun vs H Q _ => ∃ (a : Addr) (sg : Str) (l : Row), vs = [.ref a] ∧ WordAt K CW H a sg l ∧ ∀ p, TupRow K H p l → Q (.ref p) H
theorem scRuns : FnScope ["self"] ["self"] (defScope sRuns) := ⟨rfl, rfl, rfl, by decide +kernel, rfl, by decide +kernel, by decide +kernel⟩
theorem ok_runs {CM CW f : Addr} {fd : FuncData} (F : Fun K "runs" "Word.runs" sRuns f fd) (W : WF K mg CM CW) : FnOk P w K mg base CX0 1 f fd ["self"] (spRuns K CW) := by
  refine F.ok scRuns (fun vs H Q E h => ?_) (fun cdv A outer s H vs Q E hr h => ?_)
  · obtain ⟨a, sg, l, rfl, _⟩ := h
    rfl
  · obtain ⟨a, sg, l, rfl, ⟨da, pa, ha, hl⟩, q⟩ := h
    refine ⟨_, pss_one (ps_ret (pe_fld (pv 0) rfl)), ?_⟩
    exact ⟨_, rfl, a, CW, da, _, _, rfl, ha, W.clW, W.nR, rfl, q pa hl⟩
theorem pair_at {H : Hp} {ys : List V} {l : Row} {i : Nat} {x : V} (hp : PairsAt H ys l) (hx : ys[i]? = some x) : ∃ (hi : i < l.length) (t : Addr), x = .ref t ∧ H t = some (.tup [.str l[i].1, .int l[i].2]) := by
  have hi := (List.getElem?_eq_some_iff.mp hx).1
  have hl : ys.length = l.length := hp.length
  have hi' : i < l.length := by omega
  obtain ⟨t, e1, e2⟩ : PairAt H x l[i] := hp.zip (x, l[i]) (List.mem_of_getElem? (i := i) (by rw [List.getElem?_zip_eq_some]; exact ⟨hx, List.getElem?_eq_getElem hi'⟩))
  exact ⟨hi', t, e1, e2⟩
def spSize (K : PySem.W.Frag) (CW : Addr) : Sp := fun vs H Q _ => ∃ (a : Addr) (sg : Str) (l : Row), vs = [.ref a] ∧ WordAt K CW H a sg l ∧ l.length ≤ 200 ∧ ∀ H', Same H H' → Q (.int (sizeL l)) H'
theorem scSize : FnScope ["self", "_", "exponent"] ["self"] (defScope sSize) := ⟨rfl, rfl, rfl, by decide +kernel, rfl, by decide +kernel, by decide +kernel⟩
theorem ok_size {CM CW f : Addr} {fd : FuncData} (F : Fun K "size" "Word.size" sSize f fd) (T : Txt K mg) (W : WF K mg CM CW) : FnOk P w K mg base CX0 1 f fd ["self"] (spSize K CW) := by
  refine F.ok scSize (fun vs H Q E h => ?_) (fun cdv A outer s H vs Q E hr h => ?_)
  · obtain ⟨a, sg, l, rfl, _⟩ := h
    rfl
  · obtain ⟨a, sg, l, rfl, ⟨da, pa, ha, ys, hy, hp⟩, ll, q⟩ := h
    refine ⟨_, pss_one (ps_ret (pe_callB (cr_sum rfl) (by rfl) T.sum (by decide +kernel) (pa_cons (pe_lc (own := [("_", 1), ("exponent", 2)]) (g := gTup K 2 (gCons (gName 1) (gCons (gName 2) gNil))) (tt := tYes) rfl scSize.nd (pi_tup (pe_fld (pv 0) rfl))
      (blkOk_by (own := [("_", 1), ("exponent", 2)]) (N := ["self", "_", "exponent"]) (sc := defScope sSize) (by decide +kernel))
      (fun _ _ _ _ _ => pg_tup rfl (pgs_cons (pg_name (i := 1) scSize.nd rfl (Or.inl rfl)) (pgs_cons (pg_name (i := 2) scSize.nd rfl (Or.inl rfl)) pgs_nil))) (fun _ _ _ _ _ => pts_nil)
      (fun _ _ _ _ _ => pe_callB call_abs (by rfl) T.abs (by decide +kernel) (pa_cons (pv 2) pa_nil))) pa_nil))), ?_⟩
    refine ⟨_, rfl, a, CW, da, _, _, rfl, ha, W.clW, W.nR, rfl, pa, rfl, ⟨_, hy⟩, fun D hD => ?_⟩
    have hlen : ys.length = l.length := hp.length
    have sT : ∀ {H'}, Same H H' → SqT K H' pa ys := fun s => K4.SqT.of_row s hy
    refine lc_tup (xs := ys) (fun i H3 => Same H H3 ∧ H3 D = some (.lst (((l.take i).map fun p => absOf p.2).map V.int))) ⟨same_upd hD, upd_same⟩ (fun i H2 _ z => sT z.1) ?_ ?_
    · rintro i x H2 hx ⟨s2, e2⟩
      obtain ⟨hi', t, rfl, et⟩ := pair_at hp hx
      refine ⟨t, _, rfl, SqT.of (s2 _ _ et), rfl, _, _, rfl, _, _, rfl, rfl, rfl, iteT (B := False) ?_⟩
      refine ⟨_, rfl, _, rfl, _, e2, ?_, same_put s2 hD, ?_⟩
      · rw [List.length_map, List.length_map, List.length_take]
        exact Nat.lt_of_le_of_lt (show _ ≤ 200 by omega) (by decide)
      · rw [upd_same, List.take_add_one, List.getElem?_eq_getElem hi', List.map_append, List.map_append]
        rfl
    · rintro H2 ⟨s2, e2⟩
      rw [List.take_of_length_le (by omega)] at e2
      exact ⟨D, _, rfl, SqL.of e2, q H2 s2⟩
def spSoR (K : PySem.W.Frag) : Sp := fun vs H Q _ => ∃ (a : Addr) (sg : Str) (l : Row), vs = [.ref a] ∧ TupRow K H a l ∧ Signs sg ∧ (∀ p ∈ l, (∃ d ∈ cds sg, p.1 = one d) ∧ p.2 ≠ 0) ∧ (∀ p ∈ l, p.2.natAbs ≤ 100) ∧ l.length ≤ 200 ∧ ∀ H', Same H H' → Q (.str (shortT l)) H'
theorem scSoR : FnScope ["runs", "letter", "exponent"] ["runs"] (defScope sSignsOf) := ⟨rfl, rfl, rfl, by decide +kernel, rfl, by decide +kernel, by decide +kernel⟩
theorem sum_lens : ∀ l : List Str, (∀ z ∈ l, z.length ≤ 100) → (l.map (·.length)).sum ≤ 100 * l.length
  | [], _ => Nat.le_refl 0
  | z :: l, h => by
    have h1 := h z List.mem_cons_self
    have h2 := sum_lens l fun m hm => h m (List.mem_cons_of_mem _ hm)
    rw [List.map_cons, List.sum_cons, List.length_cons]
    omega
theorem ok_sor {f : Addr} {fd : FuncData} (F : Fun K "signs_of_runs" "signs_of_runs" sSignsOf f fd) (T : Txt K mg) : FnOk P w K mg base CX0 1 f fd ["runs"] (spSoR K) := by
  refine F.ok scSoR (fun vs H Q E h => ?_) (fun cdv A outer s H vs Q E hr h => ?_)
  · obtain ⟨a, sg, l, rfl, _⟩ := h
    rfl
  · obtain ⟨a, sg, l, rfl, ⟨ys, hy, hp⟩, hsg, hs, hb, ll, q⟩ := h
    refine ⟨_, pss_one (ps_ret (pe_join pe_str (pe_lc (own := [("letter", 1), ("exponent", 2)]) (g := gTup K 2 (gCons (gName 1) (gCons (gName 2) gNil))) (tt := tYes) rfl scSoR.nd (pi_tup (pv 0))
      (blkOk_by (own := [("letter", 1), ("exponent", 2)]) (N := ["runs", "letter", "exponent"]) (sc := defScope sSignsOf) (by decide +kernel))
      (fun _ _ _ _ _ => pg_tup rfl (pgs_cons (pg_name (i := 1) scSoR.nd rfl (Or.inl rfl)) (pgs_cons (pg_name (i := 2) scSoR.nd rfl (Or.inl rfl)) pgs_nil))) (fun _ _ _ _ _ => pts_nil)
      (fun _ _ _ _ _ => pe_ifExp (pt_cmpR op_gt (pv 2) pe_int (nomark _)) (pe_op op_mulT (pv 1) (pv 2)) (pe_op op_mulT (pe_upper (pv 1)) (pe_un un_neg (pv 2))))))), ?_⟩
    refine ⟨⟨_, rfl⟩, _, rfl, a, rfl, ⟨_, hy⟩, fun D hD => ?_⟩
    have hlen : ys.length = l.length := hp.length
    have sT : ∀ {H'}, Same H H' → SqT K H' a ys := fun s => K4.SqT.of_row s hy
    refine lc_tup (xs := ys) (fun i H3 => Same H H3 ∧ H3 D = some (.lst (((l.take i).map sgn).map V.str))) ⟨same_upd hD, upd_same⟩ (fun i H2 _ z => sT z.1) ?_ ?_
    · rintro i x H2 hx ⟨s2, e2⟩
      obtain ⟨hi', t, rfl, et⟩ := pair_at hp hx
      obtain ⟨⟨d, hd, ed⟩, hn0⟩ := hs l[i] (List.getElem_mem hi')
      have hb1 := hb l[i] (List.getElem_mem hi')
      have step : ∃ acc, H2 D = some (.lst acc) ∧ acc.length < sizeLine ∧ (Same H (upd H2 D (.lst (acc ++ [.str (sgn l[i])]))) ∧ (upd H2 D (.lst (acc ++ [.str (sgn l[i])]))) D = some (.lst (((l.take (i + 1)).map sgn).map V.str))) := by
        refine ⟨_, e2, ?_, same_put s2 hD, ?_⟩
        · rw [List.length_map, List.length_map, List.length_take]
          exact Nat.lt_of_le_of_lt (show _ ≤ 200 by omega) (by decide)
        · rw [upd_same, List.take_add_one, List.getElem?_eq_getElem hi', List.map_append, List.map_append]
          rfl
      have one1 : l[i].1.length = 1 := by rw [ed]; rfl
      have one2 : (Txt.upper l[i].1).length = 1 := by rw [ed, (up_one hsg hd).1]; rfl
      refine ⟨t, _, rfl, SqT.of (s2 _ _ et), rfl, _, _, rfl, _, _, rfl, rfl, rfl, iteT (B := False) ?_⟩
      refine ⟨_, rfl, _, _, rfl, rfl, _, rfl, ?_⟩
      have em : sgn l[i] = if l[i].2 > 0 then Txt.mul l[i].1 l[i].2 else Txt.mul (Txt.upper l[i].1) (-l[i].2) := rfl
      rw [em] at step
      by_cases hpos : l[i].2 > 0
      · rw [decide_eq_true hpos]
        rw [if_pos hpos] at step
        refine iteT ⟨_, rfl, _, rfl, _, _, rfl, rfl, by omega, by omega, by omega, step⟩
      · rw [decide_eq_false hpos]
        rw [if_neg hpos] at step
        refine iteF ⟨_, rfl, ⟨_, rfl⟩, _, rfl, rfl, by omega, _, rfl, _, rfl, _, _, rfl, rfl, by omega, by omega, by omega, step⟩
    · rintro H2 ⟨s2, e2⟩
      rw [List.take_of_length_le (by omega)] at e2
      refine ⟨"", D, _, rfl, rfl, .inl (SqL.of e2), ?_, q H2 s2⟩
      have := sum_lens (l.map sgn) fun z hz => by
        obtain ⟨p, hp', rfl⟩ := List.mem_map.mp hz
        rw [(sgn_cds hsg (hs p hp').1 (hs p hp').2).2.2]
        exact hb p hp'
      rw [List.length_map] at this
      show _ + _ * 0 ≤ _
      omega
def spShort (K : PySem.W.Frag) (CW : Addr) : Sp := fun vs H Q _ => ∃ (a : Addr) (sg : Str) (l : Row), vs = [.ref a] ∧ WordAt K CW H a sg l ∧ Signs sg ∧ (∀ p ∈ l, (∃ d ∈ cds sg, p.1 = one d) ∧ p.2 ≠ 0) ∧ (∀ p ∈ l, p.2.natAbs ≤ 100) ∧ l.length ≤ 100 ∧ sizeL l ≤ 4000 ∧ ∀ H', Same H H' → Q (.str (shortT l)) H'
theorem scShort : FnScope ["self"] ["self"] (defScope sShort) := ⟨rfl, rfl, rfl, by decide +kernel, rfl, by decide +kernel, by decide +kernel⟩
theorem ok_short {CM CW f fM fS fZ pZ : Addr} {fd fdM fdS fdZ : FuncData} (F : Fun K "shortest" "Word.shortest" sShort f fd) (T : Txt K mg) (W : WF K mg CM CW) (DM : Df K mg "check_most" sMost ["many", "limit"] fM fdM) (DS : Df K mg "signs_of_runs" sSignsOf ["runs"] fS fdS)
    (GZ : FnOk P w K mg base CX0 1 fZ fdZ ["self"] (spSize K CW)) (pZ' : PropOf K CW "size" pZ fZ) (bZ : Binds K fdZ ["self"] []) : FnOk P w K mg base CX0 3 f fd ["self"] (spShort K CW) := by
  have GM := ok_most (P := P) (w := w) (base := base) DM.F T
  have GS := ok_sor (P := P) (w := w) (base := base) DS.F T
  refine F.ok scShort (fun vs H Q E h => ?_) (fun cdv A outer s H vs Q E hr h => ?_)
  · obtain ⟨a, sg, l, rfl, _⟩ := h
    rfl
  · obtain ⟨a, sg, l, rfl, ⟨da, pa, ha, hl⟩, hsg, hs, hb, ll, hz, q⟩ := h
    have r1 : Room 1 _ := hr.mono (by decide)
    obtain ⟨t4, g4⟩ := T.mText
    refine ⟨_, pss_cons (ps_expr (pe_call GM r1 (by rfl) DM.m DM.F.kp DM.b .nil pass0 (pa_cons (pe_prop (pv 0) W.clW pZ' GZ hr bZ .nil pass0 rfl) (pa_cons (pe_glob (v := .int 4000) (by rfl) g4 ⟨_, rfl⟩) pa_nil))))
      (pss_one (ps_ret (pe_call GS r1 (by rfl) DS.m DS.F.kp DS.b .nil pass0 (pa_cons (pe_fld (pv 0) rfl) pa_nil)))), ?_⟩
    refine ⟨_, rfl, a, da, _, rfl, ha, a, sg, l, rfl, ⟨da, pa, ha, hl⟩, by omega, fun H1 s1 => ?_⟩
    refine ⟨sizeL l, 4000, rfl, hz, ?_⟩
    refine ⟨_, rfl, a, CW, da, _, _, rfl, s1 _ _ ha, W.clW, W.nR, rfl, pa, sg, l, rfl, hl.same s1, hsg, hs, hb, by omega, fun H2 s2 => q H2 (s1.trans s2)⟩
def spIx (K : PySem.W.Frag) (CW : Addr) : Sp := fun vs H Q _ => ∃ (a : Addr) (sg : Str) (l : Row) (i : Nat) (hi : i < l.length), vs = [.ref a, .int (i : Int)] ∧ WordAt K CW H a sg l ∧ l.length ≤ 200 ∧ ∀ t, H t = some (.tup [.str l[i].1, .int l[i].2]) → Q (.ref t) H
theorem scIx : FnScope ["self", "at"] ["self", "at"] (defScope sIx) := ⟨rfl, rfl, rfl, by decide +kernel, rfl, by decide +kernel, by decide +kernel⟩
theorem ok_ix {CM CW f fI : Addr} {fd fdI : FuncData} (F : Fun K "__getitem__" "Word.__getitem__" sIx f fd) (T : Txt K mg) (W : WF K mg CM CW) (DI : Df K mg "is_integer" sInt ["value"] fI fdI) : FnOk P w K mg base CX0 2 f fd ["self", "at"] (spIx K CW) := by
  have GI := ok_int (P := P) (w := w) (base := base) DI.F T
  refine F.ok scIx (fun vs H Q E h => ?_) (fun cdv A outer s H vs Q E hr h => ?_)
  · obtain ⟨a, sg, l, i, hi, rfl, _⟩ := h
    rfl
  · obtain ⟨a, sg, l, i, hi, rfl, ⟨da, pa, ha, ys, hy, hp⟩, ll, q⟩ := h
    refine ⟨_, pss_cons (ps_if (PW.pt (pw_or (pt_not (pt_val (pe_call GI hr (by rfl) DI.m DI.F.kp DI.b .nil pass0 (pa_cons (pv 1) pa_nil))))
        (pw_or (pt_cmpR op_lt (pv 1) pe_int (nomark _)) (pw_or1 (pt_cmpR op_ge (pv 1) (pe_callB call_len_seq (by rfl) T.len PySem.boot_len (pa_cons (pe_fld (pv 0) rfl) pa_nil)) (nomark _)))))) (pss_one ps_never) pss_nil)
      (pss_one (ps_ret (pe_ix ix_tup (pe_fld (pv 0) rfl) (pv 1) (fun _ _ => rfl)))), ?_⟩
    have hlen : ys.length = l.length := hp.length
    have h200 : isInt (.int (i : Int)) = true := isInt_of (B := 200) (by omega) (by decide +kernel)
    refine ⟨_, rfl, .int (i : Int), .int (i : Int), rfl, .int _, ?_⟩
    rw [h200]
    refine ⟨_, rfl, iteF ?_⟩
    refine ⟨_, rfl, _, _, rfl, rfl, _, rfl, ?_⟩
    rw [decide_eq_false (by omega)]
    refine iteF ?_
    refine ⟨_, rfl, _, rfl, a, CW, da, _, _, rfl, ha, W.clW, W.nR, rfl, pa, ys, rfl, .inr hy, _, _, rfl, rfl, _, rfl, ?_⟩
    rw [decide_eq_false (by omega)]
    refine iteF ?_
    have hx : ys[i]? = some ys[i] := List.getElem?_eq_getElem (by omega)
    obtain ⟨_, t, et, eh⟩ := pair_at hp hx
    refine ⟨_, rfl, a, CW, da, _, _, rfl, ha, W.clW, W.nR, rfl, _, rfl, pa, ys, (i : Int), .ref t, rfl, rfl, hy, atI_nat (by rw [hx, et]), q t eh⟩
def spIter (K : PySem.W.Frag) (CW : Addr) (n : Nat) : Sp := fun vs H Q _ => ∃ (a : Addr) (sg : Str) (l : Row), vs = [.ref a] ∧ WordAt K CW H a sg l ∧ ∀ p it ys, SqT K H p ys → PairsAt H ys l → H it = none → n ≤ it → Q (.ref it) (upd H it (Ow.ItT p it))
theorem scIter : FnScope ["self"] ["self"] (defScope sIter) := ⟨rfl, rfl, rfl, by decide +kernel, rfl, by decide +kernel, by decide +kernel⟩
theorem ok_iter {CM CW f : Addr} {fd : FuncData} (F : Fun K "__iter__" "Word.__iter__" sIter f fd) (hI : mg "iter" = none) (W : WF K mg CM CW) : Ow.FnS P w K mg base 1 f fd ["self"] (spIter K CW) := by
  refine Ow.FnS.fn F scIter (fun n vs H Q E h => ?_) (fun cdv A outer s H vs Q E hr h => ?_)
  · obtain ⟨a, sg, l, rfl, _⟩ := h
    rfl
  · obtain ⟨a, sg, l, rfl, ⟨da, pa, ha, ys, hy, hp⟩, q⟩ := h
    refine ⟨_, pss_one (ps_ret (pe_callB Ow.call_iterT (by rfl) hI (by decide +kernel) (pa_cons (pe_fld (pv 0) rfl) pa_nil))), ?_⟩
    exact ⟨_, rfl, a, CW, da, _, _, rfl, ha, W.clW, W.nR, rfl, pa, ys, rfl, hy, fun it n1 n2 => q pa it ys hy hp n1 n2⟩
def toldS (n : Nat) (sg : Str) : Str := (("word of " : Str) ++ ((toString (n : Int) : String) : Str) ++ (" runs over " : Str)) ++ sg
def spStr (K : PySem.W.Frag) (CW : Addr) : Sp := fun vs H Q _ => ∃ (a : Addr) (sg : Str) (l : Row), vs = [.ref a] ∧ WordAt K CW H a sg l ∧ Signs sg ∧ l.length ≤ 200 ∧ Q (.str (toldS l.length sg)) H
theorem scStr : FnScope ["self"] ["self"] (defScope sStr) := ⟨rfl, rfl, rfl, by decide +kernel, rfl, by decide +kernel, by decide +kernel⟩
theorem small_text : ∀ n < 201, ((toString ((n : Nat) : Int) : String) : Str).length ≤ 10 ∧ ((n : Nat) : Int).natAbs.log2 < 1920 := by decide +kernel
theorem str_len (a b : Str) : (a ++ b).length = a.length + b.length := Array.size_append
theorem empty_app (a : Str) : Str.empty ++ a = a := cds_ext (by rw [cds_app]; rfl)
theorem ok_str {CM CW f : Addr} {fd : FuncData} (F : Fun K "__str__" "Word.__str__" sStr f fd) (T : Txt K mg) (W : WF K mg CM CW) : FnOk P w K mg base CX0 1 f fd ["self"] (spStr K CW) := by
  refine F.ok scStr (fun vs H Q E h => ?_) (fun cdv A outer s H vs Q E hr h => ?_)
  · obtain ⟨a, sg, l, rfl, _⟩ := h
    rfl
  · obtain ⟨a, sg, l, rfl, ⟨da, pa, ha, ys, hy, hp⟩, hsg, ll, q⟩ := h
    refine ⟨_, pss_one (ps_ret (pe_joined (.cons pe_str (.cons (pe_fmt (pe_callB call_len_seq (by rfl) T.len PySem.boot_len (pa_cons (pe_fld (pv 0) rfl) pa_nil))) (.cons pe_str (.cons (pe_fmt (pe_fld (pv 0) rfl)) .nil)))))), ?_⟩
    have hlen : ys.length = l.length := hp.length
    have st := small_text l.length (by omega)
    have sl := (sg_facts hsg).1
    have l1 : ("word of " : Str).length = 8 := by decide +kernel
    have l2 : (" runs over " : Str).length = 11 := by decide +kernel
    have le : (Str.empty : Str).length = 0 := rfl
    refine ⟨_, rfl, ?_, _, rfl, a, CW, da, _, _, rfl, ha, W.clW, W.nR, rfl, pa, ys, rfl, .inr hy, .inr ⟨_, rfl, ?_, _, rfl, ?_, _, rfl, ?_, _, rfl, a, CW, da, _, _, rfl, ha, W.clW, W.nL, rfl, .inl ⟨sg, rfl, ?_, sg, rfl, ?_, ?_⟩⟩⟩
    · rw [str_len, le, l1]
      decide
    · rw [hlen]
      exact st.2
    · rw [hlen, str_len, str_len, le, l1]
      exact Nat.le_trans (show _ ≤ 100 by omega) (by decide)
    · rw [hlen, str_len, str_len, str_len, le, l1, l2]
      exact Nat.le_trans (show _ ≤ 100 by omega) (by decide)
    · exact Nat.le_trans sl (by decide)
    · rw [hlen, str_len, str_len, str_len, str_len, le, l1, l2]
      exact Nat.le_trans (show _ ≤ 100 by omega) (by decide)
    · rw [hlen, empty_app]
      exact q
def spEqX (K : PySem.W.Frag) (CW : Addr) : Sp := fun vs H Q _ => ∃ (a : Addr) (sg : Str) (l : Row) (v : V) (t : Value), vs = [.ref a, v] ∧ WordAt K CW H a sg l ∧ TyX K H v t ∧ PySem.W.kitOne K t (.ref CW) = some false ∧ Q (.bl false) H
theorem ok_eqX {CM CW f : Addr} {fd : FuncData} (F : Fun K "__eq__" "Word.__eq__" sEq f fd) (T : Txt K mg) (W : WF K mg CM CW) : FnOk P w K mg base CX0 1 f fd ["self", "other"] (spEqX K CW) := by
  refine F.ok scEq (fun vs H Q E h => ?_) (fun cdv A outer s H vs Q E hr h => ?_)
  · obtain ⟨a, sg, l, v, t, rfl, _⟩ := h
    rfl
  · obtain ⟨a, sg, l, v, t, rfl, _, ty, hk, q⟩ := h
    refine ⟨_, pss_one (ps_ret (pe_and (pe_callB call_isi (by rfl) T.isi (by decide +kernel) (pa_cons (pv 1) (pa_cons (pe_glob (v := .ref CW) (by rfl) W.gW rfl) pa_nil)))
      (pe_and (pe_cmpR op_eq (pe_fld (pv 0) rfl) (pe_fld (pv 1) rfl) (nomark _)) (pe_one (pe_cmpR (op_eqD hr.units) (pe_fld (pv 0) rfl) (pe_fld (pv 1) rfl) (nomark _)))))), ?_⟩
    exact ⟨_, rfl, _, _, _, _, _, rfl, .own CW, ty, hk, false, rfl, iteF q⟩
end
end K4

set_option Elab.async false
set_option linter.all false
set_option maxRecDepth 100000
set_option maxHeartbeats 4000000
/-! rules for tuples of numbers: enumerate(t), sorted(t), t.index(n) -/
namespace Ur
open PySem PySem.Spec PyProof.Rows L2
open Sem (wp)
open AutoSeq1 (wpAny_loadPart')
theorem meets_enumerate_newT (l : Addr) (items : Array Value) (n : Nat) (dct : Option Addr) (sl : Array (Option Value)) :
    Meets (Builtin.«enumerate.__new__» ⟨[.type "enumerate", .ref l], []⟩) (fun _ R s => s.heap.get? l = some { cls := .type "tuple", dict := dct, data := .seq items n, slots := sl } ∧
      R (.ok (.ret (.ref (s.heap.push { cls := .type "tuple_iterator", data := .fields #[.ref l, .int 0 0] }).objs.size)))
        { s with heap := (s.heap.push { cls := .type "tuple_iterator", data := .fields #[.ref l, .int 0 0] }).push { cls := .type "enumerate", data := .fields #[.none, .bool false, .ref s.heap.objs.size, rawInt 0, .none, .none] } }) :=
  .of_wp fun prog w A R s h => by
    obtain ⟨hp, g, d, tk, os⟩ := s; obtain ⟨hl, h⟩ := h
    have hsub := sub_enumerate
    have hL : Heap.IsTuple (Shared.heap ⟨hp, g, d, tk, os⟩) l items := ⟨_, hl, rfl, n, rfl⟩
    wp_walk using wpAny_loadPart' hl
    refine wpAny_stack_any fun st => wpAny_pure ?_
    split
    · rename_i c _ _ _ _ _
      cases (c == Value.type "enumerate")
      · wp_walk using wpAny_loadPart' hl, wpAny_pyIter_tuple hL
        exact ⟨_, rfl, h⟩
      · wp_walk using wpAny_loadPart' hl, wpAny_pyIter_tuple hL
        exact ⟨_, rfl, h⟩
    · wp_walk using wpAny_loadPart' hl, wpAny_pyIter_tuple hL
      exact ⟨_, rfl, h⟩
section
variable {prog : Program} {w : World} {A : Around} {E : Value → Shared → Prop} {s : Shared}
theorem call_enumerate_tuple {l : Addr} {items : Array Value} {Q : Value → Shared → Prop} (hL : s.heap.IsTuple l items)
    (h : ∀ h', IsEnum h' (s.heap.objs.size + 1) s.heap.objs.size 0 .none → h'.IsTupleIter s.heap.objs.size l 0 → h'.objs.size = s.heap.objs.size + 2 →
      (∀ b o, s.heap.get? b = some o → h'.get? b = some o) → Q (.ref (s.heap.objs.size + 1)) { s with heap := h' }) :
    wpAny (model prog w) A (call (.type "enumerate") [.ref l]) Q E s := by
  obtain ⟨⟨c, dct, dt, sl⟩, hl, hc, n, hd⟩ := hL
  replace hc : c = .type "tuple" := hc
  replace hd : dt = .seq items n := hd
  subst hc hd
  refine callType_new F.called_enumerate (by decide) (F.typeCall_enumerate_1 _) (F.newCall_enumerate_1 _) (fun obj => F.args_object_init_2 obj _) F.entry_enumerate_new
    (meets_enumerate_newT l items n dct sl) ⟨hl, ?_⟩
  have hz : (s.heap.push { cls := .type "tuple_iterator", data := .fields #[.ref l, .int 0 0] }).objs.size = s.heap.objs.size + 1 := Heap.size_push ..
  show _ ∧ _
  rw [hz]
  have he : IsEnum ((s.heap.push { cls := .type "tuple_iterator", data := .fields #[.ref l, .int 0 0] }).push
      { cls := .type "enumerate", data := .fields #[.none, .bool false, .ref s.heap.objs.size, rawInt 0, .none, .none] }) (s.heap.objs.size + 1) s.heap.objs.size 0 .none := by
    have := Heap.get?_push_size (s.heap.push { cls := .type "tuple_iterator", data := .fields #[.ref l, .int 0 0] })
      (o := { cls := .type "enumerate", data := .fields #[.none, .bool false, .ref s.heap.objs.size, rawInt 0, .none, .none] }) rfl
    rw [hz] at this; exact this
  refine ⟨⟨_, he, rfl⟩, h _ he ⟨_, Heap.get?_push_of_some _ (Heap.get?_push_size _ rfl), rfl, rfl⟩ (by rw [Heap.size_push, hz]) fun b o x => Heap.get?_push_of_some _ (Heap.get?_push_of_some _ x)⟩
end
/-- the tuple at a, each item in a new pair with its place -/
def IteT (K : PySem.W.Frag) (a : Addr) : It :=
  ⟨fun i H => ∃ (xs : List V) (x : V), SqT K H a xs ∧ xs[i]? = some x, fun i H v H' => ∃ T x, v = .ref T ∧ H T = none ∧ H' = upd H T (.tup [.int (i : Nat), x]) ∧ ∀ xs, SqT K H a xs → xs[i]? = some x, fun i H => ∃ xs : List V, SqT K H a xs ∧ xs.length = i⟩
theorem turn_enumT {P : Program} {w : World} {K : PySem.W.Frag} {elts : List Expr} {kk : Nat} {tpos : Pos} (a e it : Addr) :
    Turn P w K (.Tuple elts kk tpos) (IteT K a) [e, it] e (fun i h => (∃ old, IsEnum h e it ((i : Nat) : Int) old) ∧ h.IsTupleIter it a i ∧ e ≠ it) where
  mem := by simp
  obj := fun i h st b hb => by
    obtain ⟨⟨old, he⟩, ⟨o, ho, hc, hd⟩, _⟩ := st
    have e' : b = e ∨ b = it := by simpa using hb
    rcases e' with z | z
    · rw [z]; exact ⟨_, he, fun v q => nomatch q⟩
    · rw [z]; exact ⟨o, ho, fun v q => by rw [hd] at q; cases q⟩
  keep := fun i h h' st k => let ⟨⟨old, he⟩, hi, hne⟩ := st; ⟨⟨old, k e (by simp) _ he⟩, hi.at fun o q => k it (by simp) o q, hne⟩
  item := by
    intro X hP hw hK hc i pins s σ H E I hf st hg
    subst hP hw hK
    obtain ⟨⟨old, he⟩, hit, hne⟩ := st
    obtain ⟨xs, x, hq, hx⟩ := hg
    obtain ⟨its, rv, p, hz⟩ := I.tuple hq
    obtain ⟨u, hu, ru⟩ := rv.get hx
    have hel : e < s.heap.objs.size := Heap.lt_size he
    have hil : it < s.heap.objs.size := by obtain ⟨_, q, _⟩ := hit; exact Heap.lt_size q
    have nai : a ≠ it := by
      rintro rfl
      obtain ⟨o, ho, hco, _⟩ := p
      obtain ⟨o2, ho2, hco2, _⟩ := hit
      rw [ho] at ho2
      cases ho2
      rw [hco] at hco2
      exact absurd hco2 (by decide)
    have nea : e ≠ a := by
      rintro rfl
      obtain ⟨o, ho, hco, _⟩ := p
      have he' : s.heap.get? e = _ := he
      rw [ho] at he'
      cases he'
      injection hco with z
      exact absurd z (by decide)
    have hlt : i < its.toArray.size := by
      have := (List.getElem?_eq_some_iff.mp hu).1
      rw [List.size_toArray]
      exact this
    refine wpAny_pyNext_enum_itemD (Draws.tuple (A := X.A.in1) (I.ok.hd hc) it a nai its.toArray) he ⟨hit, p⟩ hlt hne (by simp; exact ⟨hne, nea⟩) fun u' h' tk hu' ho hst hT hsz hk => ?_
    have hu2 : its.toArray[i]? = some u' := hu'
    have eu : u' = u := by
      have : its.toArray[i]? = some u := by simpa using hu
      rw [this] at hu2
      exact (Option.some.inj hu2).symm
    subst eu
    refine ⟨_, rfl, wpAny_letOwnedTupleGo_enum (s := { s with heap := h', toks := tk + 1 }) ho fun h'' he' sb => ?_⟩
    have hT2 : h''.get? s.heap.objs.size = some { cls := .type "tuple", data := .seq #[.int i tk, u'] } := (sb.2 _ (Nat.ne_of_gt hel)).trans hT
    have new : ObjOk X.prog X.w (upd H s.heap.objs.size (.tup [.int (i : Nat), x])) h'' s.heap.objs.size (.tup [.int (i : Nat), x]) :=
      ⟨by show 2 ≤ sizeLine; decide, [.int i tk, u'], .cons ⟨_, rfl⟩ (.cons ru .nil), ⟨_, hT2, rfl, _, rfl⟩⟩
    have I1 : Inv X pins σ (upd H s.heap.objs.size (.tup [.int (i : Nat), x])) { s with heap := h'', toks := tk + 1 } :=
      I.turnedNew (ch := [e, it]) (fun b ob hb q => (sb.2 b (fun z => hb (by simp [z]))).trans (hk b ob (fun z => hb (by simp [z])) (fun z => hb (by simp [z])) q)) hf (Nat.le_refl _) new
    refine ⟨.ref s.heap.objs.size, _, I1, rfl, ⟨_, x, rfl, I.hok.fresh (Nat.le_refl _), rfl, fun ys hy => by rw [I.tuple_inj hy hq]; exact hx⟩, ⟨⟨u', ?_⟩, hst.1.at fun o q => (sb.2 it (Ne.symm hne)).trans q, hne⟩, fun b hb => ?_⟩
    · have e1 : ((i + 1 : Nat) : Int) = (i : Int) + 1 := by omega
      rw [e1]; exact he'
    · have hb' : b < s.heap.objs.size := by
        have e' : b = e ∨ b = it := by simpa using hb
        rcases e' with z | z
        · rw [z]; exact hel
        · rw [z]; exact hil
      rw [upd_ne (Nat.ne_of_lt hb')]
      exact (hf b hb).1
  done := by
    intro X hP hw hK hc i pins s σ H E I hf st hg
    subst hP hw hK
    obtain ⟨⟨old, he⟩, hit, hne⟩ := st
    obtain ⟨xs, hq, hx⟩ := hg
    obtain ⟨its, rv, p, hz⟩ := I.tuple hq
    obtain ⟨f0, f1, f2, f3, f4, f5⟩ := hf it (by simp)
    have hl := rv.length
    have nai : a ≠ it := by
      rintro rfl
      obtain ⟨o, ho, hco, _⟩ := p
      obtain ⟨o2, ho2, hco2, _⟩ := hit
      rw [ho] at ho2
      cases ho2
      rw [hco] at hco2
      exact absurd hco2 (by decide)
    have en : its.toArray.size = i := by rw [List.size_toArray]; omega
    exact wpAny_pyNext_enum_endD (Draws.tuple (A := X.A.in1) (I.ok.hd hc) it a nai its.toArray) he (by rw [en]; exact ⟨hit, p⟩) fun h' eb => ⟨rfl, I.turned (t' := s.toks) (fun b o hb q => eb b o hb q) f0 f1 f3 f4 f5⟩
  self := fun A i s Q E st h => let ⟨⟨_, he⟩, _⟩ := st; wpAny_pyIter_enum he h
def iEnumT (K : PySem.W.Frag) (ta : TA) : TI := fun σ H R => ta σ H fun vs H1 => ∃ a xs, vs = [.ref a] ∧ SqT K H1 a xs ∧ R (IteT K a) H1
theorem pi_enumT {X : Cx} {e : Expr} {ta : TA} {p pos tpos : Pos} {elts : List Expr} {kk : Nat} (hg : Gl X "enumerate") (hm : X.mg "enumerate" = none) (ha : PA X [e] ta) (hs : starEach [e] X.env = [(false, eval e X.env)] := by rfl) :
    PI X (.Tuple elts kk tpos) (.Call (.Name "enumerate" p) [e] [] pos) (iEnumT X.K ta) := by
  refine ⟨fun pins s σ H R I h => ?_⟩
  refine Call_ (ld_blt I hg hm boot_enumerate (PyProof.Rows.callWith_type1 (thn (ha.run pos pins s σ H _ I h) fun us s1 ⟨vs, H1, I1, r1, q1⟩ => ?_) hs rfl))
  obtain ⟨a, xs, ex, hq, q⟩ := q1
  subst ex
  cases r1 with
  | cons r rr =>
    cases rr
    cases r
    obtain ⟨its, rv, p', hz⟩ := I1.tuple hq
    refine call_enumerate_tuple p' fun h' he hit hsz hk => wpAny_pyIter_enum he ?_
    have I2 : Inv X pins σ H1 { s1 with heap := h' } := I1.kept (t' := s1.toks) hk
    refine ⟨s1.heap.objs.size + 1, [s1.heap.objs.size + 1, s1.heap.objs.size], _, _, H1, rfl, I2, turn_enumT a (s1.heap.objs.size + 1) s1.heap.objs.size, ⟨⟨.none, he⟩, hit, Nat.succ_ne_self _⟩, fun b hb => ?_, q⟩
    have e' : b = s1.heap.objs.size + 1 ∨ b = s1.heap.objs.size := by simpa using hb
    have hle : s1.heap.objs.size ≤ b := by
      rcases e' with z | z
      · rw [z]; exact Nat.le_add_right _ _
      · rw [z]; exact Nat.le_refl _
    exact I1.fpOk hle (I1.hok.fresh hle)
/-! ### sorted(t) -/
section
variable {prog : Program} {w : World} {M : Model} {A : Around} {E : Value → Shared → Prop} {s : Shared}
theorem collect_tuple {l : Addr} {vs : List Value} {Q : List Value → Shared → Prop} (hl : s.heap.IsTuple l vs.toArray)
    (h : Q vs { s with heap := (s.heap.push (seqObj "list" #[] 0)).update s.heap.objs.size (Obj.mapSeq (· ++ vs.toArray)) }) (hsz : vs.length ≤ sizeLine := by size_fits) :
    wpAny (model prog w) A (collect (.ref l)) Q E s := by
  obtain ⟨o, ho, hc, n, hd⟩ := id hl
  unfold collect
  refine wpAny_bind (wpAny_runValue (codeAny_builtin entry_proto_collect' ?_))
  show wpAny _ _ (do again (.builtin "list.__iadd__" ⟨[← newList [], .ref l], []⟩)) _ _ s
  refine wpAny_bind (wpAny_newList (wpAny_pure ⟨Code.quiet_builtin _ (by decide +kernel), codeAny_builtin entry_list_iadd' ?_⟩))
  show wpAny _ _ (Builtin.List.listExtendWith (.ref s.heap.objs.size) (.ref l) (.ref s.heap.objs.size)) _ _ { s with heap := s.heap.push (seqObj "list" #[] 0) }
  unfold Builtin.List.listExtendWith
  have ho' : (s.heap.push (seqObj "list" #[] 0)).get? l = some o := Heap.get?_push_of_some _ ho
  refine wpAny_bind (wpAny_typeOf (T := "tuple") ⟨o, ho', hc⟩ ?_)
  have ht : (Value.type "tuple" == Value.type "tuple") = true := by rfl
  rw [if_pos (by rw [ht]; simp)]
  refine wpAny_bind (listItems_at ho' hd ?_)
  refine wpAny_bind (listItems_at (xs := #[]) (n := 0) (Heap.get?_push_size _ rfl) rfl ?_)
  rw [if_neg (by simp)]
  refine wpAny_bind (listUpdate_at (xs := #[]) (n := 0) (Heap.get?_push_size _ rfl) rfl ?_ (Nat.zero_le _) (by show (#[] ++ vs.toArray).size ≤ sizeLine + 1; simp only [Array.size_append, List.size_toArray, List.length_nil]; omega))
  refine wpAny_pure ?_
  show wpAny (model prog w) A (do
      let o ← load s.heap.objs.size
      match o.data with
      | .seq xs _ => pure xs.toList
      | _ => unsupported "internal:collect") Q E { s with heap := (s.heap.push (seqObj "list" #[] 0)).update s.heap.objs.size (Obj.mapSeq (· ++ vs.toArray)) }
  refine wpAny_bind (wpAny_load (get?_update_seq (Heap.get?_push_size _ rfl) _) ?_)
  show wpAny _ _ (pure ((#[] : Array Value) ++ vs.toArray).toList) Q E _
  rw [show ((#[] : Array Value) ++ vs.toArray).toList = vs by simp]
  exact wpAny_pure h
theorem sorted_intsT {l : Addr} {vs : List Value} {ns : List Int} {Q : Value → Shared → Prop} (hl : s.heap.IsTuple l vs.toArray) (hI : IntsAre vs ns) (h64 : vs.length < 64)
    (h : ∀ (out : Array Value) (ns' : List Int), IntsAre out.toList ns' → ns'.Perm ns → ns'.Pairwise (· ≤ ·) → Q (.ref (s.heap.objs.size + 1)) { s with heap := sortedAll s.heap vs out }) :
    wpAny (model prog w) A (call (.builtin "sorted") [.ref l]) Q E s := by
  refine Calls.call_function_entry kind_sorted plain_sorted entry_sorted (args_sorted1 _) ?_
  unfold Builtin.«sorted»
  refine wpAny_bind (m := checkCount "sorted" 1 1 _) (wpAny_pure ?_)
  refine wpAny_bind (collect_tuple hl ?_ (Nat.le_trans (Nat.le_of_lt h64) (by decide)))
  refine wpAny_bind (wpAny_newList ?_)
  have hsz : ((s.heap.push (seqObj "list" #[] 0)).update s.heap.objs.size (Obj.mapSeq (· ++ vs.toArray))).objs.size = s.heap.objs.size + 1 := by
    rw [Heap.size_update, size_push']
  have hoL : (((s.heap.push (seqObj "list" #[] 0)).update s.heap.objs.size (Obj.mapSeq (· ++ vs.toArray))).push (seqObj "list" vs.toArray 0)).get? (s.heap.objs.size + 1) = some (seqObj "list" vs.toArray 0) := by
    rw [← hsz]; exact Heap.get?_push_size _ rfl
  show wpAny _ _ _ _ _ { s with heap := ((s.heap.push (seqObj "list" #[] 0)).update s.heap.objs.size (Obj.mapSeq (· ++ vs.toArray))).push (seqObj "list" vs.toArray 0) }
  rw [hsz]
  refine wpAny_bind (wpAny_holding (wpAny_call_entry slot_list_sort ⟨_, hoL, rfl⟩ entry_list_sort (list_sort_tree hoL hI h64 fun out ns' a1 a2 a3 => ⟨_, rfl, ?_⟩) (args_list_sort _)))
  exact wpAny_pure ⟨_, rfl, h out ns' a1 a2 a3⟩
end
section
variable {X : Cx}
def rSortedT (K : PySem.W.Frag) : List V → Hp → VK → Prop := fun vs H Q => ∃ (a : Addr) (ns : List Int), vs = [V.ref a] ∧ SqT K H a (ns.map V.int) ∧ ns.length < 64 ∧ ∀ (ns' : List Int) (p : Addr), ns'.Perm ns → ns'.Pairwise (· ≤ ·) → H p = none → Q (.ref p) (upd H p (.lst (ns'.map V.int)))
theorem cr_sortedT : CallR X (.builtin "sorted") (rSortedT X.K) := by
  intro pins s σ H vs us Q I r h
  obtain ⟨a, ns, rfl, hs, h64, q⟩ := h
  obtain ⟨its, rv, hl, _⟩ := I.tuple hs
  rw [Vals.ref1 r]
  have hi := rv.ints
  refine sorted_intsT hl hi (by rw [hi.length]; exact h64) fun out ns' h1 h2 h3 => ?_
  obtain ⟨ep, he'⟩ := PyProof.Rows.sortedAll_at s.heap its out
  have hlen : (ns'.map V.int).length ≤ sizeLine := by rw [List.length_map, h2.length_eq]; exact small64 h64
  exact ⟨.ref _, upd H (s.heap.objs.size + 1) (.lst (ns'.map V.int)), I.laid (t' := s.toks) (fun _ _ => PyProof.Rows.sortedAll_old) (Nat.le_succ _) ⟨hlen, out.toList, ep, vals_of_ints h1, he'⟩, rfl, q ns' _ h2 h3 (I.hok.fresh (Nat.le_succ _))⟩
/-- t.index(n), the first place -/
theorem mt_tup_indexI : MtR X "tuple.index" (fun x xs H Q => ∃ p, ∃ ys : List Int, ∃ z j, x = .ref p ∧ xs = [.int z] ∧ SqT X.K H p (ys.map V.int) ∧ ys[j]? = some z ∧ (∀ m, m < j → ys[m]? ≠ some z) ∧ Q (.int (j : Nat)) H) := by
  intro pins s σ H x xs v us Q I rx rs h
  obtain ⟨p, ys, z, j, rfl, rfl, hq, hy, hno, q⟩ := h
  cases rx
  obtain ⟨u, rfl, t, rfl⟩ := vals1 rs
  obtain ⟨its, r, pl, hz⟩ := I.tuple hq
  obtain ⟨⟨cls, dd, dt, sl⟩, ho, hc, n, hd⟩ := pl
  simp only at hc hd
  subst hc
  subst hd
  have hl : its.toArray.size = ys.length := by rw [List.size_toArray, ← r.length, List.length_map]
  have hj : j < its.toArray.size := by rw [hl]; exact (List.getElem?_eq_some_iff.mp hy).1
  have at' : ∀ (m : Nat) (hm : m < its.toArray.size), ∃ y t', ys[m]? = some y ∧ its.toArray[m] = Value.int y t' := fun m hm => by
    have hm' : m < ys.length := by rw [← hl]; exact hm
    obtain ⟨w, hw, t', hw'⟩ := r.get (i := m) (x := .int ys[m]) (by simp [hm'])
    refine ⟨ys[m], t', List.getElem?_eq_getElem hm', ?_⟩
    have e := (List.getElem?_eq_some_iff.mp hw).2
    rw [← hw', ← e]
    simp
  refine call_meets PySem.F.slot_tuple_index ⟨_, ho, rfl⟩ PySem.F.entry_tuple_index (PySem.F.args_tuple_index_2 _ _) (TI.tuple_indexAt p its.toArray n dd sl (.int z t) (eqU (.int z)) j hj ?_ ?_)
    ⟨ho, fun w hw => mem_eqAt (x := .int z) ⟨t, rfl⟩ rfl r (by rw [List.all_map]; exact List.all_eq_true.mpr fun _ _ => rfl) w (by simpa using hw), ⟨.int (j : Nat), H, I.tok _, ⟨_, rfl⟩, q⟩⟩
  · obtain ⟨y, t', h1, h2⟩ := at' j hj
    rw [hy] at h1
    cases h1
    rw [h2]
    show (z == z) = true
    exact beq_self_eq_true z
  · intro m hm hmj
    obtain ⟨y, t', h1, h2⟩ := at' m hm
    rw [h2]
    show (y == z) = false
    exact beq_eq_false_iff_ne.mpr fun e => hno m hmj (e ▸ h1)
end
end Ur

set_option Elab.async false
set_option linter.all false
set_option maxRecDepth 100000
set_option maxHeartbeats 6400000
namespace K4
open PySem L2 Tx Tg Tm
/-! ### texts over letters -/
theorem sg_len {sg : Str} (h : Signs sg) : 0 < sg.length ∧ sg.length ≤ 3 := by
  rcases h with rfl | rfl | rfl | rfl | rfl <;> decide +kernel
def Over (sg z : Str) : Prop := ∀ c ∈ cds z, c ∈ cds sg
theorem over_fine {sg z : Str} (h : Signs sg) (v : Over sg z) (hl : z.length ≤ 4000) : Fine z := by
  refine ⟨by omega, ?_, fun c hc => ?_⟩
  · rw [← (ups_perm (cds z)).length_eq]
    have h1 := Pm.len_le (ups_nodup (cds z)) (r := cds sg) fun c hc => v c ((ups_mem _ c).mp hc)
    have h2 : (cds sg).length ≤ 6 := by rw [cds_len]; have := (sg_len h).2; omega
    omega
  · have := sg_range h c (v c hc)
    omega
theorem nat_isInt {n : Nat} (h : n < 10 ^ 200) : isInt (.int (n : Int)) = true := by
  show decide ((n : Int).natAbs < 10 ^ 200) = true
  rw [Int.natAbs_natCast]
  exact decide_eq_true h
def tx (l : List Nat) : Str := ⟨l.toArray⟩
theorem cds_tx (l : List Nat) : cds (tx l) = l := rfl
theorem tx_cds (z : Str) : tx (cds z) = z := cds_ext rfl
theorem tx_app (l m : List Nat) : tx l ++ tx m = tx (l ++ m) := cds_ext (by rw [cds_app]; rfl)
theorem tx_len (l : List Nat) : (tx l).length = l.length := by
  rw [← cds_len]
  rfl
def plainS (z : Str) : Prop := ∀ c ∈ cds z, c < 128
theorem lay_str {z : Str} (h : plainS z) : PyData.canLay0 (.str z) = true := by
  show z.cps.all (· < 0x110000) = true
  rw [Array.all_eq_true_iff_forall_mem]
  intro c hc
  have := h c (Array.mem_toList_iff.mpr hc)
  exact decide_eq_true (by omega)
theorem over_plain {sg z : Str} (h : Signs sg) (v : Over sg z) : plainS z := fun c hc => by
  have := sg_range h c (v c hc)
  omega
theorem Cup.put {H : Hp} {c D : Addr} {o : HO} (h : Cup H c) (n : D ≠ c) : Cup (upd H D o) c := by
  obtain ⟨c0, c1, c2, ec⟩ := h
  exact ⟨c0, c1, c2, by rw [upd_ne n.symm]; exact ec⟩
theorem But.putN {c D : Addr} {H H' : Hp} {o : HO} (b : But c H H') (n : H D = none) : But c H (upd H' D o) := fun x u nx e => by
  rw [upd_ne (ne_of_none e n)]
  exact b _ _ nx e
theorem join_ones : ∀ l : List Nat, cds (Txt.join "" (l.map one)) = l := fun l => by
  rw [cds_join, List.map_map]
  induction l with
  | nil => rfl
  | cons c l ih =>
    show [c] ++ (l.map (cds ∘ one)).flatten = c :: l
    rw [ih]
    rfl
theorem sum_ones (l : List Nat) : ((l.map one).map (·.length)).sum = l.length := by
  rw [List.map_map]
  induction l with
  | nil => rfl
  | cons c l ih =>
    show 1 + (l.map _).sum = l.length + 1
    rw [ih]
    omega
theorem small9000 {m : Int} (h0 : 0 ≤ m) (h : m ≤ 100) : m.natAbs < 2 ^ 9000 := Nat.lt_of_lt_of_le (show m.natAbs < 2 ^ 7 by omega) (Nat.pow_le_pow_right (by decide) (by decide))
theorem over_has {sg z : Str} {n : Nat} (v : Over sg z) (hl : z.length ≤ n) : has sg n (.str z) = true := by
  show (decide (z.length ≤ n) && only z sg) = true
  rw [decide_eq_true hl, only_iff.mpr v]
  rfl
section
variable {P : Program} {w : World} {K : PySem.W.Frag} {mg : Str → Option Value} {base : Heap}
structure Low (K : PySem.W.Frag) (mg : Str → Option Value) (fI fH fL fC fP : Addr) (dI dH dL dC dP : FuncData) : Prop where
  DI : Df K mg "is_integer" sInt ["value"] fI dI
  DH : Df K mg "has_only" sHas ["value", "signs", "most"] fH dH
  DL : Df K mg "is_letters" sLetters ["value"] fL dL
  DC : Df K mg "check_letters" sCheck ["value"] fC dC
  DP : Df K mg "is_pattern" sPattern ["letters", "value"] fP dP
def spText : Sp := fun vs H Q _ => ∃ sg z : Str, vs = [.str sg, .str z] ∧ Signs sg ∧ Over sg z ∧ z.length ≤ 100 ∧ ∀ H', Same H H' → Q (.bl true) H'
def spCText : Sp := fun vs H Q _ => ∃ sg z : Str, vs = [.str sg, .str z] ∧ Signs sg ∧ Over sg z ∧ z.length ≤ 100 ∧ ∀ H', Same H H' → Q .non H'
theorem scTP : FnScope ["letters", "value"] ["letters", "value"] (defScope sPattern) := ⟨rfl, rfl, rfl, by decide +kernel, rfl, by decide +kernel, by decide +kernel⟩
theorem ok_textP {f fI fH fL fC fP : Addr} {fd dI dH dL dC dP : FuncData} (F : Fun K "is_pattern" "is_pattern" sPattern f fd) (T : Txt K mg) (G : Low K mg fI fH fL fC fP dI dH dL dC dP) : FnOk P w K mg base CX0 4 f fd ["letters", "value"] spText := by
  have GC := ok_passL (P := P) (w := w) (base := base) G.DC.F T G.DH G.DL
  have GH := ok_has (P := P) (w := w) (base := base) G.DH.F T
  refine F.ok scTP (fun vs H Q E h => ?_) (fun cdv A outer s H vs Q E hr h => ?_)
  · obtain ⟨sg, z, rfl, _⟩ := h
    rfl
  · obtain ⟨sg, z, rfl, hsg, hz, hl, q⟩ := h
    obtain ⟨tn, hn⟩ := T.mPat
    refine ⟨_, pss_cons (ps_expr (pe_call GC hr (by rfl) G.DC.m G.DC.F.kp G.DC.b .nil pass0 (pa_cons (pv 0) pa_nil)))
      (pss_one (ps_ret (pe_call GH (hr.mono (by decide)) (by rfl) G.DH.m G.DH.F.kp G.DH.b .nil pass0 (pa_cons (pv 1) (pa_cons (pv 0) (pa_cons (pe_glob (v := .int 400) rfl hn ⟨_, rfl⟩) pa_nil)))))), ?_⟩
    refine ⟨_, rfl, sg, rfl, hsg, fun H' s' => ?_⟩
    refine ⟨_, rfl, _, rfl, .str z, .str z, sg, 400, rfl, .str z, over_fine hsg hz (by omega), ?_⟩
    rw [over_has hz (by omega)]
    exact q H' s'
theorem scCTP : FnScope ["letters", "value"] ["letters", "value"] (defScope sCPattern) := ⟨rfl, rfl, rfl, by decide +kernel, rfl, by decide +kernel, by decide +kernel⟩
theorem ok_ctextP {f fI fH fL fC fP : Addr} {fd dI dH dL dC dP : FuncData} (F : Fun K "check_pattern" "check_pattern" sCPattern f fd) (T : Txt K mg) (G : Low K mg fI fH fL fC fP dI dH dL dC dP) : FnOk P w K mg base CX0 5 f fd ["letters", "value"] spCText := by
  have GT := ok_textP (P := P) (w := w) (base := base) G.DP.F T G
  refine F.ok scCTP (fun vs H Q E h => ?_) (fun cdv A outer s H vs Q E hr h => ?_)
  · obtain ⟨sg, z, rfl, _⟩ := h
    rfl
  · obtain ⟨sg, z, rfl, hsg, hz, hl, q⟩ := h
    refine ⟨_, pss_one (ps_if (pt_not (pt_val (pe_call GT hr (by rfl) G.DP.m G.DP.F.kp G.DP.b .nil pass0 (pa_cons (pv 0) (pa_cons (pv 1) pa_nil))))) (pss_one ps_never) pss_nil), ?_⟩
    exact ⟨_, rfl, _, rfl, sg, z, rfl, hsg, hz, hl, fun H' s' => ⟨_, rfl, iteF (q H' s')⟩⟩
abbrev nLine : List Str := ["_law_cup_here", "_law_signs_here", "_law_most", "_law_turn"]
def spLine : Sp := fun vs H Q _ => ∃ (c : Addr) (sg : Str) (m : Nat), vs = [.ref c, .str sg, .int (m : Int)] ∧ Cup H c ∧ Signs sg ∧ m ≤ 20 ∧ ∀ z H', Over sg z → z.length ≤ m → Cup H' c → But c H H' → Q (.str z) H'
theorem small_int {v : Int} (h : v.natAbs ≤ 1000) : isInt (.int v) = true := by
  rw [← isInt_abs]
  have : (1000 : Int) < 10 ^ 200 := by decide +kernel
  exact decide_eq_true (by split <;> omega)
def spBetween : Sp := fun vs H Q _ => ∃ (v a b : Int), vs = [.int v, .int a, .int b] ∧ a ≤ v ∧ v ≤ b ∧ v.natAbs ≤ 1000 ∧ Q .non H
theorem scBetween : FnScope ["value", "least", "most"] ["value", "least", "most"] (defScope sCBetween) := ⟨rfl, rfl, rfl, by decide +kernel, rfl, by decide +kernel, by decide +kernel⟩
theorem ok_between {f fI : Addr} {fd fdI : FuncData} (F : Fun K "check_between" "check_between" sCBetween f fd) (T : Txt K mg) (DI : Df K mg "is_integer" sInt ["value"] fI fdI) : FnOk P w K mg base CX0 2 f fd ["value", "least", "most"] spBetween := by
  have G := ok_int (P := P) (w := w) (base := base) DI.F T
  refine F.ok scBetween (fun vs H Q E h => ?_) (fun cdv A outer s H vs Q E hr h => ?_)
  · obtain ⟨v, a, b, rfl, _⟩ := h
    rfl
  · obtain ⟨v, a, b, rfl, h1, h2, h3, q⟩ := h
    refine ⟨_, pss_one (ps_if (PW.pt (pw_or (pt_not (pt_val (pe_call G hr (by rfl) DI.m DI.F.kp DI.b .nil pass0 (pa_cons (pv 0) pa_nil))))
      (pw_or (pt_cmpR op_lt (pv 0) (pv 1) (nomark _)) (pw_or1 (pt_cmpR op_gt (pv 0) (pv 2) (nomark _)))))) (pss_one ps_never) pss_nil), ?_⟩
    refine ⟨_, rfl, .int v, .int v, rfl, .int v, ⟨_, rfl, ?_⟩⟩
    rw [small_int h3]
    refine iteF ⟨_, rfl, _, rfl, _, _, rfl, rfl, _, rfl, ?_⟩
    rw [decide_eq_false (show ¬ v < a by omega)]
    refine iteF ⟨_, rfl, _, rfl, _, _, rfl, rfl, _, rfl, ?_⟩
    have e : decide (v > b) = false := decide_eq_false (by omega)
    rw [e]
    exact iteF q
def spCW (K : PySem.W.Frag) (CW : Addr) : Sp := fun vs H Q _ => ∃ (b : Addr) (sg : Str) (k : Row), vs = [.ref b] ∧ WordAt K CW H b sg k ∧ Q .non H
theorem scCW : FnScope ["value"] ["value"] (defScope sCheckWord) := ⟨rfl, rfl, rfl, by decide +kernel, rfl, by decide +kernel, by decide +kernel⟩
theorem ok_cw {CM CW f : Addr} {fd : FuncData} (F : Fun K "check_word" "check_word" sCheckWord f fd) (T : Txt K mg) (W : WF K mg CM CW) : FnOk P w K mg base CX0 1 f fd ["value"] (spCW K CW) := by
  refine F.ok scCW (fun vs H Q E h => ?_) (fun cdv A outer s H vs Q E hr h => ?_)
  · obtain ⟨b, sg, k, rfl, _⟩ := h
    rfl
  · obtain ⟨b, sg, k, rfl, ⟨db, pb, hb, hk⟩, q⟩ := h
    refine ⟨_, pss_one (ps_if (pt_not (pt_val (pe_callB call_isi (by rfl) T.isi (by decide +kernel) (pa_cons (pv 0) (pa_cons (pe_glob (v := .ref CW) (by rfl) W.gW rfl) pa_nil))))) (pss_one ps_never) pss_nil), ?_⟩
    refine ⟨_, rfl, _, _, _, _, _, rfl, .own CW, W.tyW _ _ _ _ hb, W.iWW, true, rfl, ?_⟩
    exact q
end
end K4

set_option Elab.async false
set_option linter.all false
set_option maxRecDepth 100000
set_option maxHeartbeats 3200000
namespace K4
open PySem PySem.Spec PyProof.Rows L2 Tx Tg Tm
/-! ### two clauses -/
/-- what stands behind the second source -/
def In2 (J1 : It) (g1 : TG) (tt1 : TT) (te : TE) (vs1 : List Nat) (σ2 : L2.St) (D : Addr) (Nx : Hp → Prop) (H4 : Hp) : Prop :=
  ∃ W1 : Nat → Nat → Hp → Prop, (∃ m, W1 0 m H4) ∧ ∀ j k H, W1 j k H →
      (J1.stop j H ∧ Nx H) ∨ (J1.go j H ∧ ∃ Nx1 : Hp → Prop, (∀ H', Nx1 H' → ∃ k', k' < k ∧ W1 (j + 1) k' H') ∧ ∀ x H', J1.yld j H x H' → g1 x (wipe σ2 vs1) H' fun σ3 H5 => wipe σ3 vs1 = wipe σ2 vs1 ∧ tt1 σ3 H5 fun b H6 =>
        if b = true then te σ3 H6 fun y H7 => ∃ acc, H7 D = some (.lst acc) ∧ acc.length < sizeLine ∧ Nx1 (upd H7 D (.lst (acc ++ [y]))) else Nx1 H6)
section
variable {J J1 : It} {n n1 : Nat} {G G1 : Hp → Prop} {Y Y1 : Nat → Hp → V → Hp → Prop}
theorem lc2_in (w : Walk J1 n1 G1 Y1) {g1 : TG} {tt1 : TT} {te : TE} {vs1 : List Nat} {σ2 : L2.St} {D : Addr} {Nx : Hp → Prop} {H4 : Hp} (Pw : Nat → Hp → Prop) (h0 : Pw 0 H4) (hG : ∀ j H, j ≤ n1 → Pw j H → G1 H)
    (hs : ∀ j x H H', j < n1 → Pw j H → Y1 j H x H' → g1 x (wipe σ2 vs1) H' fun σ3 H5 => wipe σ3 vs1 = wipe σ2 vs1 ∧ tt1 σ3 H5 fun b H6 =>
      if b = true then te σ3 H6 fun y H7 => ∃ acc, H7 D = some (.lst acc) ∧ acc.length < sizeLine ∧ Pw (j + 1) (upd H7 D (.lst (acc ++ [y]))) else Pw (j + 1) H6)
    (hd : ∀ H, Pw n1 H → Nx H) : In2 J1 g1 tt1 te vs1 σ2 D Nx H4 := by
  refine ⟨fun j k H => k = n1 - j ∧ j ≤ n1 ∧ Pw j H, ⟨n1, by simp, Nat.zero_le _, h0⟩, ?_⟩
  rintro j k H ⟨rfl, hj, p⟩
  have q := hG j H hj p
  rcases Nat.lt_or_ge j n1 with hlt | hge
  · exact .inr ⟨w.goes j H hlt q, Pw (j + 1), fun H' p' => ⟨n1 - (j + 1), by omega, rfl, hlt, p'⟩, fun x H' y => hs j x H H' hlt p (w.yields j H x H' hlt q y)⟩
  · obtain rfl : j = n1 := Nat.le_antisymm hj hge
    exact .inl ⟨w.stops H q, hd H p⟩
theorem lc2_out (w : Walk J n G Y) {g g1 : TG} {tt tt1 : TT} {wi1 : TI} {te : TE} {vs vs1 : List Nat} {σ : L2.St} {H1 : Hp} {D : Addr} {Qd : Hp → Prop} (Pv : Nat → Hp → Prop) (h0 : Pv 0 (upd H1 D (.lst []))) (hG : ∀ i H, i ≤ n → Pv i H → G H)
    (hs : ∀ i x H H', i < n → Pv i H → Y i H x H' → g x (wipe σ vs) H' fun σ2 H2 => wipe σ2 vs = wipe σ vs ∧ tt σ2 H2 fun b H3 =>
      if b = true then wi1 σ2 H3 fun J1 H4 => In2 J1 g1 tt1 te vs1 σ2 D (Pv (i + 1)) H4 else Pv (i + 1) H3) (hd : ∀ H, Pv n H → Qd H) :
    ∃ W : Nat → Nat → Hp → Prop, (∃ m, W 0 m (upd H1 D (.lst []))) ∧ ∀ i m H, W i m H →
      (J.stop i H ∧ Qd H) ∨ (J.go i H ∧ ∃ Nx : Hp → Prop, (∀ H', Nx H' → ∃ m', m' < m ∧ W (i + 1) m' H') ∧ ∀ x H', J.yld i H x H' → g x (wipe σ vs) H' fun σ2 H2 => wipe σ2 vs = wipe σ vs ∧ tt σ2 H2 fun b H3 =>
        if b = true then wi1 σ2 H3 fun J1 H4 => In2 J1 g1 tt1 te vs1 σ2 D Nx H4 else Nx H3) := by
  refine ⟨fun i m H => m = n - i ∧ i ≤ n ∧ Pv i H, ⟨n, by simp, Nat.zero_le _, h0⟩, ?_⟩
  rintro i m H ⟨rfl, hi, p⟩
  have q := hG i H hi p
  rcases Nat.lt_or_ge i n with hlt | hge
  · exact .inr ⟨w.goes i H hlt q, Pv (i + 1), fun H' p' => ⟨n - (i + 1), by omega, rfl, hlt, p'⟩, fun x H' y => hs i x H H' hlt p (w.yields i H x H' hlt q y)⟩
  · obtain rfl : i = n := Nat.le_antisymm hi hge
    exact .inl ⟨w.stops H q, hd H p⟩
end
/-! ### text_order as a key -/
/-- the key of a text -/
def keyD (z : Str) : PyData := .tuple [.int z.length, .str z]
theorem scOrder : FnScope ["text"] ["text"] (defScope sOrder) := ⟨rfl, rfl, rfl, by decide +kernel, rfl, by decide +kernel, by decide +kernel⟩
theorem ld_own {X : Cx} {pins : List (Addr × Obj)} {σ : L2.St} {H : Hp} {s : Shared} {E : Value → Shared → Prop} {i : Nat} {x : Str} {v : V} {pos : Pos} {Q : Value → Shared → Prop} (I : Inv X pins σ H s) (hN : X.N[i]? = some x) (hv : Vis X.env.scope x) (e : σ[i]? = some (some v))
    (h : ∀ u, RelV v u → Q u s) (hd : (x == ("__debug__" : Str)) = false := by decide) (hcd : (x == ("__classdict__" : Str)) = false := by decide) : wpAny (model X.prog X.w) X.A (eval (.Name x pos) X.env) Q E s := by
  obtain ⟨m, hn, hl⟩ := I.loc
  obtain ⟨u, r, l⟩ := hl i x v hN e hv
  have fin := h u r
  rcases l with ⟨hk, hm⟩ | ⟨hk, c, hc, hcell⟩
  · exact wpAny_Name (wpAny_loadName_local I.ok.kind hk hn hm fin) hd
  · rcases hk with hk | hk
    · exact wpAny_Name (wpAny_loadName_cell I.ok.kind hk hc hcell fin) hd
    · exact wpAny_Name (wpAny_loadName_free I.ok.kind hk hc hcell fin hcd) hd
section
variable {P : Program} {w : World} {K : PySem.W.Frag} {mg : Str → Option Value} {base : Heap}
theorem key_call {A : Around} {outer : List Env} {s : Shared} {H : Hp} {f : Addr} {fd : FuncData} {z : Str} {t : Tok} (F : Fun K "text_order" "text_order" sOrder f fd) (len : mg "len" = none) (hb : Binds K fd ["text"] []) (room : Room 1 A) (e0 : Env0 P w K mg base A outer s H)
    (hz : z.length ≤ sizeLine) : wpAny (model P w) A (call (.ref f) [.str z t]) (PySem.W.KeyPure (keyD z) s) (fun _ _ => False) s := by
  obtain ⟨oc, od, kV, doc, pm, an, cdv, ct, osl, e, look, code⟩ := F.ex
  subst e
  have inK : K.In s.heap := e0.mod.kin.keeps fun b o e => (e0.bs b o e).1
  have limit : s.heap.NoLimit := e0.mod.nolimit.keeps fun b o e => (e0.bs b o e).1
  have bound := hb s [.str z t] inK rfl
  have kinds : ∀ y ∈ (["text"] : List Str).zip [Value.str z t], (defScope sOrder).names.lookup y.1 = some .local ∨
      ((defScope sOrder).names.lookup y.1 = some .cell ∧ ((cellsFrom (s.heap.objs.size + 1) (defScope sOrder).names []).lookup y.1).isSome = true) := by
    rintro ⟨n, v⟩ hy
    cases scOrder.par n (List.of_mem_zip hy).1 with
    | inl q => exact .inl q
    | inr q => exact .inr ⟨q, PySem.W.cellsFrom_some _ _ _ (.inl q)⟩
  refine wpAny_call ?_
  refine codeAny_call_function room.depth (inK _ _ look) rfl scOrder.co scOrder.gen rfl (PySem.W.codeRec_of inK code) (bound _ _ _ _ ?_)
  refine wpAny_newFunctionEnv_cells scOrder.kind kinds fun env he s1 x => ?_
  subst he
  refine ⟨limit.keeps x.toInCall.keep, codeAny_func ?_⟩
  have J0 : Inv (cxOf CX0 P w K mg base ["text"] "text_order" (defScope sOrder) f cdv A outer s H (fun _ _ _ => False)) [] (start ["text"] [.str z]) H s1 := inv_start scOrder room.hd e0 rfl (.cons ⟨_, rfl⟩ .nil) x
  obtain ⟨h1, tk, rfl, hk⟩ := x.done
  refine wpAny_execs_cons (wpAny_Return_some (wpAny_Tuple_spliced ?_))
  refine Calls.spliced_cons (wpAny_Call_Name_kw (ld_blt (u := .builtin "len") J0 (by rfl) len PySem.boot_len ?_))
  refine PyProof.Rows.callWith_builtin1 (Calls.spliced_cons (ld_own (i := 0) J0 rfl (.inl rfl) rfl fun u r => Calls.spliced_nil ?_)) rfl rfl
  obtain ⟨t1, rfl⟩ := r
  have hn := line63
  refine len_str (by omega) ?_
  refine Calls.spliced_cons (ld_own (i := 0) (J0.tok _) rfl (.inl rfl) rfl fun u r => Calls.spliced_nil ?_)
  obtain ⟨t2, rfl⟩ := r
  refine ⟨by show 2 ≤ sizeLine; decide, ?_⟩
  refine ⟨_, _, rfl, fun b o e => Heap.get?_push_of_some _ (hk b o e), ?_⟩
  exact .tuple (Heap.get?_push_size _ rfl) rfl rfl (.cons (.int _ _) (.cons (.str _ _) .nil))
end
/-- how texts lie behind sorted(.., key=text_order) -/
abbrev leK : Str → Str → Bool := PySem.W.dataLe false keyD
def rSortBy (K : PySem.W.Frag) (f : Addr) : List V → List V → Hp → VK → Prop := fun vs zs H Q => ∃ (a : Addr) (l : List Str), vs = [V.ref a] ∧ zs = [V.ref f] ∧ SqL K H a (l.map V.str) ∧ l.length ≤ 5000 ∧ (∀ z ∈ l, z.length ≤ sizeLine) ∧
  ∀ p, H p = none → Q (.ref p) (upd H p (.lst ((l.mergeSort leK).map V.str)))
theorem each_strs : ∀ {us : List Value} {l : List Str}, StrsAre us l → PySem.W.EachIs (fun (v : Value) (z : Str) => ∃ t, v = .str z t) us l
  | _, _, .nil => .nil
  | _, _, .cons x t h => .cons ⟨t, rfl⟩ (each_strs h)
theorem strs_each : ∀ {us : List Value} {l : List Str}, PySem.W.EachIs (fun (v : Value) (z : Str) => ∃ t, v = .str z t) us l → Vals (l.map V.str) us
  | _, _, .nil => .nil
  | _, _, .cons ⟨t, e⟩ h => .cons ⟨t, e⟩ (strs_each h)
theorem cr_sortedBy {X : Cx} {f : Addr} {fd : FuncData} (F : Fun X.K "text_order" "text_order" sOrder f fd) (len : X.mg "len" = none) (hb : Binds X.K fd ["text"] []) (room : Room 3 X.A) : CallRK X (.builtin "sorted") [Str.ofString "key"] (rSortBy X.K f) := by
  intro pins s σ H vs zs us ws Q I r rz h
  obtain ⟨a, l, rfl, rfl, hs, hl, hz, q⟩ := h
  obtain rfl := Vals.ref1 r
  obtain ⟨w1, rfl, e1⟩ := vals1 rz
  obtain rfl : w1 = Value.ref f := e1
  obtain ⟨its, rv, hL, _⟩ := I.list hs
  have e := each_strs rv.strs
  have room2 : Room 1 X.A.in1.in1 := room.in1.in1
  refine PySem.W.sorted_key_data (b := false) keyD hL.isList e (PySem.W.AllAlike.of fun _ _ => by simp [PySem.W.alike, PySem.W.alikeAll, keyD]) (PySem.W.Sortable.tuples fun _ => ⟨_, _, rfl⟩) (Nat.le_trans hl (by decide)) (fun z _ => ?_)
    (PyProof.Rows.ksk_s1 _ _) (fun _ => PyProof.Rows.ksk_l1 _ _) (fun _ => PyProof.Rows.ksk_t1 _ _) (fun v z hv hm h tk kp => ?_) fun out c h' tk kp fresh hD hlen eo => ?_
  · have hd : (keyD z).depth = 1 := by simp [keyD, PyData.depth, PyData.depthAll]
    have := room.units
    omega
  · obtain ⟨t, rfl⟩ := hv
    have I' : Inv X pins σ H { s with heap := h, toks := tk } := I.kept kp
    have e0 := I'.env0
    exact key_call F len hb room2 ⟨e0.frames, e0.mod, e0.bs, e0.bsz, e0.funs, e0.frf, e0.hok, e0.bare⟩ (hz z hm)
  · have hv := strs_each eo
    refine ⟨.ref _, upd H (s.heap.objs.size + 1) (.lst ((l.mergeSort leK).map V.str)), I.laid (t' := tk) kp (Nat.le_succ _) ⟨?_, out, c, hv, hD⟩, rfl, q _ (I.hok.fresh (Nat.le_succ _))⟩
    rw [List.length_map, List.length_mergeSort]
    exact Nat.le_trans hl (by decide)

theorem strs_to_each {ks : List Str} {us : List Value} (h : StrsAre us ks) : PySem.W.EachIs (fun (v : Value) (z : Str) => ∃ t, v = .str z t) us ks := each_strs h
def rSortByD (f : Addr) : List V → List V → Hp → VK → Prop := fun vs zs H Q => ∃ (a : Addr) (kvs : List (Key × V)) (l : List Str), vs = [V.ref a] ∧ zs = [V.ref f] ∧ Rd H a (.dK kvs) ∧ kvs.map (·.1) = l.map Sum.inr ∧ l.length ≤ 5000 ∧ (∀ z ∈ l, z.length ≤ sizeLine) ∧
  ∀ p, H p = none → Q (.ref p) (upd H p (.lst ((l.mergeSort leK).map V.str)))
/-- sorted(d, key=text_order) of a dict whose keys are texts -/
theorem cr_sortedByD {X : Cx} {f : Addr} {fd : FuncData} (hcalm : X.calm = true) (F : Fun X.K "text_order" "text_order" sOrder f fd) (len : X.mg "len" = none) (hb : Binds X.K fd ["text"] []) (room : Room 3 X.A) : CallRK X (.builtin "sorted") [Str.ofString "key"] (rSortByD f) := by
  intro pins s σ H vs zs us ws Q I r rz h
  obtain ⟨a, kvs, ks, rfl, rfl, hd, hks, hlen, hz, q⟩ := h
  obtain rfl := Vals.ref1 r
  obtain ⟨w1, rfl, e1⟩ := vals1 rz
  obtain rfl : w1 = Value.ref f := e1
  obtain ⟨zz, lo, vs2, rel, dd⟩ := dk_rd I.hok hd
  obtain ⟨ep, hat⟩ := dd.dictAt
  have hkeys : vs2.map (·.1) = ks.map Sum.inr := rel.keys.symm.trans hks
  have hl : vs2.length = ks.length := by
    have e := congrArg List.length hkeys
    rw [List.length_map, List.length_map] at e
    exact e
  have room2 : Room 1 X.A.in1.in1 := room.in1.in1
  have hL : ks.length ≤ sizeLine := Nat.le_trans hlen (by decide)
  refine PyProof.Rows.call_function_entry_kw PyProof.Rows.kind_sorted PyProof.Rows.plain_sorted PyProof.Rows.entry_sorted (PyProof.Rows.ksk_s1 _ _) ?_
  unfold Builtin.«sorted»
  refine wpAny_bind (m := checkCount "sorted" 1 1 _) (wpAny_pure ?_)
  refine wpAny_bind (PySem.W.kdu_collect (A := X.A.in1) (PySem.W.kdl_dict (knd := mixKind X.prog X.w) (kvs := vs2) (ep := ep) lo) (I.ok.hd hcalm) hat (by rw [hl]; exact hL) fun h' tk acc hk hacc => ?_)
  have hal : acc.toList.length = ks.length := by rw [Array.length_toList, hacc.1, hl]
  have hS : StrsAre acc.toList ks := strs_at hal fun j v e => by
    obtain ⟨k, x, e1, e2⟩ := hacc.2 j v (by rw [← Array.getElem?_toList]; exact e)
    have e3 : (vs2.map (·.1))[j]? = some k := by rw [List.getElem?_map, e1]; all_goals rfl
    rw [hkeys, List.getElem?_map] at e3
    cases e4 : ks[j]? with
    | none => rw [e4] at e3; cases e3
    | some y =>
      rw [e4] at e3
      have e5 : Sum.inr y = k := Option.some.inj e3
      subst e5
      obtain ⟨t, ev⟩ := Value.isStrOf_shape (x := y) (v := v) e2
      exact ⟨y, t, rfl, ev⟩
  have I1 : Inv X pins σ H { s with heap := h', toks := tk } := I.kept hk
  refine wpAny_bind (wpAny_newList ?_ (by rw [hal]; exact hL))
  have hoL : (h'.push (seqObj "list" acc.toList.toArray 0)).get? h'.objs.size = some (seqObj "list" acc.toList.toArray 0) := Heap.get?_push_size _ rfl
  show wpAny _ _ _ _ _ { s with heap := h'.push (seqObj "list" acc.toList.toArray 0), toks := tk }
  have e := each_strs hS
  refine wpAny_bind (wpAny_holding (wpAny_call_entry_kw PyProof.Rows.slot_list_sort ⟨_, hoL, rfl⟩ PyProof.Rows.entry_list_sort ?body (PyProof.Rows.ksk_l1 _ _)))
  case body =>
    show wpAny _ _ (Builtin.«list.sort» ⟨[.ref h'.objs.size], [(Str.ofString "key", .ref f)]⟩) _ _ _
    rw [PyProof.Rows.ksk_t1]
    refine PySem.W.keyH_tree (kz := ks.map keyD) (s := { s with heap := h'.push (seqObj "list" acc.toList.toArray 0), toks := tk }) (A := X.A.in1.in1) hoL (by rw [List.length_map]; exact e.length.symm) (by rw [e.length]; exact hL)
      (PySem.W.AllAlike.of fun _ _ => by simp [PySem.W.alike, PySem.W.alikeAll, keyD]) (PySem.W.Sortable.tuples fun _ => ⟨_, _, rfl⟩) (fun d hd => ?_) (PySem.W.keyH_turns (s := { s with heap := h'.push (seqObj "list" acc.toList.toArray 0), toks := tk }) e fun v z hv hm h2 tk2 kp => ?_) fun h2 tk2 out c kp hD ko => ?_
    · obtain ⟨z, _, rfl⟩ := List.mem_map.mp hd
      have hd : (keyD z).depth = 1 := by simp [keyD, PyData.depth, PyData.depthAll]
      have := room.units
      rw [hd]
      show X.A.units + 1 + 1 + 1 < _
      omega
    · obtain ⟨t, rfl⟩ := hv
      have up : ∀ b o, h'.get? b = some o → h2.get? b = some o := fun b o q => kp b o (Nat.ne_of_lt (Heap.lt_size q)) (Heap.get?_push_of_some _ q)
      have I' : Inv X pins σ H { s with heap := h2, toks := tk2 } := I1.kept (t' := tk2) up
      have e0 := I'.env0
      exact key_call F len hb room2 ⟨e0.frames, e0.mod, e0.bs, e0.bsz, e0.funs, e0.frf, e0.hok, e0.bare⟩ (hz z hm)
    · have up : ∀ b o, h'.get? b = some o → h2.get? b = some o := fun b o q => kp b o (Nat.ne_of_lt (Heap.lt_size q)) (Heap.get?_push_of_some _ q)
      have eo := PySem.W.keyedOut_each keyD ko e
      have hv := strs_each eo
      refine ⟨_, rfl, wpAny_pure ⟨_, rfl, .ref h'.objs.size, upd H h'.objs.size (.lst ((ks.mergeSort leK).map V.str)), I1.laid (t' := tk2) up (Nat.le_refl _) ⟨?_, out, c, hv, hD⟩, rfl, q _ (I1.hok.fresh (Nat.le_refl _))⟩⟩
      rw [List.length_map, List.length_mergeSort]
      exact hL
end K4

set_option Elab.async false
set_option linter.all false
set_option maxRecDepth 100000
set_option maxHeartbeats 3200000
/-! comprehensions, ready forms -/
namespace Lc
open PySem L2 Tx Tg Tm RZ
theorem same_upd {H : Hp} {p : Addr} {o : HO} (h : H p = none) : Same H (upd H p o) := fun b u e => by
  rw [upd_ne (fun q => by rw [q, h] at e; cases e)]
  exact e
theorem same_put {H H' : Hp} {D : Addr} {o : HO} (s : Same H H') (n : H D = none) : Same H (upd H' D o) := fun b u e => by
  rw [upd_ne (ne_of_none e n)]
  exact s b u e
theorem sqT_same {K : PySem.W.Frag} {H H' : Hp} {a : Addr} {xs : List V} (s : Same H H') (h : SqT K H a xs) : SqT K H' a xs := by
  rcases h with h | h
  · rcases h with h | ⟨o, h⟩
    · exact .inl (.inl (s _ _ h))
    · exact .inl (.inr ⟨o, s _ _ h⟩)
  · exact .inr h
section
variable {K : PySem.W.Frag} {te : TE} {σ : L2.St} {H1 : Hp} {D : Addr} {Qd : Hp → Prop} {j : Nat} {xs ys : List V} {a b : Addr}
/-- [f(x) for x in t], a value for each item -/
theorem lcTS (ha : SqT K H1 a xs) (nD : H1 D = none) (hl : xs.length = ys.length) (hz : xs.length < sizeLine) (hw : ∀ v, wipe ((wipe σ [j]).set j (some v)) [j] = wipe σ [j])
    (hs : ∀ (i : Nat) (x y : V) (H2 : Hp), xs[i]? = some x → ys[i]? = some y → Same H1 H2 → ∀ Q : VK, (∀ H3, Same H2 H3 → Q y H3) → te ((wipe σ [j]).set j (some x)) H2 Q) (hd : ∀ H2, Same H1 H2 → H2 D = some (.lst ys) → Qd H2) :
    ∃ W : Nat → Nat → Hp → Prop, (∃ m, W 0 m (upd H1 D (.lst []))) ∧ ∀ i m H, W i m H →
      ((Itt K a).stop i H ∧ Qd H) ∨ ((Itt K a).go i H ∧ ∃ Nx : Hp → Prop, (∀ H', Nx H' → ∃ m', m' < m ∧ W (i + 1) m' H') ∧ ∀ x H', (Itt K a).yld i H x H' → gName j x (wipe σ [j]) H' fun σ2 H2 => wipe σ2 [j] = wipe σ [j] ∧ tYes σ2 H2 fun b H3 =>
        if b = true then te σ2 H3 fun y H4 => ∃ acc, H4 D = some (.lst acc) ∧ acc.length < sizeLine ∧ Nx (upd H4 D (.lst (acc ++ [y]))) else Nx H3) := by
  refine lc_tup (xs := xs) (fun i H2 => Same H1 H2 ∧ H2 D = some (.lst (ys.take i))) ⟨same_upd nD, upd_same⟩ (fun i H2 _ z => sqT_same z.1 ha) ?_ ?_
  · rintro i x H2 hx ⟨s2, e2⟩
    have hi := (List.getElem?_eq_some_iff.mp hx).1
    have hy := List.getElem?_eq_getElem (l := ys) (i := i) (by omega)
    refine ⟨hw _, iteT (B := False) ?_⟩
    refine hs i x _ H2 hx hy s2 _ fun H3 s3 => ⟨_, s3 _ _ e2, ?_, same_put (s2.trans s3) nD, ?_⟩
    · rw [List.length_take]
      exact Nat.lt_of_le_of_lt (Nat.min_le_left _ _) (Nat.lt_trans hi hz)
    · rw [upd_same, List.take_add_one, hy]
      rfl
  · rintro H2 ⟨s2, e2⟩
    rw [hl, List.take_of_length_le (Nat.le_refl _)] at e2
    exact hd H2 s2 e2
/-- [f(k) for k in range(n)] -/
theorem lcRS {n : Nat} {lo : Int} (nD : H1 D = none) (hl : n = ys.length) (hz : n < sizeLine) (hw : ∀ v, wipe ((wipe σ [j]).set j (some v)) [j] = wipe σ [j])
    (hs : ∀ (i : Nat) (y : V) (H2 : Hp), i < n → ys[i]? = some y → Same H1 H2 → ∀ Q : VK, (∀ H3, Same H2 H3 → Q y H3) → te ((wipe σ [j]).set j (some (.int (lo + i)))) H2 Q) (hd : ∀ H2, Same H1 H2 → H2 D = some (.lst ys) → Qd H2) :
    ∃ W : Nat → Nat → Hp → Prop, (∃ m, W 0 m (upd H1 D (.lst []))) ∧ ∀ i m H, W i m H →
      ((Itr lo n).stop i H ∧ Qd H) ∨ ((Itr lo n).go i H ∧ ∃ Nx : Hp → Prop, (∀ H', Nx H' → ∃ m', m' < m ∧ W (i + 1) m' H') ∧ ∀ x H', (Itr lo n).yld i H x H' → gName j x (wipe σ [j]) H' fun σ2 H2 => wipe σ2 [j] = wipe σ [j] ∧ tYes σ2 H2 fun b H3 =>
        if b = true then te σ2 H3 fun y H4 => ∃ acc, H4 D = some (.lst acc) ∧ acc.length < sizeLine ∧ Nx (upd H4 D (.lst (acc ++ [y]))) else Nx H3) := by
  refine lc_range (fun i H2 => Same H1 H2 ∧ H2 D = some (.lst (ys.take i))) ⟨same_upd nD, upd_same⟩ ?_ ?_
  · rintro i H2 hi ⟨s2, e2⟩
    have hy := List.getElem?_eq_getElem (l := ys) (i := i) (by omega)
    refine ⟨hw _, iteT (B := False) ?_⟩
    refine hs i _ H2 hi hy s2 _ fun H3 s3 => ⟨_, s3 _ _ e2, ?_, same_put (s2.trans s3) nD, ?_⟩
    · rw [List.length_take]
      exact Nat.lt_of_le_of_lt (Nat.min_le_left _ _) (Nat.lt_trans hi hz)
    · rw [upd_same, List.take_add_one, hy]
      rfl
  · rintro H2 ⟨s2, e2⟩
    rw [hl, List.take_of_length_le (Nat.le_refl _)] at e2
    exact hd H2 s2 e2
/-- [draw for k in range(n)]: all else but one object stays -/
theorem lcRD {n : Nat} {lo : Int} {c : Addr} {I : Hp → Prop} {P : Nat → V → Prop} (nD : H1 D = none) (nDc : D ≠ c) (h0 : I (upd H1 D (.lst []))) (hz : n < sizeLine) (hw : ∀ v, wipe ((wipe σ [j]).set j (some v)) [j] = wipe σ [j])
    (hI : ∀ H o, I H → I (upd H D o))
    (hs : ∀ i H2, i < n → I H2 → (∀ b o, b ≠ c → H1 b = some o → H2 b = some o) → ∀ Q : VK, (∀ y H3, P i y → I H3 → (∀ b o, b ≠ c → H2 b = some o → H3 b = some o) → Q y H3) → te ((wipe σ [j]).set j (some (.int (lo + i)))) H2 Q)
    (hd : ∀ H2 zs, I H2 → (∀ b o, b ≠ c → H1 b = some o → H2 b = some o) → H2 D = some (.lst zs) → zs.length = n → (∀ i y, zs[i]? = some y → P i y) → Qd H2) :
    ∃ W : Nat → Nat → Hp → Prop, (∃ m, W 0 m (upd H1 D (.lst []))) ∧ ∀ i m H, W i m H →
      ((Itr lo n).stop i H ∧ Qd H) ∨ ((Itr lo n).go i H ∧ ∃ Nx : Hp → Prop, (∀ H', Nx H' → ∃ m', m' < m ∧ W (i + 1) m' H') ∧ ∀ x H', (Itr lo n).yld i H x H' → gName j x (wipe σ [j]) H' fun σ2 H2 => wipe σ2 [j] = wipe σ [j] ∧ tYes σ2 H2 fun b H3 =>
        if b = true then te σ2 H3 fun y H4 => ∃ acc, H4 D = some (.lst acc) ∧ acc.length < sizeLine ∧ Nx (upd H4 D (.lst (acc ++ [y]))) else Nx H3) := by
  refine lc_range (fun i H2 => I H2 ∧ (∀ b o, b ≠ c → H1 b = some o → H2 b = some o) ∧ ∃ zs, H2 D = some (.lst zs) ∧ zs.length = i ∧ ∀ k y, zs[k]? = some y → P k y) ⟨h0, fun b o _ e => same_upd nD _ _ e, [], upd_same, rfl, fun k y e => nomatch e⟩ ?_ ?_
  · rintro i H2 hi ⟨i2, b2, zs, e2, hl, hp⟩
    refine ⟨hw _, iteT (B := False) ?_⟩
    refine hs i H2 hi i2 b2 _ fun y H3 hy i3 b3 => ⟨_, b3 _ _ nDc e2, by omega, hI _ _ i3, fun b o nb e => ?_, zs ++ [y], upd_same, by rw [List.length_append, hl]; rfl, fun k z hk => ?_⟩
    · rw [upd_ne (ne_of_none e nD)]
      exact b3 _ _ nb (b2 _ _ nb e)
    · by_cases h : k < zs.length
      · rw [List.getElem?_append_left h] at hk
        exact hp k z hk
      · rw [List.getElem?_append_right (by omega)] at hk
        have hk1 := (List.getElem?_eq_some_iff.mp hk).1
        have hk0 : k - zs.length = 0 := by
          rw [List.length_singleton] at hk1
          omega
        rw [hk0] at hk
        cases hk
        have : k = i := by omega
        rw [this]
        exact hy
  · rintro H2 ⟨i2, b2, zs, e2, hl, hp⟩
    exact hd H2 zs i2 b2 e2 hl hp
end
/-- a comprehension over two rows that walk together, as far as the shorter one -/
theorem lc_zipT {K : PySem.W.Frag} {a b : Addr} {xs ys : List V} {g : TG} {tt : TT} {te : TE} {vs : List Nat} {σ : L2.St} {H1 : Hp} {D : Addr} {Qd : Hp → Prop} (hl : ys.length ≤ xs.length) (Pv : Nat → Hp → Prop) (h0 : Pv 0 (upd H1 D (.lst []))) (hq : ∀ i H, Pv i H → SqT K H a xs ∧ SqT K H b ys)
    (hs : ∀ (i : Nat) (x y : V) (T : Addr) (H : Hp), xs[i]? = some x → ys[i]? = some y → Pv i H → H T = none → g (.ref T) (wipe σ vs) (upd H T (.tup [x, y])) fun σ2 H2 => wipe σ2 vs = wipe σ vs ∧ tt σ2 H2 fun b H3 =>
      if b = true then te σ2 H3 fun y H4 => ∃ acc, H4 D = some (.lst acc) ∧ acc.length < sizeLine ∧ Pv (i + 1) (upd H4 D (.lst (acc ++ [y]))) else Pv (i + 1) H3) (hd : ∀ H, Pv ys.length H → Qd H) :
    ∃ W : Nat → Nat → Hp → Prop, (∃ m, W 0 m (upd H1 D (.lst []))) ∧ ∀ i m H, W i m H →
      ((ItzT K a b).stop i H ∧ Qd H) ∨ ((ItzT K a b).go i H ∧ ∃ Nx : Hp → Prop, (∀ H', Nx H' → ∃ m', m' < m ∧ W (i + 1) m' H') ∧ ∀ x H', (ItzT K a b).yld i H x H' → g x (wipe σ vs) H' fun σ2 H2 => wipe σ2 vs = wipe σ vs ∧ tt σ2 H2 fun b H3 =>
        if b = true then te σ2 H3 fun y H4 => ∃ acc, H4 D = some (.lst acc) ∧ acc.length < sizeLine ∧ Nx (upd H4 D (.lst (acc ++ [y]))) else Nx H3) := by
  refine ⟨fun i m H => m = ys.length - i ∧ i ≤ ys.length ∧ Pv i H, ⟨ys.length, by simp, Nat.zero_le _, h0⟩, ?_⟩
  rintro i m H ⟨rfl, hi, p⟩
  obtain ⟨qx, qy⟩ := hq i H p
  by_cases hlt : i < ys.length
  · have hx : xs[i]? = some xs[i] := List.getElem?_eq_getElem (by omega)
    have hy : ys[i]? = some ys[i] := List.getElem?_eq_getElem hlt
    refine .inr ⟨⟨xs, ys, _, _, qx, qy, hx, hy⟩, Pv (i + 1), fun H' p' => ⟨ys.length - (i + 1), by omega, rfl, hlt, p'⟩, fun v H' y => ?_⟩
    obtain ⟨T, x', y', rfl, hT, rfl, f1, f2⟩ := y
    exact hs i x' y' T H (f1 xs qx) (f2 ys qy) p hT
  · have e : i = ys.length := by omega
    subst e
    exact .inl ⟨⟨xs, ys, qx, qy, Or.inr (Nat.le_refl _)⟩, hd H p⟩
theorem lc_text {x : Str} {g : TG} {tt : TT} {te : TE} {vs : List Nat} {σ : L2.St} {H1 : Hp} {D : Addr} {Qd : Hp → Prop} (Pv : Nat → Hp → Prop) (h0 : Pv 0 (upd H1 D (.lst [])))
    (hs : ∀ i c H, (cds x)[i]? = some c → Pv i H → g (.str (one c)) (wipe σ vs) H fun σ2 H2 => wipe σ2 vs = wipe σ vs ∧ tt σ2 H2 fun b H3 =>
      if b = true then te σ2 H3 fun y H4 => ∃ acc, H4 D = some (.lst acc) ∧ acc.length < sizeLine ∧ Pv (i + 1) (upd H4 D (.lst (acc ++ [y]))) else Pv (i + 1) H3) (hd : ∀ H, Pv (cds x).length H → Qd H) :
    ∃ W : Nat → Nat → Hp → Prop, (∃ m, W 0 m (upd H1 D (.lst []))) ∧ ∀ i m H, W i m H →
      ((Its x).stop i H ∧ Qd H) ∨ ((Its x).go i H ∧ ∃ Nx : Hp → Prop, (∀ H', Nx H' → ∃ m', m' < m ∧ W (i + 1) m' H') ∧ ∀ v H', (Its x).yld i H v H' → g v (wipe σ vs) H' fun σ2 H2 => wipe σ2 vs = wipe σ vs ∧ tt σ2 H2 fun b H3 =>
        if b = true then te σ2 H3 fun y H4 => ∃ acc, H4 D = some (.lst acc) ∧ acc.length < sizeLine ∧ Nx (upd H4 D (.lst (acc ++ [y]))) else Nx H3) := by
  have hz : x.cps.size = (cds x).length := (Array.length_toList).symm
  refine ⟨fun i m H => m = (cds x).length - i ∧ i ≤ (cds x).length ∧ Pv i H, ⟨(cds x).length, by simp, Nat.zero_le _, h0⟩, ?_⟩
  rintro i m H ⟨rfl, hi, p⟩
  by_cases hlt : i < (cds x).length
  · refine .inr ⟨by show i < x.cps.size; omega, Pv (i + 1), fun H' p' => ⟨(cds x).length - (i + 1), by omega, rfl, hlt, p'⟩, ?_⟩
    rintro v H' ⟨e, c, hc, e2⟩
    subst e
    subst e2
    exact hs i c _ (by rw [Array.getElem?_toList]; exact hc) p
  · have e : i = (cds x).length := by omega
    subst e
    exact .inl ⟨by show x.cps.size ≤ _; omega, hd H p⟩
theorem for_text {x : Str} {g : TG} {tb : TS} {D : Ends} {σ : L2.St} {H : Hp} (Pv : Nat → L2.St → Hp → Prop) (h0 : Pv 0 σ H)
    (hs : ∀ i c σ H, (cds x)[i]? = some c → Pv i σ H → g (.str (one c)) σ H fun σ2 H2 => tb { D with nx := Pv (i + 1), ct := Pv (i + 1), bk := D.nx } σ2 H2) (hd : ∀ σ H, Pv (cds x).length σ H → D.nx σ H) :
    ∃ W : Nat → Nat → L2.St → Hp → Prop, (∃ m, W 0 m σ H) ∧ ∀ i m σ H, W i m σ H →
      ((Its x).stop i H ∧ D.nx σ H) ∨ ((Its x).go i H ∧ ∃ N : L2.St → Hp → Prop, (∀ σ' H', N σ' H' → ∃ m', m' < m ∧ W (i + 1) m' σ' H') ∧ ∀ v H', (Its x).yld i H v H' → g v σ H' fun σ2 H2 => tb { D with nx := N, ct := N, bk := D.nx } σ2 H2) := by
  have hz : x.cps.size = (cds x).length := (Array.length_toList).symm
  refine ⟨fun i m σ H => m = (cds x).length - i ∧ i ≤ (cds x).length ∧ Pv i σ H, ⟨(cds x).length, by simp, Nat.zero_le _, h0⟩, ?_⟩
  rintro i m σ H ⟨rfl, hi, p⟩
  by_cases hlt : i < (cds x).length
  · refine .inr ⟨by show i < x.cps.size; omega, Pv (i + 1), fun σ' H' p' => ⟨(cds x).length - (i + 1), by omega, rfl, hlt, p'⟩, ?_⟩
    rintro v H' ⟨e, c, hc, e2⟩
    subst e
    subst e2
    exact hs i c _ _ (by rw [Array.getElem?_toList]; exact hc) p
  · have e : i = (cds x).length := by omega
    subst e
    exact .inl ⟨by show x.cps.size ≤ _; omega, hd _ H p⟩
/-- {k: v for c in text} -/
theorem dc_text {x : Str} {g : TG} {tt : TT} {tk tv : TE} {vs : List Nat} {σ : L2.St} {H1 : Hp} {D : Addr} {Qd : Hp → Prop} (Pv : Nat → Hp → Prop) (h0 : Pv 0 (upd H1 D (.dK [])))
    (hs : ∀ i c H, (cds x)[i]? = some c → Pv i H → g (.str (one c)) (wipe σ vs) H fun σ2 H2 => wipe σ2 vs = wipe σ vs ∧ tt σ2 H2 fun b H3 =>
      if b = true then tk σ2 H3 fun y H4 => tv σ2 H4 fun z H5 => ∃ kvs k, y = kV k ∧ H5 D = some (.dK kvs) ∧ kvs.length < sizeLine ∧ Pv (i + 1) (upd H5 D (.dK (putK kvs k z))) else Pv (i + 1) H3) (hd : ∀ H, Pv (cds x).length H → Qd H) :
    ∃ W : Nat → Nat → Hp → Prop, (∃ m, W 0 m (upd H1 D (.dK []))) ∧ ∀ i m H, W i m H →
      ((Its x).stop i H ∧ Qd H) ∨ ((Its x).go i H ∧ ∃ Nx : Hp → Prop, (∀ H', Nx H' → ∃ m', m' < m ∧ W (i + 1) m' H') ∧ ∀ v H', (Its x).yld i H v H' → g v (wipe σ vs) H' fun σ2 H2 => wipe σ2 vs = wipe σ vs ∧ tt σ2 H2 fun b H3 =>
        if b = true then tk σ2 H3 fun y H4 => tv σ2 H4 fun z H5 => ∃ kvs k, y = kV k ∧ H5 D = some (.dK kvs) ∧ kvs.length < sizeLine ∧ Nx (upd H5 D (.dK (putK kvs k z))) else Nx H3) := by
  have hz : x.cps.size = (cds x).length := (Array.length_toList).symm
  refine ⟨fun i m H => m = (cds x).length - i ∧ i ≤ (cds x).length ∧ Pv i H, ⟨(cds x).length, by simp, Nat.zero_le _, h0⟩, ?_⟩
  rintro i m H ⟨rfl, hi, p⟩
  by_cases hlt : i < (cds x).length
  · refine .inr ⟨by show i < x.cps.size; omega, Pv (i + 1), fun H' p' => ⟨(cds x).length - (i + 1), by omega, rfl, hlt, p'⟩, ?_⟩
    rintro v H' ⟨e, c, hc, e2⟩
    subst e
    subst e2
    exact hs i c _ (by rw [Array.getElem?_toList]; exact hc) p
  · have e : i = (cds x).length := by omega
    subst e
    exact .inl ⟨by show x.cps.size ≤ _; omega, hd H p⟩
end Lc

set_option Elab.async false
set_option linter.all false
set_option maxRecDepth 100000
set_option maxHeartbeats 3200000
/-! comprehensions that give new tuples -/
namespace Lc
open PySem L2 Tx Tg Tm RZ
/-- tuples stay -/
def KT (H H' : Hp) : Prop := ∀ q xs, H q = some (.tup xs) → H' q = some (.tup xs)
theorem each_app {α β : Type} {R : α → β → Prop} : ∀ {as as' : List α} {bs bs' : List β}, PySem.W.EachIs R as bs → PySem.W.EachIs R as' bs' → PySem.W.EachIs R (as ++ as') (bs ++ bs')
  | _, _, _, _, .nil, k => k
  | _, _, _, _, .cons r t, k => .cons r (each_app t k)
section
variable {α : Type} {R : Hp → Addr → α → Prop} (hR : ∀ H H' p x, KT H H' → R H p x → R H' p x) {K : PySem.W.Frag} {te : TE} {σ : L2.St} {H1 : Hp} {D : Addr} {Qd : Hp → Prop} {j : Nat} {xs : List V} {ys : List α} {a b : Addr}
include hR
theorem lcTR (ha : SqT K H1 a xs) (nD : H1 D = none) (hl : xs.length = ys.length) (hz : xs.length < sizeLine) (hw : ∀ v, wipe ((wipe σ [j]).set j (some v)) [j] = wipe σ [j])
    (hs : ∀ (i : Nat) (x : V) (y : α) (H2 : Hp), xs[i]? = some x → ys[i]? = some y → Same H1 H2 → ∀ Q : VK, (∀ b H3, Same H2 H3 → R H3 b y → Q (.ref b) H3) → te ((wipe σ [j]).set j (some x)) H2 Q) (hd : ∀ H2 ps, Same H1 H2 → H2 D = some (.lst (ps.map V.ref)) → PySem.W.EachIs (R H2) ps ys → Qd H2) :
    ∃ W : Nat → Nat → Hp → Prop, (∃ m, W 0 m (upd H1 D (.lst []))) ∧ ∀ i m H, W i m H →
      ((Itt K a).stop i H ∧ Qd H) ∨ ((Itt K a).go i H ∧ ∃ Nx : Hp → Prop, (∀ H', Nx H' → ∃ m', m' < m ∧ W (i + 1) m' H') ∧ ∀ x H', (Itt K a).yld i H x H' → gName j x (wipe σ [j]) H' fun σ2 H2 => wipe σ2 [j] = wipe σ [j] ∧ tYes σ2 H2 fun b H3 =>
        if b = true then te σ2 H3 fun y H4 => ∃ acc, H4 D = some (.lst acc) ∧ acc.length < sizeLine ∧ Nx (upd H4 D (.lst (acc ++ [y]))) else Nx H3) := by
  refine lc_tup (xs := xs) (fun i H2 => ∃ ps : List Addr, Same H1 H2 ∧ H2 D = some (.lst (ps.map V.ref)) ∧ PySem.W.EachIs (R H2) ps (ys.take i)) ⟨[], same_upd nD, upd_same, .nil⟩ (fun i H2 _ z => by obtain ⟨_, s, _⟩ := z; exact sqT_same s ha) ?_ ?_
  · rintro i x H2 hx ⟨ps, s2, e2, r2⟩
    have hi := (List.getElem?_eq_some_iff.mp hx).1
    have hy := List.getElem?_eq_getElem (l := ys) (i := i) (by omega)
    refine ⟨hw _, iteT (B := False) ?_⟩
    refine hs i x _ H2 hx hy s2 _ fun b H3 s3 hb => ⟨_, s3 _ _ e2, ?_, ps ++ [b], same_put (s2.trans s3) nD, ?_, ?_⟩
    · rw [List.length_map, r2.length, List.length_take]
      exact Nat.lt_of_le_of_lt (Nat.min_le_left _ _) (by omega)
    · rw [upd_same, List.map_append]
      rfl
    · have k : KT H2 (upd H3 D (.lst (ps.map V.ref ++ [V.ref b]))) := fun q xs e => by
        rw [upd_ne (fun z => by rw [z, e2] at e; cases e)]
        exact s3 _ _ e
      have k3 : KT H3 (upd H3 D (.lst (ps.map V.ref ++ [V.ref b]))) := fun q xs e => by
        rw [upd_ne (fun z => by rw [z, s3 _ _ e2] at e; cases e)]
        exact e
      rw [List.take_add_one, hy]
      exact each_app (PySem.W.EachIs.mono (fun _ _ h => hR _ _ _ _ k h) r2) (.cons (hR _ _ _ _ k3 hb) .nil)
  · rintro H2 ⟨ps, s2, e2, r2⟩
    rw [hl, List.take_of_length_le (Nat.le_refl _)] at r2
    exact hd H2 ps s2 e2 r2
theorem lcRR {n : Nat} {lo : Int} (nD : H1 D = none) (hl : n = ys.length) (hz : n < sizeLine) (hw : ∀ v, wipe ((wipe σ [j]).set j (some v)) [j] = wipe σ [j])
    (hs : ∀ (i : Nat) (y : α) (H2 : Hp), i < n → ys[i]? = some y → Same H1 H2 → ∀ Q : VK, (∀ b H3, Same H2 H3 → R H3 b y → Q (.ref b) H3) → te ((wipe σ [j]).set j (some (.int (lo + i)))) H2 Q) (hd : ∀ H2 ps, Same H1 H2 → H2 D = some (.lst (ps.map V.ref)) → PySem.W.EachIs (R H2) ps ys → Qd H2) :
    ∃ W : Nat → Nat → Hp → Prop, (∃ m, W 0 m (upd H1 D (.lst []))) ∧ ∀ i m H, W i m H →
      ((Itr lo n).stop i H ∧ Qd H) ∨ ((Itr lo n).go i H ∧ ∃ Nx : Hp → Prop, (∀ H', Nx H' → ∃ m', m' < m ∧ W (i + 1) m' H') ∧ ∀ x H', (Itr lo n).yld i H x H' → gName j x (wipe σ [j]) H' fun σ2 H2 => wipe σ2 [j] = wipe σ [j] ∧ tYes σ2 H2 fun b H3 =>
        if b = true then te σ2 H3 fun y H4 => ∃ acc, H4 D = some (.lst acc) ∧ acc.length < sizeLine ∧ Nx (upd H4 D (.lst (acc ++ [y]))) else Nx H3) := by
  refine lc_range (fun i H2 => ∃ ps : List Addr, Same H1 H2 ∧ H2 D = some (.lst (ps.map V.ref)) ∧ PySem.W.EachIs (R H2) ps (ys.take i)) ⟨[], same_upd nD, upd_same, .nil⟩ ?_ ?_
  · rintro i H2 hi ⟨ps, s2, e2, r2⟩
    have hy := List.getElem?_eq_getElem (l := ys) (i := i) (by omega)
    refine ⟨hw _, iteT (B := False) ?_⟩
    refine hs i _ H2 hi hy s2 _ fun b H3 s3 hb => ⟨_, s3 _ _ e2, ?_, ps ++ [b], same_put (s2.trans s3) nD, ?_, ?_⟩
    · rw [List.length_map, r2.length, List.length_take]
      exact Nat.lt_of_le_of_lt (Nat.min_le_left _ _) (by omega)
    · rw [upd_same, List.map_append]
      rfl
    · have k : KT H2 (upd H3 D (.lst (ps.map V.ref ++ [V.ref b]))) := fun q xs e => by
        rw [upd_ne (fun z => by rw [z, e2] at e; cases e)]
        exact s3 _ _ e
      have k3 : KT H3 (upd H3 D (.lst (ps.map V.ref ++ [V.ref b]))) := fun q xs e => by
        rw [upd_ne (fun z => by rw [z, s3 _ _ e2] at e; cases e)]
        exact e
      rw [List.take_add_one, hy]
      exact each_app (PySem.W.EachIs.mono (fun _ _ h => hR _ _ _ _ k h) r2) (.cons (hR _ _ _ _ k3 hb) .nil)
  · rintro H2 ⟨ps, s2, e2, r2⟩
    rw [hl, List.take_of_length_le (Nat.le_refl _)] at r2
    exact hd H2 ps s2 e2 r2
end
section
variable {K : PySem.W.Frag} {te : TE} {σ : L2.St} {H1 : Hp} {D : Addr} {Qd : Hp → Prop} {j : Nat} {xs ys : List V} {a b : Addr}
/-- [f(x) for x in l], a value for each item -/
theorem lcLS (ha : SqL K H1 a xs) (hsl : ∀ H2, Same H1 H2 → SqL K H2 a xs) (nD : H1 D = none) (hl : xs.length = ys.length) (hz : xs.length < sizeLine) (hw : ∀ v, wipe ((wipe σ [j]).set j (some v)) [j] = wipe σ [j])
    (hs : ∀ (i : Nat) (x y : V) (H2 : Hp), xs[i]? = some x → ys[i]? = some y → Same H1 H2 → ∀ Q : VK, (∀ H3, Same H2 H3 → Q y H3) → te ((wipe σ [j]).set j (some x)) H2 Q) (hd : ∀ H2, Same H1 H2 → H2 D = some (.lst ys) → Qd H2) :
    ∃ W : Nat → Nat → Hp → Prop, (∃ m, W 0 m (upd H1 D (.lst []))) ∧ ∀ i m H, W i m H →
      ((Itl K a).stop i H ∧ Qd H) ∨ ((Itl K a).go i H ∧ ∃ Nx : Hp → Prop, (∀ H', Nx H' → ∃ m', m' < m ∧ W (i + 1) m' H') ∧ ∀ x H', (Itl K a).yld i H x H' → gName j x (wipe σ [j]) H' fun σ2 H2 => wipe σ2 [j] = wipe σ [j] ∧ tYes σ2 H2 fun b H3 =>
        if b = true then te σ2 H3 fun y H4 => ∃ acc, H4 D = some (.lst acc) ∧ acc.length < sizeLine ∧ Nx (upd H4 D (.lst (acc ++ [y]))) else Nx H3) := by
  refine lc_list (xs := xs) (fun i H2 => Same H1 H2 ∧ H2 D = some (.lst (ys.take i))) ⟨same_upd nD, upd_same⟩ (fun i H2 _ z => hsl _ z.1) ?_ ?_
  · rintro i x H2 hx ⟨s2, e2⟩
    have hi := (List.getElem?_eq_some_iff.mp hx).1
    have hy := List.getElem?_eq_getElem (l := ys) (i := i) (by omega)
    refine ⟨hw _, iteT (B := False) ?_⟩
    refine hs i x _ H2 hx hy s2 _ fun H3 s3 => ⟨_, s3 _ _ e2, ?_, same_put (s2.trans s3) nD, ?_⟩
    · rw [List.length_take]
      exact Nat.lt_of_le_of_lt (Nat.min_le_left _ _) (Nat.lt_trans hi hz)
    · rw [upd_same, List.take_add_one, hy]
      rfl
  · rintro H2 ⟨s2, e2⟩
    rw [hl, List.take_of_length_le (Nat.le_refl _)] at e2
    exact hd H2 s2 e2
end
end Lc

set_option Elab.async false
set_option linter.all false
set_option maxRecDepth 100000
set_option maxHeartbeats 3200000
/-! comprehensions over enumerate(a tuple) -/
namespace Lc
open PySem L2 Tx Tg Tm RZ
section
variable {K : PySem.W.Frag} {te : TE} {σ : L2.St} {H1 : Hp} {D : Addr} {Qd : Hp → Prop} {j1 j2 : Nat} {xs : List V} {a : Addr}
theorem lc_enumT (Pv : Nat → Hp → Prop) (h0 : Pv 0 (upd H1 D (.lst []))) (hq : ∀ i H, Pv i H → SqT K H a xs)
    (hs : ∀ i x T H, xs[i]? = some x → Pv i H → H T = none → gTup K 2 (gCons (gName j1) (gCons (gName j2) gNil)) (.ref T) (wipe σ [j1, j2]) (upd H T (.tup [.int (i : Nat), x])) fun σ2 H2 => wipe σ2 [j1, j2] = wipe σ [j1, j2] ∧ tYes σ2 H2 fun b H3 =>
      if b = true then te σ2 H3 fun y H4 => ∃ acc, H4 D = some (.lst acc) ∧ acc.length < sizeLine ∧ Pv (i + 1) (upd H4 D (.lst (acc ++ [y]))) else Pv (i + 1) H3) (hd : ∀ H, Pv xs.length H → Qd H) :
    ∃ W : Nat → Nat → Hp → Prop, (∃ m, W 0 m (upd H1 D (.lst []))) ∧ ∀ i m H, W i m H →
      ((Ur.IteT K a).stop i H ∧ Qd H) ∨ ((Ur.IteT K a).go i H ∧ ∃ Nx : Hp → Prop, (∀ H', Nx H' → ∃ m', m' < m ∧ W (i + 1) m' H') ∧ ∀ x H', (Ur.IteT K a).yld i H x H' → gTup K 2 (gCons (gName j1) (gCons (gName j2) gNil)) x (wipe σ [j1, j2]) H' fun σ2 H2 => wipe σ2 [j1, j2] = wipe σ [j1, j2] ∧ tYes σ2 H2 fun b H3 =>
        if b = true then te σ2 H3 fun y H4 => ∃ acc, H4 D = some (.lst acc) ∧ acc.length < sizeLine ∧ Nx (upd H4 D (.lst (acc ++ [y]))) else Nx H3) := by
  refine ⟨fun i m H => m = xs.length - i ∧ i ≤ xs.length ∧ Pv i H, ⟨xs.length, by simp, Nat.zero_le _, h0⟩, ?_⟩
  rintro i m H ⟨rfl, hi, p⟩
  have q := hq i H p
  by_cases hlt : i < xs.length
  · refine .inr ⟨⟨xs, xs[i], q, List.getElem?_eq_getElem hlt⟩, Pv (i + 1), fun H' p' => ⟨xs.length - (i + 1), by omega, rfl, hlt, p'⟩, fun x H' y => ?_⟩
    obtain ⟨T, x, rfl, nT, rfl, hx⟩ := y
    exact hs i x T H (hx xs q) p nT
  · have e : i = xs.length := by omega
    subst e
    exact .inl ⟨⟨xs, q, rfl⟩, hd H p⟩
/-- each gives a value -/
theorem lcES {ys : List V} (ha : SqT K H1 a xs) (nD : H1 D = none) (hl : xs.length = ys.length) (hz : xs.length < sizeLine) (hw : ∀ u v, wipe (((wipe σ [j1, j2]).set j1 (some u)).set j2 (some v)) [j1, j2] = wipe σ [j1, j2])
    (hs : ∀ (i : Nat) (x y : V) (H2 : Hp), xs[i]? = some x → ys[i]? = some y → Same H1 H2 → ∀ Q : VK, (∀ H3, Same H2 H3 → Q y H3) → te (((wipe σ [j1, j2]).set j1 (some (.int (i : Nat)))).set j2 (some x)) H2 Q) (hd : ∀ H2, Same H1 H2 → H2 D = some (.lst ys) → Qd H2) :
    ∃ W : Nat → Nat → Hp → Prop, (∃ m, W 0 m (upd H1 D (.lst []))) ∧ ∀ i m H, W i m H →
      ((Ur.IteT K a).stop i H ∧ Qd H) ∨ ((Ur.IteT K a).go i H ∧ ∃ Nx : Hp → Prop, (∀ H', Nx H' → ∃ m', m' < m ∧ W (i + 1) m' H') ∧ ∀ x H', (Ur.IteT K a).yld i H x H' → gTup K 2 (gCons (gName j1) (gCons (gName j2) gNil)) x (wipe σ [j1, j2]) H' fun σ2 H2 => wipe σ2 [j1, j2] = wipe σ [j1, j2] ∧ tYes σ2 H2 fun b H3 =>
        if b = true then te σ2 H3 fun y H4 => ∃ acc, H4 D = some (.lst acc) ∧ acc.length < sizeLine ∧ Nx (upd H4 D (.lst (acc ++ [y]))) else Nx H3) := by
  refine lc_enumT (xs := xs) (fun i H2 => Same H1 H2 ∧ H2 D = some (.lst (ys.take i))) ⟨same_upd nD, upd_same⟩ (fun i H2 z => sqT_same z.1 ha) ?_ ?_
  · rintro i x t H2 hx ⟨s2, e2⟩ nt
    have hi := (List.getElem?_eq_some_iff.mp hx).1
    have hy := List.getElem?_eq_getElem (l := ys) (i := i) (by omega)
    have s3 := same_upd (o := .tup [.int (i : Nat), x]) nt
    refine ⟨t, _, rfl, SqT.of upd_same, rfl, _, _, rfl, _, _, rfl, rfl, hw _ _, iteT (B := False) ?_⟩
    refine hs i x _ _ hx hy (s2.trans s3) _ fun H4 s4 => ⟨_, s4 _ _ (s3 _ _ e2), ?_, same_put ((s2.trans s3).trans s4) nD, ?_⟩
    · rw [List.length_take]
      omega
    · rw [List.take_add_one, hy]
      exact upd_same
  · rintro H2 ⟨s2, e2⟩
    rw [hl, List.take_of_length_le (Nat.le_refl _)] at e2
    exact hd H2 s2 e2
/-- each gives a new tuple, or what lies on tuples -/
theorem lcER {α : Type} {R : Hp → Addr → α → Prop} (hR : ∀ H H' p x, KT H H' → R H p x → R H' p x) {ys : List α} (ha : SqT K H1 a xs) (nD : H1 D = none) (hl : xs.length = ys.length) (hz : xs.length < sizeLine) (hw : ∀ u v, wipe (((wipe σ [j1, j2]).set j1 (some u)).set j2 (some v)) [j1, j2] = wipe σ [j1, j2])
    (hs : ∀ (i : Nat) (x : V) (y : α) (H2 : Hp), xs[i]? = some x → ys[i]? = some y → Same H1 H2 → ∀ Q : VK, (∀ b H3, Same H2 H3 → R H3 b y → Q (.ref b) H3) → te (((wipe σ [j1, j2]).set j1 (some (.int (i : Nat)))).set j2 (some x)) H2 Q) (hd : ∀ H2 ps, Same H1 H2 → H2 D = some (.lst (ps.map V.ref)) → PySem.W.EachIs (R H2) ps ys → Qd H2) :
    ∃ W : Nat → Nat → Hp → Prop, (∃ m, W 0 m (upd H1 D (.lst []))) ∧ ∀ i m H, W i m H →
      ((Ur.IteT K a).stop i H ∧ Qd H) ∨ ((Ur.IteT K a).go i H ∧ ∃ Nx : Hp → Prop, (∀ H', Nx H' → ∃ m', m' < m ∧ W (i + 1) m' H') ∧ ∀ x H', (Ur.IteT K a).yld i H x H' → gTup K 2 (gCons (gName j1) (gCons (gName j2) gNil)) x (wipe σ [j1, j2]) H' fun σ2 H2 => wipe σ2 [j1, j2] = wipe σ [j1, j2] ∧ tYes σ2 H2 fun b H3 =>
        if b = true then te σ2 H3 fun y H4 => ∃ acc, H4 D = some (.lst acc) ∧ acc.length < sizeLine ∧ Nx (upd H4 D (.lst (acc ++ [y]))) else Nx H3) := by
  refine lc_enumT (xs := xs) (fun i H2 => ∃ ps : List Addr, Same H1 H2 ∧ H2 D = some (.lst (ps.map V.ref)) ∧ PySem.W.EachIs (R H2) ps (ys.take i)) ⟨[], same_upd nD, upd_same, .nil⟩ (fun i H2 z => by obtain ⟨_, s, _⟩ := z; exact sqT_same s ha) ?_ ?_
  · rintro i x t H2 hx ⟨ps, s2, e2, r2⟩ nt
    have hi := (List.getElem?_eq_some_iff.mp hx).1
    have hy := List.getElem?_eq_getElem (l := ys) (i := i) (by omega)
    have s3 := same_upd (o := .tup [.int (i : Nat), x]) nt
    refine ⟨t, _, rfl, SqT.of upd_same, rfl, _, _, rfl, _, _, rfl, rfl, hw _ _, iteT (B := False) ?_⟩
    refine hs i x _ _ hx hy (s2.trans s3) _ fun b H4 s4 hb => ⟨_, s4 _ _ (s3 _ _ e2), ?_, ps ++ [b], same_put ((s2.trans s3).trans s4) nD, ?_, ?_⟩
    · rw [List.length_map, r2.length, List.length_take]
      exact Nat.lt_of_le_of_lt (Nat.min_le_left _ _) (by omega)
    · rw [upd_same, List.map_append]
      rfl
    · have e4 := s4 _ _ (s3 _ _ e2)
      have k : KT H2 (upd H4 D (.lst (ps.map V.ref ++ [V.ref b]))) := fun q xs e => by
        rw [upd_ne (fun z => by rw [z, e2] at e; cases e)]
        exact s4 _ _ (s3 _ _ e)
      have k3 : KT H4 (upd H4 D (.lst (ps.map V.ref ++ [V.ref b]))) := fun q xs e => by
        rw [upd_ne (fun z => by rw [z, e4] at e; cases e)]
        exact e
      rw [List.take_add_one, hy]
      exact each_app (PySem.W.EachIs.mono (fun _ _ h => hR _ _ _ _ k h) r2) (.cons (hR _ _ _ _ k3 hb) .nil)
  · rintro H2 ⟨ps, s2, e2, r2⟩
    rw [hl, List.take_of_length_le (Nat.le_refl _)] at r2
    exact hd H2 ps s2 e2 r2
end
end Lc

set_option Elab.async false
set_option linter.all false
set_option maxRecDepth 100000
set_option maxHeartbeats 3200000
/-! {.. for k, v in d.items()} -/
namespace Lc
open PySem L2 Tx Tg Tm RZ
theorem dc_items {d : Addr} {o : Obj} {kvs : List (Key × V)} {g : TG} {tt : TT} {tk tv : TE} {vs : List Nat} {σ : L2.St} {H1 : Hp} {D : Addr} {Qd : Hp → Prop} (Pv : Nat → Hp → Prop) (h0 : Pv 0 (upd H1 D (.dK [])))
    (hf : ∀ i H, Pv i H → H d = some (.frz o (.dK kvs))) (hs : ∀ i k v T H, kvs[i]? = some (k, v) → Pv i H → H T = none → g (.ref T) (wipe σ vs) (upd H T (.tup [kV k, v])) fun σ2 H2 => wipe σ2 vs = wipe σ vs ∧ tt σ2 H2 fun b H3 =>
      if b = true then tk σ2 H3 fun y H4 => tv σ2 H4 fun z H5 => ∃ kvs k, y = kV k ∧ H5 D = some (.dK kvs) ∧ kvs.length < sizeLine ∧ Pv (i + 1) (upd H5 D (.dK (putK kvs k z))) else Pv (i + 1) H3) (hd : ∀ H, Pv kvs.length H → Qd H) :
    ∃ W : Nat → Nat → Hp → Prop, (∃ m, W 0 m (upd H1 D (.dK []))) ∧ ∀ i m H, W i m H →
      ((Iti d o kvs).stop i H ∧ Qd H) ∨ ((Iti d o kvs).go i H ∧ ∃ Nx : Hp → Prop, (∀ H', Nx H' → ∃ m', m' < m ∧ W (i + 1) m' H') ∧ ∀ v H', (Iti d o kvs).yld i H v H' → g v (wipe σ vs) H' fun σ2 H2 => wipe σ2 vs = wipe σ vs ∧ tt σ2 H2 fun b H3 =>
        if b = true then tk σ2 H3 fun y H4 => tv σ2 H4 fun z H5 => ∃ kvs k, y = kV k ∧ H5 D = some (.dK kvs) ∧ kvs.length < sizeLine ∧ Nx (upd H5 D (.dK (putK kvs k z))) else Nx H3) := by
  refine ⟨fun i m H => m = kvs.length - i ∧ i ≤ kvs.length ∧ Pv i H, ⟨kvs.length, by simp, Nat.zero_le _, h0⟩, ?_⟩
  rintro i m H ⟨rfl, hi, p⟩
  by_cases hlt : i < kvs.length
  · refine .inr ⟨⟨hf i H p, hlt⟩, Pv (i + 1), fun H' p' => ⟨kvs.length - (i + 1), by omega, rfl, hlt, p'⟩, fun x H' y => ?_⟩
    obtain ⟨T, k, v, e, rfl, nT, rfl⟩ := y
    exact hs i k v T H e p nT
  · have e : i = kvs.length := by omega
    subst e
    exact .inl ⟨⟨hf _ H p, Nat.le_refl _⟩, hd H p⟩
section
variable {X : Cx}
/-- name = {k: v for ..} on one line -/
theorem ps_setDc {i : Nat} {y : Str} {py : Pos} {kx vx tg iter : Expr} {ifs : List Expr} {scope : Scope} {own : List (Str × Nat)} {pos spos : Pos} {wi : TI} {g : TG} {tt : TT} {tk tv : TE} (hc : X.calm = true) (hN : X.N.Nodup) (hy : X.N[i]? = some y) (hyl : X.env.scope.names.lookup y = some .local)
    (hsw : swapsWith (.DictComp kx vx [⟨tg, iter, ifs, 0⟩] scope pos) (some (.Name y py)) spos.line X.env = pure true) (hi : PI X tg iter wi) (ok : BlkOk X.N X.env.scope scope own)
    (hg : ∀ (s : Shared) (H : Hp) (C : Addr) (cl : List (Str × Addr)) (fp : List Addr), PG (X.blk s H scope (compEnvC scope cl C X.env) fp) tg g) (ht : ∀ (s : Shared) (H : Hp) (C : Addr) (cl : List (Str × Addr)) (fp : List Addr), PTs (X.blk s H scope (compEnvC scope cl C X.env) fp) ifs tt)
    (hk : ∀ (s : Shared) (H : Hp) (C : Addr) (cl : List (Str × Addr)) (fp : List Addr), PE (X.blk s H scope (compEnvC scope cl C X.env) fp) kx tk)
    (he : ∀ (s : Shared) (H : Hp) (C : Addr) (cl : List (Str × Addr)) (fp : List Addr), PE (X.blk s H scope (compEnvC scope cl C X.env) fp) vx tv) (hs : ∀ x, foldedSetIterable iter X.env x = pure x := by intro _; rfl) :
    PS X (.Assign [.Name y py] (.DictComp kx vx [⟨tg, iter, ifs, 0⟩] scope pos) spos) (tAsg (tDc wi g tt tk tv (own.map (·.2))) (gName i)) := by
  refine ⟨fun pins s σ H D I h => ?_⟩
  rw [exec_Assign_Name_used _ _ _ _ hsw]
  refine wpAny_bind (wpAny_standAt (wpAny_bind ?_))
  show wpAny _ X.A (do let _ ← comprehension (.DictComp kx vx [⟨tg, iter, ifs, 0⟩] scope pos) scope X.env (firstIterPos [⟨tg, iter, ifs, 0⟩] pos) newDict false (eval iter X.env) (some (assign (.Name y py) X.env))) _ _ s
  have h : tDc wi g tt tk tv (own.map (·.2)) σ H (fun x H1 => gName i x σ H1 D.nx) := h
  refine wpAny_bind (thn (dc_core (Qf := fun _ s' => SP X pins D .next s') hc hN I hi ok hg ht hk he hs h fun L C s' m H' I' q hn f => ?_) fun _ s' hq => wpAny_pure (wpAny_pure hq))
  show wpAny _ _ (assign (.Name y py) X.env (.ref L)) _ _ _
  refine wpAny_assign_Name (store_ok2 (v := V.ref L) I' hN hy (.inl hyl) rfl (fun s2 I2 ⟨a, sb, ha⟩ => ?_) (.inr hyl))
  obtain ⟨f0, f1, f2, f3, f4, f5⟩ := f
  have haC : C ≠ a := by
    rcases ha with z | z
    · rw [z]; exact f1
    · exact fun e => f4 y a z e.symm
  refine ⟨m, hn.sameBut sb haC, fun h3 sb3 => ?_⟩
  exact ⟨_, H', I2.turned (t' := s2.toks) (fun b o hb e => (sb3.2 b hb).trans e) f0 f1 f3 f4 f5, q⟩
theorem sw_dict {kx vx : Expr} {gs : List Comprehension} {scope : Scope} {pos py : Pos} {y : Str} {l : Nat} {env : Env} (hk : env.scope.kind = .function) (hy : env.scope.names.lookup y = some .local) (hl : (py.line == pos.line) = true)
    (ha : (scope.names.any fun (n, k) => n == y && (k == .local || k == .cell)) = false) : swapsWith (.DictComp kx vx gs scope pos) (some (.Name y py)) l env = pure true := by
  have ky : env.kindOf y = some .local := hy
  have hb : env.blockKind = .function := by unfold Env.blockKind; rw [hk]; rfl
  unfold swapsWith
  simp only [hb, ky, ha, Expr.pos, hl]
  rfl
end
end Lc

set_option Elab.async false
set_option linter.all false
set_option maxRecDepth 100000
set_option maxHeartbeats 3200000
/-! a new dict, locked as soon as it is there (for its walk) -/
namespace Lc
open PySem L2 Tx Tg Tm RZ
def tLockV (t : TE) : TE := fun σ H Q => t σ H fun x H1 => ∃ d u, x = .ref d ∧ H1 d = some u ∧ Mut (some u) ∧ ∀ od, Q x (upd H1 d (.frz od u))
theorem pe_lockV {X : Cx} {e : Expr} {t : TE} (he : PE X e t) : PE X e (tLockV t) := by
  refine ⟨fun pins s σ H Q I h => ?_⟩
  refine thn (he.run pins s σ H _ I h) fun u s1 ⟨x, H1, I1, rx, d, o, ex, hd, mu, q⟩ => ?_
  obtain ⟨od, I2⟩ := I1.lock hd mu
  exact ⟨x, _, I2, rx, q od⟩
end Lc

set_option Elab.async false
set_option linter.all false
set_option maxRecDepth 100000
set_option maxHeartbeats 3200000
/-! {k: .. for k in d}, {x: .. for x in a tuple} with all keys new -/
namespace Lc
open PySem L2 Tx Tg Tm RZ
theorem dc_keys {d : Addr} {o : Obj} {kvs : List (Key × V)} {g : TG} {tt : TT} {tk tv : TE} {vs : List Nat} {σ : L2.St} {H1 : Hp} {D : Addr} {Qd : Hp → Prop} (Pv : Nat → Hp → Prop) (h0 : Pv 0 (upd H1 D (.dK [])))
    (hf : ∀ i H, Pv i H → H d = some (.frz o (.dK kvs))) (hs : ∀ i k v H, kvs[i]? = some (k, v) → Pv i H → g (kV k) (wipe σ vs) H fun σ2 H2 => wipe σ2 vs = wipe σ vs ∧ tt σ2 H2 fun b H3 =>
      if b = true then tk σ2 H3 fun y H4 => tv σ2 H4 fun z H5 => ∃ kvs k, y = kV k ∧ H5 D = some (.dK kvs) ∧ kvs.length < sizeLine ∧ Pv (i + 1) (upd H5 D (.dK (putK kvs k z))) else Pv (i + 1) H3) (hd : ∀ H, Pv kvs.length H → Qd H) :
    ∃ W : Nat → Nat → Hp → Prop, (∃ m, W 0 m (upd H1 D (.dK []))) ∧ ∀ i m H, W i m H →
      ((Itk d o kvs).stop i H ∧ Qd H) ∨ ((Itk d o kvs).go i H ∧ ∃ Nx : Hp → Prop, (∀ H', Nx H' → ∃ m', m' < m ∧ W (i + 1) m' H') ∧ ∀ v H', (Itk d o kvs).yld i H v H' → g v (wipe σ vs) H' fun σ2 H2 => wipe σ2 vs = wipe σ vs ∧ tt σ2 H2 fun b H3 =>
        if b = true then tk σ2 H3 fun y H4 => tv σ2 H4 fun z H5 => ∃ kvs k, y = kV k ∧ H5 D = some (.dK kvs) ∧ kvs.length < sizeLine ∧ Nx (upd H5 D (.dK (putK kvs k z))) else Nx H3) := by
  refine ⟨fun i m H => m = kvs.length - i ∧ i ≤ kvs.length ∧ Pv i H, ⟨kvs.length, by simp, Nat.zero_le _, h0⟩, ?_⟩
  rintro i m H ⟨rfl, hi, p⟩
  by_cases hlt : i < kvs.length
  · refine .inr ⟨⟨hf i H p, hlt⟩, Pv (i + 1), fun H' p' => ⟨kvs.length - (i + 1), by omega, rfl, hlt, p'⟩, fun x H' y => ?_⟩
    obtain ⟨rfl, k, v, e, rfl⟩ := y
    exact hs i k v _ e p
  · have e : i = kvs.length := by omega
    subst e
    exact .inl ⟨⟨hf _ H p, Nat.le_refl _⟩, hd H p⟩
theorem putK_app {kvs : List (Key × V)} {k : Key} {v : V} (h : k ∉ kvs.map (·.1)) : putK kvs k v = kvs ++ [(k, v)] := by
  unfold putK
  rw [if_neg]
  intro z
  obtain ⟨kv, hk, e⟩ := List.any_eq_true.mp z
  exact h (List.mem_map.mpr ⟨kv, hk, of_decide_eq_true e⟩)
/-- each key of a dict with a new value -/
theorem dcK {d : Addr} {o : Obj} {kvs : List (Key × V)} {j : Nat} {tv : TE} {σ : L2.St} {H1 : Hp} {D : Addr} {Qd : Hp → Prop} {F : Key → V} (ed : H1 d = some (.frz o (.dK kvs))) (nd : (kvs.map (·.1)).Nodup) (nD : H1 D = none) (hz : kvs.length < sizeLine)
    (hw : ∀ v, wipe ((wipe σ [j]).set j (some v)) [j] = wipe σ [j]) (hj : ∀ v, ((wipe σ [j]).set j (some v))[j]? = some (some v))
    (hs : ∀ (i : Nat) (k : Key) (v : V) (H2 : Hp), kvs[i]? = some (k, v) → Same H1 H2 → ∀ Q : VK, (∀ H3, Same H2 H3 → Q (F k) H3) → tv ((wipe σ [j]).set j (some (kV k))) H2 Q) (hd : ∀ H2, Same H1 H2 → H2 D = some (.dK (kvs.map fun kv => (kv.1, F kv.1))) → Qd H2) :
    ∃ W : Nat → Nat → Hp → Prop, (∃ m, W 0 m (upd H1 D (.dK []))) ∧ ∀ i m H, W i m H →
      ((Itk d o kvs).stop i H ∧ Qd H) ∨ ((Itk d o kvs).go i H ∧ ∃ Nx : Hp → Prop, (∀ H', Nx H' → ∃ m', m' < m ∧ W (i + 1) m' H') ∧ ∀ v H', (Itk d o kvs).yld i H v H' → gName j v (wipe σ [j]) H' fun σ2 H2 => wipe σ2 [j] = wipe σ [j] ∧ tYes σ2 H2 fun b H3 =>
        if b = true then tVar j σ2 H3 fun y H4 => tv σ2 H4 fun z H5 => ∃ kvs k, y = kV k ∧ H5 D = some (.dK kvs) ∧ kvs.length < sizeLine ∧ Nx (upd H5 D (.dK (putK kvs k z))) else Nx H3) := by
  refine dc_keys (fun i H2 => Same H1 H2 ∧ H2 D = some (.dK ((kvs.take i).map fun kv => (kv.1, F kv.1)))) ⟨same_upd nD, upd_same⟩ (fun i H2 z => z.1 _ _ ed) ?_ ?_
  · rintro i k v H2 hk ⟨s2, e2⟩
    have hi := (List.getElem?_eq_some_iff.mp hk).1
    refine ⟨hw _, iteT (B := False) ?_⟩
    refine ⟨_, hj _, hs i k v H2 hk s2 _ fun H3 s3 => ⟨_, k, rfl, s3 _ _ e2, ?_, same_put (s2.trans s3) nD, ?_⟩⟩
    · rw [List.length_map, List.length_take]
      omega
    · rw [upd_same, putK_app, List.take_add_one, hk]
      · rw [List.map_append]
        rfl
      · rw [List.map_map]
        intro hm
        obtain ⟨kv, h1, e1⟩ := List.mem_map.mp hm
        obtain ⟨m, hm⟩ := List.mem_iff_getElem?.mp h1
        have hm1 := (List.getElem?_eq_some_iff.mp hm).1
        rw [List.length_take] at hm1
        rw [List.getElem?_take, if_pos (by omega)] at hm
        have a1 : (kvs.map (·.1))[m]? = some kv.1 := by rw [List.getElem?_map, hm]; rfl
        have a2 : (kvs.map (·.1))[i]? = some k := by rw [List.getElem?_map, hk]; rfl
        have e1 : kv.1 = k := e1
        rw [e1] at a1
        have := (List.getElem?_inj (by rw [List.length_map]; omega) nd).mp (a1.trans a2.symm)
        omega
  · rintro H2 ⟨s2, e2⟩
    rw [List.take_of_length_le (Nat.le_refl _)] at e2
    exact hd H2 s2 e2
/-- each item of a tuple of unlike texts with a value -/
theorem dcT {K : PySem.W.Frag} {a : Addr} {ts : List Str} {j : Nat} {tv : TE} {σ : L2.St} {H1 : Hp} {D : Addr} {Qd : Hp → Prop} {F : Str → V} (ea : SqT K H1 a (ts.map V.str)) (nd : ts.Nodup) (nD : H1 D = none) (hz : ts.length < sizeLine)
    (hw : ∀ v, wipe ((wipe σ [j]).set j (some v)) [j] = wipe σ [j]) (hj : ∀ v, ((wipe σ [j]).set j (some v))[j]? = some (some v))
    (hs : ∀ (i : Nat) (t : Str) (H2 : Hp), ts[i]? = some t → Same H1 H2 → ∀ Q : VK, (∀ H3, Same H2 H3 → Q (F t) H3) → tv ((wipe σ [j]).set j (some (.str t))) H2 Q) (hd : ∀ H2, Same H1 H2 → H2 D = some (.dK (ts.map fun t => ((Sum.inr t : Key), F t))) → Qd H2) :
    ∃ W : Nat → Nat → Hp → Prop, (∃ m, W 0 m (upd H1 D (.dK []))) ∧ ∀ i m H, W i m H →
      ((Itt K a).stop i H ∧ Qd H) ∨ ((Itt K a).go i H ∧ ∃ Nx : Hp → Prop, (∀ H', Nx H' → ∃ m', m' < m ∧ W (i + 1) m' H') ∧ ∀ v H', (Itt K a).yld i H v H' → gName j v (wipe σ [j]) H' fun σ2 H2 => wipe σ2 [j] = wipe σ [j] ∧ tYes σ2 H2 fun b H3 =>
        if b = true then tVar j σ2 H3 fun y H4 => tv σ2 H4 fun z H5 => ∃ kvs k, y = kV k ∧ H5 D = some (.dK kvs) ∧ kvs.length < sizeLine ∧ Nx (upd H5 D (.dK (putK kvs k z))) else Nx H3) := by
  have key : ∀ i H, i ≤ ts.length ∧ (Same H1 H ∧ H D = some (.dK ((ts.take i).map fun t => ((Sum.inr t : Key), F t)))) → SqT K H a (ts.map V.str) := fun i H h => sqT_same h.2.1 ea
  refine ⟨fun i m H => m = ts.length - i ∧ i ≤ ts.length ∧ (Same H1 H ∧ H D = some (.dK ((ts.take i).map fun t => ((Sum.inr t : Key), F t)))), ⟨ts.length, by simp, Nat.zero_le _, same_upd nD, upd_same⟩, ?_⟩
  rintro i m H ⟨rfl, hi, s2, e2⟩
  have ea2 := key i H ⟨hi, s2, e2⟩
  by_cases hlt : i < ts.length
  · have hx : (ts.map V.str)[i]? = some (V.str ts[i]) := by rw [List.getElem?_map, List.getElem?_eq_getElem hlt]; rfl
    refine .inr ⟨⟨_, _, ea2, hx⟩, fun H' => i + 1 ≤ ts.length ∧ (Same H1 H' ∧ H' D = some (.dK ((ts.take (i + 1)).map fun t => ((Sum.inr t : Key), F t)))), fun H' p' => ⟨ts.length - (i + 1), by omega, rfl, p'⟩, fun v H' y => ?_⟩
    obtain ⟨rfl, hv⟩ := y
    have ev := hv _ ea2
    rw [hx] at ev
    cases ev
    refine ⟨hw _, iteT (B := False) ?_⟩
    refine ⟨_, hj _, hs i ts[i] H' (List.getElem?_eq_getElem hlt) s2 _ fun H3 s3 => ⟨_, Sum.inr ts[i], rfl, s3 _ _ e2, ?_, hlt, same_put (s2.trans s3) nD, ?_⟩⟩
    · rw [List.length_map, List.length_take]
      omega
    · rw [upd_same, putK_app, List.take_add_one, List.getElem?_eq_getElem hlt]
      · rw [List.map_append]
        rfl
      · rw [List.map_map]
        intro hm
        obtain ⟨t, h1, e1⟩ := List.mem_map.mp hm
        have e1 : t = ts[i] := by injection e1
        obtain ⟨m, hm⟩ := List.mem_iff_getElem?.mp h1
        have hm1 := (List.getElem?_eq_some_iff.mp hm).1
        rw [List.length_take] at hm1
        rw [List.getElem?_take, if_pos (by omega), e1] at hm
        have := (List.getElem?_inj (by omega) nd).mp (hm.trans (List.getElem?_eq_getElem hlt).symm)
        omega
  · have e : i = ts.length := by omega
    subst e
    rw [List.take_of_length_le (Nat.le_refl _)] at e2
    exact .inl ⟨⟨_, ea2, by rw [List.length_map]; exact Nat.le_refl _⟩, hd H s2 e2⟩
end Lc

set_option Elab.async false
set_option linter.all false
set_option maxRecDepth 100000
set_option maxHeartbeats 3200000
/-! for k, v in d.items() -/
namespace Lc
open PySem L2 Tx Tg Tm RZ
theorem for_items {d : Addr} {o : Obj} {kvs : List (Key × V)} {g : TG} {tb : TS} {D : Ends} {σ : L2.St} {H : Hp} (Pv : Nat → L2.St → Hp → Prop) (h0 : Pv 0 σ H) (hf : ∀ i σ H, Pv i σ H → H d = some (.frz o (.dK kvs)))
    (hs : ∀ i k v T σ H, kvs[i]? = some (k, v) → Pv i σ H → H T = none → g (.ref T) σ (upd H T (.tup [kV k, v])) fun σ2 H2 => tb { D with nx := Pv (i + 1), ct := Pv (i + 1), bk := D.nx } σ2 H2) (hd : ∀ σ H, Pv kvs.length σ H → D.nx σ H) :
    ∃ W : Nat → Nat → L2.St → Hp → Prop, (∃ m, W 0 m σ H) ∧ ∀ i m σ H, W i m σ H →
      ((Iti d o kvs).stop i H ∧ D.nx σ H) ∨ ((Iti d o kvs).go i H ∧ ∃ N : L2.St → Hp → Prop, (∀ σ' H', N σ' H' → ∃ m', m' < m ∧ W (i + 1) m' σ' H') ∧ ∀ x H', (Iti d o kvs).yld i H x H' → g x σ H' fun σ2 H2 => tb { D with nx := N, ct := N, bk := D.nx } σ2 H2) := by
  refine ⟨fun i m σ H => m = kvs.length - i ∧ i ≤ kvs.length ∧ Pv i σ H, ⟨kvs.length, by simp, Nat.zero_le _, h0⟩, ?_⟩
  rintro i m σ H ⟨rfl, hi, p⟩
  by_cases hlt : i < kvs.length
  · refine .inr ⟨⟨hf i σ H p, hlt⟩, Pv (i + 1), fun σ' H' p' => ⟨kvs.length - (i + 1), by omega, rfl, hlt, p'⟩, fun x H' y => ?_⟩
    obtain ⟨T, k, v, e, rfl, nT, rfl⟩ := y
    exact hs i k v T σ H e p nT
  · have e : i = kvs.length := by omega
    subst e
    exact .inl ⟨⟨hf _ σ H p, Nat.le_refl _⟩, hd σ H p⟩
end Lc

set_option Elab.async false
set_option linter.all false
set_option maxRecDepth 100000
set_option maxHeartbeats 3200000
/-! for k in d; {x: i for i, x in enumerate(t)}; {.. for x in t} -/
namespace Lc
open PySem L2 Tx Tg Tm RZ
theorem for_keys {d : Addr} {o : Obj} {kvs : List (Key × V)} {g : TG} {tb : TS} {D : Ends} {σ : L2.St} {H : Hp} (Pv : Nat → L2.St → Hp → Prop) (h0 : Pv 0 σ H) (hf : ∀ i σ H, Pv i σ H → H d = some (.frz o (.dK kvs)))
    (hs : ∀ i k v σ H, kvs[i]? = some (k, v) → Pv i σ H → g (kV k) σ H fun σ2 H2 => tb { D with nx := Pv (i + 1), ct := Pv (i + 1), bk := D.nx } σ2 H2) (hd : ∀ σ H, Pv kvs.length σ H → D.nx σ H) :
    ∃ W : Nat → Nat → L2.St → Hp → Prop, (∃ m, W 0 m σ H) ∧ ∀ i m σ H, W i m σ H →
      ((Itk d o kvs).stop i H ∧ D.nx σ H) ∨ ((Itk d o kvs).go i H ∧ ∃ N : L2.St → Hp → Prop, (∀ σ' H', N σ' H' → ∃ m', m' < m ∧ W (i + 1) m' σ' H') ∧ ∀ x H', (Itk d o kvs).yld i H x H' → g x σ H' fun σ2 H2 => tb { D with nx := N, ct := N, bk := D.nx } σ2 H2) := by
  refine ⟨fun i m σ H => m = kvs.length - i ∧ i ≤ kvs.length ∧ Pv i σ H, ⟨kvs.length, by simp, Nat.zero_le _, h0⟩, ?_⟩
  rintro i m σ H ⟨rfl, hi, p⟩
  by_cases hlt : i < kvs.length
  · refine .inr ⟨⟨hf i σ H p, hlt⟩, Pv (i + 1), fun σ' H' p' => ⟨kvs.length - (i + 1), by omega, rfl, hlt, p'⟩, fun x H' y => ?_⟩
    obtain ⟨rfl, k, v, e, rfl⟩ := y
    exact hs i k v σ _ e p
  · have e : i = kvs.length := by omega
    subst e
    exact .inl ⟨⟨hf _ σ H p, Nat.le_refl _⟩, hd σ H p⟩
section
variable {K : PySem.W.Frag} {σ : L2.St} {H1 : Hp} {D : Addr} {Qd : Hp → Prop} {a : Addr}
/-- {.. for x in a tuple} -/
theorem dc_tup {xs : List V} {g : TG} {tt : TT} {tk tv : TE} {vs : List Nat} (Pv : Nat → Hp → Prop) (h0 : Pv 0 (upd H1 D (.dK []))) (hq : ∀ i H, Pv i H → SqT K H a xs)
    (hs : ∀ i x H, xs[i]? = some x → Pv i H → g x (wipe σ vs) H fun σ2 H2 => wipe σ2 vs = wipe σ vs ∧ tt σ2 H2 fun b H3 =>
      if b = true then tk σ2 H3 fun y H4 => tv σ2 H4 fun z H5 => ∃ kvs k, y = kV k ∧ H5 D = some (.dK kvs) ∧ kvs.length < sizeLine ∧ Pv (i + 1) (upd H5 D (.dK (putK kvs k z))) else Pv (i + 1) H3) (hd : ∀ H, Pv xs.length H → Qd H) :
    ∃ W : Nat → Nat → Hp → Prop, (∃ m, W 0 m (upd H1 D (.dK []))) ∧ ∀ i m H, W i m H →
      ((Itt K a).stop i H ∧ Qd H) ∨ ((Itt K a).go i H ∧ ∃ Nx : Hp → Prop, (∀ H', Nx H' → ∃ m', m' < m ∧ W (i + 1) m' H') ∧ ∀ v H', (Itt K a).yld i H v H' → g v (wipe σ vs) H' fun σ2 H2 => wipe σ2 vs = wipe σ vs ∧ tt σ2 H2 fun b H3 =>
        if b = true then tk σ2 H3 fun y H4 => tv σ2 H4 fun z H5 => ∃ kvs k, y = kV k ∧ H5 D = some (.dK kvs) ∧ kvs.length < sizeLine ∧ Nx (upd H5 D (.dK (putK kvs k z))) else Nx H3) := by
  refine ⟨fun i m H => m = xs.length - i ∧ i ≤ xs.length ∧ Pv i H, ⟨xs.length, by simp, Nat.zero_le _, h0⟩, ?_⟩
  rintro i m H ⟨rfl, hi, p⟩
  have q := hq i H p
  by_cases hlt : i < xs.length
  · refine .inr ⟨⟨xs, xs[i], q, List.getElem?_eq_getElem hlt⟩, Pv (i + 1), fun H' p' => ⟨xs.length - (i + 1), by omega, rfl, hlt, p'⟩, fun x H' y => ?_⟩
    obtain ⟨rfl, hx⟩ := y
    exact hs i x _ (hx xs q) p
  · have e : i = xs.length := by omega
    subst e
    exact .inl ⟨⟨xs, q, Nat.le_refl _⟩, hd H p⟩
/-- {x: i for i, x in enumerate(a tuple of unlike texts)} -/
theorem dc_places {ts : List Str} {j1 j2 : Nat} (ha : SqT K H1 a (ts.map V.str)) (nd : ts.Nodup) (nD : H1 D = none) (hz : ts.length < sizeLine) (hw : ∀ u v, wipe (((wipe σ [j1, j2]).set j1 (some u)).set j2 (some v)) [j1, j2] = wipe σ [j1, j2])
    (h1 : ∀ u v, (((wipe σ [j1, j2]).set j1 (some u)).set j2 (some v))[j1]? = some (some u)) (h2 : ∀ u v, (((wipe σ [j1, j2]).set j1 (some u)).set j2 (some v))[j2]? = some (some v))
    (hd : ∀ H2, Same H1 H2 → H2 D = some (.dK ((List.range ts.length).map fun i => ((Sum.inr (ts.getD i "") : Key), V.int i))) → Qd H2) :
    ∃ W : Nat → Nat → Hp → Prop, (∃ m, W 0 m (upd H1 D (.dK []))) ∧ ∀ i m H, W i m H →
      ((Ur.IteT K a).stop i H ∧ Qd H) ∨ ((Ur.IteT K a).go i H ∧ ∃ Nx : Hp → Prop, (∀ H', Nx H' → ∃ m', m' < m ∧ W (i + 1) m' H') ∧ ∀ x H', (Ur.IteT K a).yld i H x H' → gTup K 2 (gCons (gName j1) (gCons (gName j2) gNil)) x (wipe σ [j1, j2]) H' fun σ2 H2 => wipe σ2 [j1, j2] = wipe σ [j1, j2] ∧ tYes σ2 H2 fun b H3 =>
        if b = true then tVar j2 σ2 H3 fun y H4 => tVar j1 σ2 H4 fun z H5 => ∃ kvs k, y = kV k ∧ H5 D = some (.dK kvs) ∧ kvs.length < sizeLine ∧ Nx (upd H5 D (.dK (putK kvs k z))) else Nx H3) := by
  refine ⟨fun i m H => m = ts.length - i ∧ i ≤ ts.length ∧ Same H1 H ∧ H D = some (.dK ((List.range i).map fun i => ((Sum.inr (ts.getD i "") : Key), V.int i))), ⟨ts.length, by simp, Nat.zero_le _, same_upd nD, upd_same⟩, ?_⟩
  rintro i m H ⟨rfl, hi, s2, e2⟩
  have q := sqT_same s2 ha
  by_cases hlt : i < ts.length
  · have hx : (ts.map V.str)[i]? = some (V.str ts[i]) := by rw [List.getElem?_map, List.getElem?_eq_getElem hlt]; rfl
    refine .inr ⟨⟨_, _, q, hx⟩, fun H' => i + 1 ≤ ts.length ∧ Same H1 H' ∧ H' D = some (.dK ((List.range (i + 1)).map fun i => ((Sum.inr (ts.getD i "") : Key), V.int i))), fun H' p' => ⟨ts.length - (i + 1), by omega, rfl, p'⟩, fun x H' y => ?_⟩
    obtain ⟨t, x, rfl, nt, rfl, hx2⟩ := y
    have ev := hx2 _ q
    rw [hx] at ev
    cases ev
    have s3 := same_upd (o := .tup [.int (i : Nat), V.str ts[i]]) nt
    refine ⟨t, _, rfl, SqT.of upd_same, rfl, _, _, rfl, _, _, rfl, rfl, hw _ _, iteT (B := False) ?_⟩
    refine ⟨_, h2 _ _, _, h1 _ _, _, Sum.inr ts[i], rfl, s3 _ _ e2, ?_, hlt, same_put (s2.trans s3) nD, ?_⟩
    · rw [List.length_map, List.length_range]
      omega
    · have eg : ts.getD i "" = ts[i] := by rw [List.getD_eq_getElem?_getD, List.getElem?_eq_getElem hlt]; rfl
      rw [upd_same, putK_app, List.range_succ, List.map_append]
      · show _ = some (HO.dK (_ ++ [((Sum.inr (ts.getD i "") : Key), V.int i)]))
        rw [eg]
      · rw [List.map_map]
        intro hm
        obtain ⟨k, hk, e⟩ := List.mem_map.mp hm
        have hk := List.mem_range.mp hk
        have e : ts.getD k "" = ts[i] := by injection e
        rw [List.getD_eq_getElem?_getD, List.getElem?_eq_getElem (by omega : k < ts.length)] at e
        have e : ts[k] = ts[i] := e
        have := (List.getElem?_inj (by omega) nd).mp ((List.getElem?_eq_getElem (l := ts) (i := k) (by omega)).trans ((congrArg some e).trans (List.getElem?_eq_getElem hlt).symm))
        omega
  · have e : i = ts.length := by omega
    subst e
    exact .inl ⟨⟨_, q, by rw [List.length_map]⟩, hd H s2 e2⟩
end
end Lc

set_option Elab.async false
set_option linter.all false
set_option maxRecDepth 100000
set_option maxHeartbeats 2000000
/-! LiV: list(d.values()) -/
namespace LiV
open PySem PySem.Spec PyProof.Rows L2
def tListVals (te : TE) : TE := fun σ H Q => te σ H fun x H1 => ∃ d kvs, x = .ref d ∧ H1 d = some (.dK kvs) ∧ ∀ q, H1 q = none → Q (.ref q) (upd H1 q (.lst (kvs.map fun kv => kv.2)))
section
variable {X : Cx} {e : Expr} {te : TE} {p apos cpos pos : Pos}
theorem pe_listVals (hc : X.calm = true) (he : PE X e te) (hg : Gl X "list") (hm : X.mg "list" = none) (hv : bootBuiltins "list" = some (.type "list")) (hbase : attributeBase e "values" X.env (eval e X.env) = eval e X.env := by rfl) (hline : (apos.endLine == cpos.line) = true := by rfl)
    (hs : starEach [.Call (.Attribute e "values" apos) [] [] cpos] X.env = (false, eval (.Call (.Attribute e "values" apos) [] [] cpos) X.env) :: starEach [] X.env := by rfl) :
    PE X (.Call (.Name "list" p) [.Call (.Attribute e "values" apos) [] [] cpos] [] pos) (tListVals te) := by
  refine ⟨fun pins s σ H Q I hq => ?_⟩
  refine wpAny_Call_Name_kw (ld_blt I hg hm hv ?_)
  refine PyProof.Rows.callWith_type1 ?_ hs rfl
  rw [hs]
  show wpAny _ _ (spliced ((false, eval (.Call (.Attribute e "values" apos) [] [] cpos) X.env) :: backTo pos (starEach [] X.env))) _ _ s
  refine Calls.spliced_cons ?_
  refine wpAny_Call_method (T := "dict") (id := "dict.values") hbase rfl hline F.plainAttrs_dict F.slot_dict_values F.type_dict_values (thn (he.run pins s σ H _ I hq) fun u s1 ⟨x, H1, I1, rx, d, kvs, ex, hd, q⟩ => ?_)
  subst ex
  obtain rfl : u = Value.ref d := rx
  obtain ⟨hz, hs0, vs, kv, hdo⟩ := I1.hok d _ hd
  obtain ⟨ep, hat⟩ := hdo.dictAt
  have lk : kvs.length = vs.length := Paired.length kv
  have I2 : Inv X pins σ H1 { s1 with heap := s1.heap.push { cls := .type "dict_values", data := .fields #[.ref d] } } := I1.kept (t' := s1.toks) fun b ob q => Heap.get?_push_of_some _ q
  refine ⟨hdo.typeIs, hdo.mapOf.noDict, ?_⟩
  show wpAny _ _ (callWith cpos (.builtin "dict.values") [.ref d] [] []) _ X.xe s1
  refine method_meetsIn F.slot_dict_values F.entry_dict_values rfl (PySem.evalArgs_none ⟨rfl, hdo.typeIs, F.args_dict_values_1 _, _, meets_dict_values (mixKind X.prog X.w) d hs0, ⟨vs, hdo⟩, ?_⟩)
  refine Calls.spliced_nil ?_
  refine PySem.W.kdl_call (PySem.W.kdl_values (knd := mixKind X.prog X.w) (kvs := vs) (ep := ep)) (I1.ok.hd hc) ⟨⟨_, Heap.get?_push_size _ rfl, rfl, rfl⟩, hat.push _⟩ (by omega) fun h' tk acc' c' hkeep hS hacc => ?_
  refine ⟨.ref _, upd H1 _ (.lst (kvs.map fun kv => kv.2)), I2.laid hkeep (Nat.le_refl _) (show ObjOk X.prog X.w _ _ _ (.lst (kvs.map fun kv => kv.2)) from ⟨?_, acc'.toList, c', ?_, ?_⟩), rfl, q _ (I2.hok.fresh (Nat.le_refl _))⟩
  · rw [List.length_map]; exact hz
  · have el : acc'.toList.length = acc'.size := by simp
    refine vals_of_at (by rw [List.length_map, el, hacc.1, lk]) fun j x w h1 h2 => ?_
    obtain ⟨k, hky⟩ := hacc.2 j w (by rw [← Array.getElem?_toList]; exact h2)
    rw [List.getElem?_map] at h1
    cases hk : kvs[j]? with
    | none => rw [hk] at h1; cases h1
    | some pk =>
      rw [hk] at h1
      cases h1
      obtain ⟨qv, g1, g2, g3⟩ := LiI.paired_get kv hk
      rw [hky] at g1
      cases g1
      exact g3
  · rw [Array.toArray_toList]; exact hS
end
end LiV

set_option Elab.async false
set_option linter.all false
set_option maxRecDepth 100000
set_option maxHeartbeats 2000000
/-! TupVals: tuple(d.values()); max(xs, default=k) -/
namespace LiV
open PySem PySem.Spec PyProof.Rows L2
section
variable {prog : Program} {w : World} {A : Around} {E : Value → Shared → Prop} {s : Shared} {r d : Addr} {T : String} {n : Nat} {P : Nat → Value → Prop} {OK : Heap → Prop}
theorem code_tuple_src {Q₁ : Value → Shared → Prop} (S : PySem.W.KdlSrc prog w T r d n P OK) (hh : A.handled = none) (hT : s.TypeIs (.ref r) T) (hne : T ≠ "tuple") (hok : OK s.heap) (hn : n ≤ sizeLine)
    (h : ∀ (h' : Heap) (tk : Nat) (acc : Array Value), (∀ b o, s.heap.get? b = some o → h'.get? b = some o) → ItemsOf P acc n →
      Q₁ (.ref h'.objs.size) { s with heap := h'.push { cls := .type "tuple", data := .seq acc }, toks := tk }) :
    codeAny (model prog w) A (.call (.builtin "tuple.__new__") ⟨[.type "tuple", .ref r], []⟩) (wants Q₁ E) s := by
  refine codeAny_of_tree ?_
  show wpAny _ A.in1 (do checkBuiltinCall "tuple.__new__" ⟨[.type "tuple", .ref r], []⟩; again (.builtin "tuple.__new__" ⟨[.type "tuple", .ref r], []⟩)) _ _ s
  refine wpAny_bind (wpAny_of_eq (F.newCall_tuple_1 _) (wpAny_pure ⟨plainId_quiet F.plain_tuple_new _, codeAny_builtin F.entry_tuple_new ?_⟩))
  rw [Around.under_plainId F.plain_tuple_new _]
  have hsub := sub_tuple_self
  have hinit := init_tuple_lookup
  have hmh := madeHere_tuple
  have hh1 : A.in1.handled = none := hh
  wp_walk using wpAny_typeOf hT, PySem.W.kdu_collect (A := A.in1) S hh1 hok hn
  intro h' tk acc hk hacc
  show wpAny _ _ (Builtin.Tuple.tupleExact acc.toList.toArray >>= fun v => ret v) _ _ _
  unfold Builtin.Tuple.tupleExact
  refine wpAny_bind (wpAny_newObj_type ?_ (by show acc.toList.toArray.size ≤ sizeLine; simp only [Array.toArray_toList]; rw [hacc.1]; exact hn))
  refine wpAny_pure ?_
  have e : acc.toList.toArray = acc := by simp
  rw [e]
  exact h h' tk acc hk hacc
theorem call_tuple_src {Q : Value → Shared → Prop} (S : PySem.W.KdlSrc prog w T r d n P OK) (hh : A.handled = none) (hT : s.TypeIs (.ref r) T) (hne : T ≠ "tuple") (hok : OK s.heap) (hn : n ≤ sizeLine)
    (hQ : ∀ (h' : Heap) (tk : Nat) (acc : Array Value), (∀ b o, s.heap.get? b = some o → h'.get? b = some o) → ItemsOf P acc n →
      Q (.ref h'.objs.size) { s with heap := h'.push { cls := .type "tuple", data := .seq acc }, toks := tk }) :
    wpAny (model prog w) A (call (.type "tuple") [.ref r]) Q E s := by
  refine callType_codes (Q₁ := fun obj s₁ => s₁.TypeIs obj "tuple" ∧ Q obj s₁) F.called_tuple (F.typeCall_tuple_1 _) F.entry_object_init
    (code_tuple_src (A := A.in1) S hh hT hne hok hn fun h' tk acc hk hacc => ⟨⟨_, Heap.get?_push_size _ rfl, rfl⟩, hQ h' tk acc hk hacc⟩) fun obj s₁ h₁ => ?_
  exact ⟨h₁.1, F.args_object_init_2 obj _, object_init_meets F.called_tuple.init.lookup F.called_tuple.made (by decide) prog w A.in1 _ s₁ ⟨h₁.1, rfl, h₁.2⟩⟩
end
def tTupVals (te : TE) : TE := fun σ H Q => te σ H fun x H1 => ∃ d kvs, x = .ref d ∧ H1 d = some (.dK kvs) ∧ ∀ q, H1 q = none → Q (.ref q) (upd H1 q (.tup (kvs.map fun kv => kv.2)))
section
variable {X : Cx} {e : Expr} {te : TE} {p apos cpos pos : Pos}
theorem pe_tupVals (hc : X.calm = true) (he : PE X e te) (hg : Gl X "tuple") (hm : X.mg "tuple" = none) (hv : bootBuiltins "tuple" = some (.type "tuple")) (hbase : attributeBase e "values" X.env (eval e X.env) = eval e X.env := by rfl) (hline : (apos.endLine == cpos.line) = true := by rfl)
    (hs : starEach [.Call (.Attribute e "values" apos) [] [] cpos] X.env = (false, eval (.Call (.Attribute e "values" apos) [] [] cpos) X.env) :: starEach [] X.env := by rfl) :
    PE X (.Call (.Name "tuple" p) [.Call (.Attribute e "values" apos) [] [] cpos] [] pos) (tTupVals te) := by
  refine ⟨fun pins s σ H Q I hq => ?_⟩
  refine wpAny_Call_Name_kw (ld_blt I hg hm hv ?_)
  refine PyProof.Rows.callWith_type1 ?_ hs rfl
  rw [hs]
  show wpAny _ _ (spliced ((false, eval (.Call (.Attribute e "values" apos) [] [] cpos) X.env) :: backTo pos (starEach [] X.env))) _ _ s
  refine Calls.spliced_cons ?_
  refine wpAny_Call_method (T := "dict") (id := "dict.values") hbase rfl hline F.plainAttrs_dict F.slot_dict_values F.type_dict_values (thn (he.run pins s σ H _ I hq) fun u s1 ⟨x, H1, I1, rx, d, kvs, ex, hd, q⟩ => ?_)
  subst ex
  obtain rfl : u = Value.ref d := rx
  obtain ⟨hz, hs0, vs, kv, hdo⟩ := I1.hok d _ hd
  obtain ⟨ep, hat⟩ := hdo.dictAt
  have lk : kvs.length = vs.length := Paired.length kv
  have I2 : Inv X pins σ H1 { s1 with heap := s1.heap.push { cls := .type "dict_values", data := .fields #[.ref d] } } := I1.kept (t' := s1.toks) fun b ob q => Heap.get?_push_of_some _ q
  refine ⟨hdo.typeIs, hdo.mapOf.noDict, ?_⟩
  show wpAny _ _ (callWith cpos (.builtin "dict.values") [.ref d] [] []) _ X.xe s1
  refine method_meetsIn F.slot_dict_values F.entry_dict_values rfl (PySem.evalArgs_none ⟨rfl, hdo.typeIs, F.args_dict_values_1 _, _, meets_dict_values (mixKind X.prog X.w) d hs0, ⟨vs, hdo⟩, ?_⟩)
  refine Calls.spliced_nil ?_
  refine call_tuple_src (PySem.W.kdl_values (knd := mixKind X.prog X.w) (kvs := vs) (ep := ep)) (I1.ok.hd hc) ⟨_, Heap.get?_push_size _ rfl, rfl⟩ (by decide) ⟨⟨_, Heap.get?_push_size _ rfl, rfl, rfl⟩, hat.push _⟩ (by omega) fun h' tk acc' hkeep hacc => ?_
  have I3 : Inv X pins σ H1 { s1 with heap := h', toks := tk } := I2.kept (t' := tk) hkeep
  refine ⟨.ref h'.objs.size, upd H1 h'.objs.size (.tup (kvs.map fun kv => kv.2)), I3.laid (t' := tk) (fun b o e => Heap.get?_push_of_some _ e) (Nat.le_refl _) (show ObjOk X.prog X.w _ _ _ (.tup (kvs.map fun kv => kv.2)) from ⟨?_, acc'.toList, ?_, ?_⟩), rfl, q _ (I3.hok.fresh (Nat.le_refl _))⟩
  · rw [List.length_map]; exact hz
  · have el : acc'.toList.length = acc'.size := by simp
    refine vals_of_at (by rw [List.length_map, el, hacc.1, lk]) fun j x w h1 h2 => ?_
    obtain ⟨k, hky⟩ := hacc.2 j w (by rw [← Array.getElem?_toList]; exact h2)
    rw [List.getElem?_map] at h1
    cases hk : kvs[j]? with
    | none => rw [hk] at h1; cases h1
    | some pk =>
      rw [hk] at h1
      cases h1
      obtain ⟨qv, g1, g2, g3⟩ := LiI.paired_get kv hk
      rw [hky] at g1
      cases g1
      exact g3
  · rw [Array.toArray_toList]; exact IsTup.new _ _
/-- the greatest of a list of whole numbers; of none, the default -/
def mxD (k : Int) : List Int → Int
  | [] => k
  | n :: ns => ns.foldl (fun a y => if y > a then y else a) n
def rMaxDef (K : PySem.W.Frag) : List V → List V → Hp → VK → Prop := fun vs zs H Q => ∃ (a : Addr) (ns : List Int) (k : Int), vs = [V.ref a] ∧ zs = [V.int k] ∧ SqL K H a (ns.map V.int) ∧ Q (.int (mxD k ns)) H
theorem cr_maxDef {X : Cx} (hc : X.calm = true) (hu : X.A.units + 2 < cLine) : CallRK X (.builtin "max") [Str.ofString "default"] (rMaxDef X.K) := by
  intro pins s σ H vs zs us ws Q I r rz h
  obtain ⟨a, ns, k, rfl, rfl, hs, q⟩ := h
  obtain ⟨its, rv, hl, _⟩ := I.list hs
  rw [Vals.ref1 r]
  obtain ⟨w1, rfl, t, e1⟩ := vals1 rz
  subst e1
  have hi := rv.ints
  refine PySem.W.max_list_datum_default (α := Int) (xs := ns) (I.ok.hd hc) hl.isList (by simpa using PySem.W.HoldAll.of_ints hi) (by show X.A.units + 1 + 0 < cLine; omega) (fun e h' tk hk => ?_) fun y ys i v h' tk e hv hv2 hk => ?_
  · subst e
    exact ⟨.int k, H, I.kept hk, ⟨_, rfl⟩, q⟩
  · subst e
    have ev : ∃ t, v = .int (PySem.W.maxOf y ys) t := by
      obtain ⟨as, rd⟩ := hv2
      have rd : Reads h' v (.int (PySem.W.maxOf y ys)) as := rd
      cases rd with
      | int i t => exact ⟨_, rfl⟩
    obtain ⟨t2, rfl⟩ := ev
    have em : PySem.W.maxOf y ys = mxD k (y :: ys) := by
      show List.foldl _ _ _ = List.foldl _ _ _
      congr 1
      funext a b
      show (if decide (a < b) = true then b else a) = if b > a then b else a
      by_cases hab : a < b
      · rw [if_pos (decide_eq_true hab), if_pos hab]
      · rw [if_neg (by simpa using hab), if_neg hab]
    rw [em]
    exact ⟨.int (mxD k (y :: ys)), H, I.kept hk, ⟨_, rfl⟩, q⟩
end
end LiV

set_option Elab.async false
set_option linter.all false
set_option maxRecDepth 100000
set_option maxHeartbeats 1000000
/-! zip of a tuple and a list -/
namespace Zm
open PySem RZ
open PySem.Sem (wp)
/-- the tuple's iterator and the list's, as far as they have come -/
structure Two (h : Heap) (i j a b : Addr) (xs ys : Array Value) (k : Nat) : Prop where
  it1 : h.IsTupleIter i a k
  it2 : h.IsListIter j b k
  sq1 : h.IsTuple a xs
  sq2 : h.IsList b ys
section
variable {prog : Program} {w : World} {A : Around} {E : Value → Shared → Prop} {s : Shared}
theorem two_item {z TI TO i j a b : Addr} {xs ys : Array Value} {k : Nat} {x y u v : Value} {R : Value → Shared → Prop} (D : ZipApart z TI TO i j a b) (zz : IsZip s.heap z TI TO .none) (zi : IsPair s.heap TI (.ref i) (.ref j)) (zo : IsPair s.heap TO u v) (W : Two s.heap i j a b xs ys k) (ex : xs[k]? = some x) (ey : ys[k]? = some y)
    (q : ∀ g, IsZip g z TI TO (rawInt s.heap.objs.size) → IsPair g TO x y → g.IsTupleIter i a (k + 1) → g.IsListIter j b (k + 1) → IsPair g s.heap.objs.size x y → g.objs.size = s.heap.objs.size + 1 → (∀ c o, c ≠ z → c ≠ TO → c ≠ i → c ≠ j → s.heap.get? c = some o → g.get? c = some o) → R (.ref s.heap.objs.size) { s with heap := g }) :
    wpAny (model prog w) A (Builtin.«zip.__next__» ⟨[.ref z], []⟩) (fun out t => ∃ r, out = .done (.ret r) ∧ R r t) E s := by
  refine wpAny_bind (m := field (.ref z) 2) (wpAny_field zz rfl (x := .bool false) rfl ?_)
  refine wpAny_bind (m := field (.ref z) 3) (wpAny_field zz rfl (x := .ref TI) rfl ?_)
  refine wpAny_bind (wpAny_seqItems zi rfl ?_)
  refine wpAny_bind (m := Builtin.SmallTypes.ownedTupleIsFree (.ref z)) ?_
  unfold Builtin.SmallTypes.ownedTupleIsFree
  refine wpAny_bind (wpAny_field zz rfl (x := .none) rfl (wpAny_pure ?_))
  simp only [if_true]
  refine wpAny_bind (wpAny_rule (wpAny_bind (wpAny_field zz rfl (x := .ref TO) rfl ?_)))
  refine wpAny_bind (wpAny_setField_rec zz (by simp) fun g1 z1 t1 => ?_)
  have z1 : IsZip g1 z TI TO .ellipsis := z1
  refine wpAny_bind ?_
  simp only [List.zipIdx_cons, List.zipIdx_nil, List.forIn_cons, List.forIn_nil]
  refine wpAny_bind (wpAny_bind (wpAny_onRaise ?_))
  refine wpAny_bind (m := Builtin.SmallTypes.nextOf (.ref i)) (nextOf_tuple_item (W.it1.extBut t1.extBut D.i1z) (W.sq1.extBut t1.extBut D.l1z) ex fun g2 n2 t2 => wpAny_pure ?_)
  have o2 : IsPair g2 TO u v := t2.extBut _ _ D.TOi1 (t1.extBut _ _ D.TOz zo)
  refine wpAny_bind (wpAny_seqItems o2 rfl (wpAny_bind (wpAny_updateSeq_pair o2 fun g3 o3 t3 => ?_)))
  have o3 : IsPair g3 TO x v := o3
  refine wpAny_bind (wpAny_letGo (wpAny_pure (wpAny_bind (wpAny_bind (wpAny_onRaise ?_)))))
  have j3 : g3.IsListIter j b k := ((W.it2.extBut t1.extBut D.i2z).extBut t2.extBut D.i12.symm).extBut t3.extBut D.TOi2.symm
  have b3 : g3.IsList b ys := ((W.sq2.extBut t1.extBut D.l2z).extBut t2.extBut D.l2i1).extBut t3.extBut D.l2TO
  refine wpAny_bind (m := Builtin.SmallTypes.nextOf (.ref j)) (wpAny_nextOf_list_item j3 b3 ey fun g4 n4 t4 => wpAny_pure ?_)
  have o4 : IsPair g4 TO x v := t4.extBut _ _ D.TOi2 o3
  refine wpAny_bind (wpAny_seqItems o4 rfl (wpAny_bind (wpAny_updateSeq_pair o4 fun g5 o5 t5 => ?_)))
  have o5 : IsPair g5 TO x y := o5
  refine wpAny_bind (wpAny_letGo (wpAny_pure (wpAny_pure (wpAny_bind (wpAny_seqItems o5 rfl (wpAny_bind (wpAny_newTuple ?_)))))))
  have size : g5.objs.size = s.heap.objs.size := by rw [t5.1, t4.1, t3.1, t2.1, t1.1]
  have z5 : IsZip g5 z TI TO .ellipsis := t5.extBut _ _ D.TOz.symm (t4.extBut _ _ D.i2z.symm (t3.extBut _ _ D.TOz.symm (t2.extBut _ _ D.i1z.symm z1)))
  have old : ∀ c o, c ≠ z → c ≠ TO → c ≠ i → c ≠ j → s.heap.get? c = some o → g5.get? c = some o := fun c o h1 h2 h3 h4 e => t5.extBut _ _ h2 (t4.extBut _ _ h4 (t3.extBut _ _ h2 (t2.extBut _ _ h3 (t1.extBut _ _ h1 e))))
  have m1 : g5.IsTupleIter i a (k + 1) := ((n2.extBut t3.extBut D.TOi1.symm).extBut t4.extBut D.i12).extBut t5.extBut D.TOi1.symm
  have m2 : g5.IsListIter j b (k + 1) := n4.extBut t5.extBut D.TOi2.symm
  have zl : z < g5.objs.size := Heap.lt_size z5
  refine wpAny_bind (m := Builtin.SmallTypes.ownedTupleHandOut (.ref z) (.ref g5.objs.size)) ?_
  unfold Builtin.SmallTypes.ownedTupleHandOut
  have z6 : IsZip (g5.push { cls := .type "tuple", data := .seq #[x, y] }) z TI TO .ellipsis := Heap.get?_push_of_some _ z5
  refine wpAny_bind (wpAny_setField_rec z6 (by simp) fun g7 z7 t7 => ?_)
  have z7 : IsZip g7 z TI TO (rawInt g5.objs.size) := z7
  refine wpAny_setField_rec z7 (by simp) fun g8 z8 t8 => ?_
  have z8 : IsZip g8 z TI TO (rawInt g5.objs.size) := z8
  have lift : ∀ c o, c ≠ z → g5.get? c = some o → g8.get? c = some o := fun c o h1 e => t8.extBut _ _ h1 (t7.extBut _ _ h1 (Heap.get?_push_of_some _ e))
  have p8 : IsPair g8 g5.objs.size x y := t8.extBut _ _ (Nat.ne_of_gt zl) (t7.extBut _ _ (Nat.ne_of_gt zl) (Heap.get?_push_size _ rfl))
  have s8 : g8.objs.size = g5.objs.size + 1 := by rw [t8.1, t7.1, Heap.size_push]
  rw [size] at z8 p8 s8
  refine wpAny_pure ⟨_, rfl, ?_⟩
  show R (.ref g5.objs.size) _
  rw [size]
  exact q g8 z8 (lift _ _ D.TOz o5) (m1.at fun o e => lift _ o D.i1z e) (m2.at fun o e => lift _ o D.i2z e) p8 s8 fun c o h1 h2 h3 h4 e => lift c o h1 (old c o h1 h2 h3 h4 e)
theorem two_end {z TI TO i j a b : Addr} {xs ys : Array Value} {k : Nat} {u v : Value} {R : Fin → Shared → Prop} (hh : A.handled = none) (D : ZipApart z TI TO i j a b) (zz : IsZip s.heap z TI TO .none) (zi : IsPair s.heap TI (.ref i) (.ref j)) (zo : IsPair s.heap TO u v) (W : Two s.heap i j a b xs ys k) (en : xs[k]? = none ∨ ys[k]? = none)
    (q : ∀ g e, (∀ c o, c ≠ z → c ≠ TO → c ≠ i → c ≠ j → s.heap.get? c = some o → g.get? c = some o) → (∃ o, g.get? e = some o ∧ o.cls = .type "StopIteration") → E (.ref e) { s with heap := g }) :
    wpAny (model prog w) A (Builtin.«zip.__next__» ⟨[.ref z], []⟩) R E s := by
  refine wpAny_bind (m := field (.ref z) 2) (wpAny_field zz rfl (x := .bool false) rfl ?_)
  refine wpAny_bind (m := field (.ref z) 3) (wpAny_field zz rfl (x := .ref TI) rfl ?_)
  refine wpAny_bind (wpAny_seqItems zi rfl ?_)
  refine wpAny_bind (m := Builtin.SmallTypes.ownedTupleIsFree (.ref z)) ?_
  unfold Builtin.SmallTypes.ownedTupleIsFree
  refine wpAny_bind (wpAny_field zz rfl (x := .none) rfl (wpAny_pure ?_))
  simp only [if_true]
  refine wpAny_bind (wpAny_rule (wpAny_bind (wpAny_field zz rfl (x := .ref TO) rfl ?_)))
  refine wpAny_bind (wpAny_setField_rec zz (by simp) fun g1 z1 t1 => ?_)
  have z1 : IsZip g1 z TI TO .ellipsis := z1
  refine wpAny_bind ?_
  simp only [List.zipIdx_cons, List.zipIdx_nil, List.forIn_cons, List.forIn_nil]
  refine wpAny_bind (wpAny_bind (wpAny_onRaise ?_))
  cases ex : xs[k]? with
  | none =>
    refine wpAny_bind (m := Builtin.SmallTypes.nextOf (.ref i)) (nextOf_tuple_end hh (W.it1.extBut t1.extBut D.i1z) (W.sq1.extBut t1.extBut D.l1z) ex fun g2 e t2 ⟨oe, he, hc⟩ => ?_)
    have z2 : IsZip g2 z TI TO .ellipsis := t2 _ _ D.i1z.symm z1
    have ne : e ≠ z := fun x => by subst x; rw [z2] at he; cases he; simp at hc
    exact wpAny_setField_rec z2 (by simp) fun g3 _ t3 => q g3 e (fun c o h1 _ h3 _ x => t3.extBut _ _ h1 (t2 _ _ h3 (t1.extBut _ _ h1 x))) ⟨oe, t3.extBut _ _ ne he, hc⟩
  | some x =>
    have ey : ys[k]? = none := en.resolve_left fun h => by rw [ex] at h; cases h
    refine wpAny_bind (m := Builtin.SmallTypes.nextOf (.ref i)) (nextOf_tuple_item (W.it1.extBut t1.extBut D.i1z) (W.sq1.extBut t1.extBut D.l1z) ex fun g2 n2 t2 => wpAny_pure ?_)
    have o2 : IsPair g2 TO u v := t2.extBut _ _ D.TOi1 (t1.extBut _ _ D.TOz zo)
    refine wpAny_bind (wpAny_seqItems o2 rfl (wpAny_bind (wpAny_updateSeq_pair o2 fun g3 o3 t3 => ?_)))
    refine wpAny_bind (wpAny_letGo (wpAny_pure (wpAny_bind (wpAny_bind (wpAny_onRaise ?_)))))
    have j3 : g3.IsListIter j b k := ((W.it2.extBut t1.extBut D.i2z).extBut t2.extBut D.i12.symm).extBut t3.extBut D.TOi2.symm
    have b3 : g3.IsList b ys := ((W.sq2.extBut t1.extBut D.l2z).extBut t2.extBut D.l2i1).extBut t3.extBut D.l2TO
    refine wpAny_bind (m := Builtin.SmallTypes.nextOf (.ref j)) (wpAny_nextOf_list_end hh j3 b3 ey fun g4 e t4 ⟨oe, he, hc⟩ => ?_)
    have z4 : IsZip g4 z TI TO .ellipsis := t4 _ _ D.i2z.symm (t3.extBut _ _ D.TOz.symm (t2.extBut _ _ D.i1z.symm z1))
    have ne : e ≠ z := fun x => by subst x; rw [z4] at he; cases he; simp at hc
    exact wpAny_setField_rec z4 (by simp) fun g5 _ t5 => q g5 e (fun c o h1 h2 h3 h4 x => t5.extBut _ _ h1 (t4 _ _ h4 (t3.extBut _ _ h2 (t2.extBut _ _ h3 (t1.extBut _ _ h1 x))))) ⟨oe, t5.extBut _ _ ne he, hc⟩
theorem py_item {z TI TO i j a b : Addr} {xs ys : Array Value} {k : Nat} {x y u v : Value} {R : Option Value → Shared → Prop} (D : ZipApart z TI TO i j a b) (zz : IsZip s.heap z TI TO .none) (zi : IsPair s.heap TI (.ref i) (.ref j)) (zo : IsPair s.heap TO u v) (W : Two s.heap i j a b xs ys k) (ex : xs[k]? = some x) (ey : ys[k]? = some y)
    (q : ∀ g, IsZip g z TI TO (rawInt s.heap.objs.size) → IsPair g TO x y → g.IsTupleIter i a (k + 1) → g.IsListIter j b (k + 1) → IsPair g s.heap.objs.size x y → g.objs.size = s.heap.objs.size + 1 → (∀ c o, c ≠ z → c ≠ TO → c ≠ i → c ≠ j → s.heap.get? c = some o → g.get? c = some o) → R (some (.ref s.heap.objs.size)) { s with heap := g }) :
    wpAny (model prog w) A (pyNext (.ref z)) R E s := by
  have ty : s.TypeIs (.ref z) "zip" := ⟨_, zz, rfl⟩
  unfold pyNext
  refine wpAny_bind (wpAny_attempt (wpAny_callSpecial?_slot (name := Str.ofString "__next__") ty F.slot_zip_next ?_))
  exact wpAny_call_entry F.slot_zip_next ty F.entry_zip_next (two_item D zz zi zo W ex ey fun g a1 a2 a3 a4 a5 a6 a7 => wpAny_pure (q g a1 a2 a3 a4 a5 a6 a7)) (F.args_zip_next_1 _)
theorem py_end {z TI TO i j a b : Addr} {xs ys : Array Value} {k : Nat} {u v : Value} {R : Option Value → Shared → Prop} (hh : A.handled = none) (D : ZipApart z TI TO i j a b) (zz : IsZip s.heap z TI TO .none) (zi : IsPair s.heap TI (.ref i) (.ref j)) (zo : IsPair s.heap TO u v) (W : Two s.heap i j a b xs ys k) (en : xs[k]? = none ∨ ys[k]? = none)
    (q : ∀ g, (∀ c o, c ≠ z → c ≠ TO → c ≠ i → c ≠ j → s.heap.get? c = some o → g.get? c = some o) → R none { s with heap := g }) : wpAny (model prog w) A (pyNext (.ref z)) R E s := by
  have ty : s.TypeIs (.ref z) "zip" := ⟨_, zz, rfl⟩
  unfold pyNext
  refine wpAny_bind (wpAny_attempt (wpAny_callSpecial?_slot (name := Str.ofString "__next__") ty F.slot_zip_next ?_))
  refine wpAny_call_entry F.slot_zip_next ty F.entry_zip_next (two_end hh D zz zi zo W en fun g e k ⟨o, ho, hc⟩ => ?_) (F.args_zip_next_1 _)
  exact wpAny_bind (wpAny_isInstance (T := "StopIteration") (b := true) ⟨o, ho, hc⟩ isSubtype_stop (wpAny_pure (q _ k)))
/-- the heap behind zip(a, b) -/
def zg (h : Heap) (a b : Addr) : Heap := ((((h.push { cls := .type "tuple_iterator", data := .fields #[.ref a, .int 0 0] }).push { cls := .type "list_iterator", data := .fields #[.ref b, .int 0 0] }).push { cls := .type "tuple", data := .seq #[.ref h.objs.size, .ref (h.objs.size + 1)] }).push
  { cls := .type "tuple", data := .seq #[.none, .none] }).push { cls := .type "zip", data := .fields #[.none, .bool false, .bool false, .ref (h.objs.size + 2), .ref (h.objs.size + 3)] }
theorem meets_new (a b : Addr) (xs ys : Array Value) : Meets (Builtin.«zip.__new__» ⟨[.type "zip", .ref a, .ref b], []⟩) (fun _ R s => s.heap.IsTuple a xs ∧ s.heap.IsList b ys ∧ R (.ok (.ret (.ref (s.heap.objs.size + 4)))) { s with heap := zg s.heap a b }) :=
  .of_wp fun prog w A R s h => by
    obtain ⟨hp, g, d, tk, os⟩ := s
    obtain ⟨ha, hb, h⟩ := h
    have hsub := sub_zip
    have ta : Heap.IsTuple (Shared.heap ⟨hp, g, d, tk, os⟩) a xs := ha
    have lb : Heap.IsList (Shared.heap ⟨hp.push { cls := .type "tuple_iterator", data := .fields #[.ref a, .int 0 0] }, g, d, tk, os⟩) b ys := by
      obtain ⟨o, e, r⟩ := hb
      exact ⟨o, Heap.get?_push_of_some _ e, r⟩
    wp_walk using wpAny_pyIter_tuple ta, wpAny_pyIter_list lb
    refine ⟨_, rfl, ?_⟩
    simp only [Heap.size_push]
    exact h
theorem call_two {a b : Addr} {xs ys : Array Value} {R : Value → Shared → Prop} (ha : s.heap.IsTuple a xs) (hb : s.heap.IsList b ys)
    (q : ∀ g, IsZip g (s.heap.objs.size + 4) (s.heap.objs.size + 2) (s.heap.objs.size + 3) .none → IsPair g (s.heap.objs.size + 2) (.ref s.heap.objs.size) (.ref (s.heap.objs.size + 1)) → IsPair g (s.heap.objs.size + 3) .none .none → g.IsTupleIter s.heap.objs.size a 0 → g.IsListIter (s.heap.objs.size + 1) b 0 →
      g.objs.size = s.heap.objs.size + 5 → (∀ c o, s.heap.get? c = some o → g.get? c = some o) → R (.ref (s.heap.objs.size + 4)) { s with heap := g }) : wpAny (model prog w) A (call (.type "zip") [.ref a, .ref b]) R E s := by
  refine callType_new F.called_zip (by decide) (F.typeCall_zip_2 _ _) (F.newCall_zip_2 _ _) (fun obj => F.args_object_init_3 obj _ _) F.entry_zip_new (meets_new a b xs ys) ⟨ha, hb, ?_⟩
  have at_ : ∀ {h : Heap} {o : Obj} {n : Nat}, h.objs.size = n → o.isFreed = false → (h.push o).get? n = some o := fun e f => by rw [← e]; exact Heap.get?_push_size _ f
  have up : ∀ {h : Heap} {o : Obj} {c : Addr} {x : Obj}, h.get? c = some x → (h.push o).get? c = some x := fun e => Heap.get?_push_of_some _ e
  have g5 : (zg s.heap a b).get? (s.heap.objs.size + 4) = some _ := at_ (by simp [Heap.size_push]) rfl
  have g4 : (zg s.heap a b).get? (s.heap.objs.size + 3) = some _ := up (at_ (by simp [Heap.size_push]) rfl)
  have g3 : (zg s.heap a b).get? (s.heap.objs.size + 2) = some _ := up (up (at_ (by simp [Heap.size_push]) rfl))
  have g2 : (zg s.heap a b).get? (s.heap.objs.size + 1) = some _ := up (up (up (at_ (by simp [Heap.size_push]) rfl)))
  have g1 : (zg s.heap a b).get? s.heap.objs.size = some _ := up (up (up (up (at_ rfl rfl))))
  exact ⟨⟨_, g5, rfl⟩, q _ g5 g3 g4 ⟨_, g1, rfl, rfl⟩ ⟨_, g2, rfl, rfl⟩ (by simp [zg, Heap.size_push]) fun c o e => up (up (up (up (up e))))⟩
end
end Zm

set_option Elab.async false
set_option linter.all false
set_option maxRecDepth 100000
set_option maxHeartbeats 1000000
/-! zip(a, b), a tuple and a list: the rule, comprehensions over it -/
namespace Zm
open PySem PySem.Spec PyProof.Rows L2 RZ
/-- the items of the tuple at a and of the list at b, in new pairs -/
def ItzM (K : PySem.W.Frag) (a b : Addr) : It where
  go := fun i H => ∃ (xs ys : List V) (x y : V), SqT K H a xs ∧ SqL K H b ys ∧ xs[i]? = some x ∧ ys[i]? = some y
  yld := fun i H v H' => ∃ T x y, v = .ref T ∧ H T = none ∧ H' = upd H T (.tup [x, y]) ∧ (∀ xs, SqT K H a xs → xs[i]? = some x) ∧ ∀ ys, SqL K H b ys → ys[i]? = some y
  stop := fun i H => ∃ xs ys : List V, SqT K H a xs ∧ SqL K H b ys ∧ (xs.length ≤ i ∨ ys.length ≤ i)
/-- where an object of the five lies -/
theorem five {z TI TO i j c : Addr} (h : c ∈ [z, TI, TO, i, j]) : c = z ∨ c = TI ∨ c = TO ∨ c = i ∨ c = j := by simpa using h
theorem turn_mix {P : Program} {w : World} {K : PySem.W.Frag} {elts : List Expr} {kk : Nat} {tpos : Pos} {a b z TI TO i j : Addr} (D : ZipApart z TI TO i j a b) :
    Turn P w K (.Tuple elts kk tpos) (ItzM K a b) [z, TI, TO, i, j] z (fun k h => IsZip h z TI TO .none ∧ IsPair h TI (.ref i) (.ref j) ∧ (∃ x y, IsPair h TO x y) ∧ h.IsTupleIter i a k ∧ h.IsListIter j b k) where
  mem := List.mem_cons_self
  self := fun A k s Q E st h => wpAny_pyIter_zip st.1 h
  obj := fun k h ⟨zz, zi, ⟨x, y, zo⟩, ⟨o1, e1, _, d1⟩, ⟨o2, e2, _, d2⟩⟩ c hc => by
    rcases five hc with rfl | rfl | rfl | rfl | rfl
    · exact ⟨_, zz, fun v q => nomatch q⟩
    · exact ⟨_, zi, fun v q => nomatch q⟩
    · exact ⟨_, zo, fun v q => nomatch q⟩
    · exact ⟨o1, e1, fun v q => by rw [d1] at q; cases q⟩
    · exact ⟨o2, e2, fun v q => by rw [d2] at q; cases q⟩
  keep := fun k h h' ⟨zz, zi, ⟨x, y, zo⟩, n1, n2⟩ up => ⟨up z (by simp) _ zz, up TI (by simp) _ zi, ⟨x, y, up TO (by simp) _ zo⟩, n1.at fun o q => up i (by simp) o q, n2.at fun o q => up j (by simp) o q⟩
  item := by
    rintro X rfl rfl rfl hc k pins s σ H E I hf ⟨zz, zi, ⟨x0, y0, zo⟩, n1, n2⟩ ⟨xs, ys, x, y, qa, qb, ex, ey⟩
    obtain ⟨us, ra, ta, _⟩ := I.tuple qa
    obtain ⟨ws, rb, tb, _⟩ := I.list qb
    obtain ⟨u, eu, ru⟩ := ra.get ex
    obtain ⟨v, ev, rv⟩ := rb.get ey
    have lz : z < s.heap.objs.size := Heap.lt_size zz
    refine py_item D zz zi zo ⟨n1, n2, ta, tb.isList⟩ (x := u) (y := v) (by simpa using eu) (by simpa using ev) fun g z1 o1 m1 m2 p1 sz old => ⟨_, rfl, wpAny_letOwnedTupleGo_zip (s := { s with heap := g }) z1 fun g2 z2 t2 => ?_⟩
    have p2 : g2.get? s.heap.objs.size = some { cls := .type "tuple", data := .seq #[u, v] } := (t2.2 _ (Nat.ne_of_gt lz)).trans p1
    have ob : ObjOk X.prog X.w (upd H s.heap.objs.size (.tup [x, y])) g2 s.heap.objs.size (.tup [x, y]) := ⟨by show 2 ≤ sizeLine; decide, [u, v], .cons ru (.cons rv .nil), ⟨_, p2, rfl, _, rfl⟩⟩
    have I1 : Inv X pins σ (upd H s.heap.objs.size (.tup [x, y])) { s with heap := g2 } :=
      I.turnedNew (t' := s.toks) (ch := [z, TI, TO, i, j]) (fun c o nb q => (t2.2 c fun q' => nb (by simp [q'])).trans (old c o (fun q' => nb (by simp [q'])) (fun q' => nb (by simp [q'])) (fun q' => nb (by simp [q'])) (fun q' => nb (by simp [q'])) q)) hf (Nat.le_refl _) ob
    refine ⟨.ref s.heap.objs.size, _, I1, rfl, ⟨_, x, y, rfl, I.hok.fresh (Nat.le_refl _), rfl, fun l hl => ?_, fun l hl => ?_⟩, ⟨z2, ?_, ⟨u, v, ?_⟩, ?_, ?_⟩, fun c hcm => ?_⟩
    · rw [I.tuple_inj hl qa]; exact ex
    · rw [I.list_inj hl qb]; exact ey
    · exact (t2.2 _ D.TIz).trans (old _ _ D.TIz D.TITO D.TIi1 D.TIi2 zi)
    · exact (t2.2 _ D.TOz).trans o1
    · exact m1.at fun o q => (t2.2 _ D.i1z).trans q
    · exact m2.at fun o q => (t2.2 _ D.i2z).trans q
    · have lc : c < s.heap.objs.size := by
        rcases five hcm with rfl | rfl | rfl | rfl | rfl
        · exact lz
        · exact Heap.lt_size zi
        · exact Heap.lt_size zo
        · obtain ⟨_, e1, _⟩ := n1; exact Heap.lt_size e1
        · obtain ⟨_, e2, _⟩ := n2; exact Heap.lt_size e2
      rw [upd_ne (Nat.ne_of_lt lc)]
      exact (hf c hcm).1
  done := by
    rintro X rfl rfl rfl hc k pins s σ H E I hf ⟨zz, zi, ⟨x0, y0, zo⟩, n1, n2⟩ ⟨xs, ys, qa, qb, en⟩
    obtain ⟨us, ra, ta, _⟩ := I.tuple qa
    obtain ⟨ws, rb, tb, _⟩ := I.list qb
    have l1 := ra.length
    have l2 := rb.length
    have en : us.toArray[k]? = none ∨ ws.toArray[k]? = none := by
      rcases en with q | q
      · exact .inl (by simp; omega)
      · exact .inr (by simp; omega)
    exact py_end (I.ok.hd hc) D zz zi zo ⟨n1, n2, ta, tb.isList⟩ en fun g old => ⟨rfl, I.turnedL (t' := s.toks) (ch := [z, TI, TO, i, j]) (fun c o nb q => old c o (fun q' => nb (by simp [q'])) (fun q' => nb (by simp [q'])) (fun q' => nb (by simp [q'])) (fun q' => nb (by simp [q'])) q) hf⟩
def iZipM (K : PySem.W.Frag) (ta : TA) : TI := fun σ H R => ta σ H fun vs H1 => ∃ a b xs ys, vs = [.ref a, .ref b] ∧ SqT K H1 a xs ∧ SqL K H1 b ys ∧ R (ItzM K a b) H1
theorem pi_zipM {X : Cx} {e e2 : Expr} {ta : TA} {p pos tpos : Pos} {elts : List Expr} {kk : Nat} (hg : Gl X "zip") (hm : X.mg "zip" = none) (ha : PA X [e, e2] ta)
    (hs : starEach [e, e2] X.env = (false, eval e X.env) :: starEach [e2] X.env := by rfl) (hpl : (backTo pos (starEach [e2] X.env)).any (·.1) = false := by rfl) : PI X (.Tuple elts kk tpos) (.Call (.Name "zip" p) [e, e2] [] pos) (iZipM X.K ta) := by
  refine ⟨fun pins s σ H R I h => ?_⟩
  refine Call_ (ld_blt I hg hm PyProof.Rows.boot_zip (PyProof.Rows.callWith_type1 (thn (ha.run pos pins s σ H _ I h) fun us s1 ⟨vs, H1, I1, r1, a, b, xs, ys, ev, qa, qb, q⟩ => ?_) hs hpl))
  subst ev
  obtain ⟨u, v, rfl, ra, rb⟩ : ∃ u v, us = [u, v] ∧ RelV (.ref a) u ∧ RelV (.ref b) v := by
    cases r1 with
    | cons x t =>
      cases t with
      | cons y t =>
        cases t
        exact ⟨_, _, rfl, x, y⟩
  obtain rfl : u = Value.ref a := ra
  obtain rfl : v = Value.ref b := rb
  obtain ⟨its, rv, ta, _⟩ := I1.tuple qa
  obtain ⟨its2, rv2, tb, _⟩ := I1.list qb
  obtain ⟨o1, ho1, _⟩ := id ta
  refine call_two (show s1.heap.IsTuple a its.toArray from ta) tb.isList fun g zz zi zo n1 n2 sz old => wpAny_pyIter_zip zz ?_
  refine ⟨s1.heap.objs.size + 4, _, _, _, H1, rfl, I1.kept (t' := s1.toks) old, turn_mix (PySem.W.ktu_apart s1.heap.objs.size a b (Heap.lt_size ho1) tb.lt), ⟨zz, zi, ⟨_, _, zo⟩, n1, n2⟩, fun c hc => ?_, q⟩
  have le : s1.heap.objs.size ≤ c := by
    rcases five hc with rfl | rfl | rfl | rfl | rfl
    · exact Nat.le_add_right _ _
    · exact Nat.le_add_right _ _
    · exact Nat.le_add_right _ _
    · exact Nat.le_refl _
    · exact Nat.le_add_right _ _
  exact I1.fpOk le (I1.hok.fresh le)
/-- a comprehension over such a zip -/
theorem lc_zipM {K : PySem.W.Frag} {a b : Addr} {xs ys : List V} {g : TG} {tt : TT} {te : TE} {vs : List Nat} {σ : L2.St} {H1 : Hp} {D : Addr} {Qd : Hp → Prop} {n : Nat} (hn : n = min xs.length ys.length) (Pv : Nat → Hp → Prop) (h0 : Pv 0 (upd H1 D (.lst []))) (hq : ∀ i H, Pv i H → SqT K H a xs ∧ SqL K H b ys)
    (hs : ∀ (i : Nat) (x y : V) (T : Addr) (H : Hp), i < n → xs[i]? = some x → ys[i]? = some y → Pv i H → H T = none → g (.ref T) (wipe σ vs) (upd H T (.tup [x, y])) fun σ2 H2 => wipe σ2 vs = wipe σ vs ∧ tt σ2 H2 fun b H3 =>
      if b = true then te σ2 H3 fun y H4 => ∃ acc, H4 D = some (.lst acc) ∧ acc.length < sizeLine ∧ Pv (i + 1) (upd H4 D (.lst (acc ++ [y]))) else Pv (i + 1) H3) (hd : ∀ H, Pv n H → Qd H) :
    ∃ W : Nat → Nat → Hp → Prop, (∃ m, W 0 m (upd H1 D (.lst []))) ∧ ∀ i m H, W i m H →
      ((ItzM K a b).stop i H ∧ Qd H) ∨ ((ItzM K a b).go i H ∧ ∃ Nx : Hp → Prop, (∀ H', Nx H' → ∃ m', m' < m ∧ W (i + 1) m' H') ∧ ∀ x H', (ItzM K a b).yld i H x H' → g x (wipe σ vs) H' fun σ2 H2 => wipe σ2 vs = wipe σ vs ∧ tt σ2 H2 fun b H3 =>
        if b = true then te σ2 H3 fun y H4 => ∃ acc, H4 D = some (.lst acc) ∧ acc.length < sizeLine ∧ Nx (upd H4 D (.lst (acc ++ [y]))) else Nx H3) := by
  refine ⟨fun i m H => m = n - i ∧ i ≤ n ∧ Pv i H, ⟨n, rfl, Nat.zero_le _, h0⟩, ?_⟩
  rintro i m H ⟨rfl, hi, p⟩
  obtain ⟨qa, qb⟩ := hq i H p
  rcases Nat.lt_or_ge i n with lt | ge
  · have ex : xs[i]? = some xs[i] := List.getElem?_eq_getElem (by omega)
    have ey : ys[i]? = some ys[i] := List.getElem?_eq_getElem (by omega)
    refine .inr ⟨⟨xs, ys, _, _, qa, qb, ex, ey⟩, Pv (i + 1), fun H' p' => ⟨n - (i + 1), by omega, rfl, lt, p'⟩, ?_⟩
    rintro v H' ⟨T, x, y, rfl, hT, rfl, f1, f2⟩
    exact hs i x y T H lt (f1 xs qa) (f2 ys qb) p hT
  · obtain rfl : i = n := Nat.le_antisymm hi ge
    exact .inl ⟨⟨xs, ys, qa, qb, by omega⟩, hd H p⟩
end Zm

set_option linter.all false
set_option autoImplicit true
/-! BinM: core Lean alone. Binomials of any integer; runs acting on the counts of a pattern's beginnings -/
namespace Bm
/-! ### binomials -/
/-- m (m - 1) .. (m - k + 1) -/
def df (m : Int) : Nat → Int
  | 0 => 1
  | k + 1 => df m k * (m - (k : Int))
def fac : Nat → Int
  | 0 => 1
  | k + 1 => fac k * ((k : Int) + 1)
theorem fac_pos : ∀ k, 0 < fac k
  | 0 => by decide
  | k + 1 => Int.mul_pos (fac_pos k) (by omega)
theorem df_left (m : Int) : ∀ k, df (m + 1) (k + 1) = (m + 1) * df m k
  | 0 => by
    show 1 * (m + 1 - ((0 : Nat) : Int)) = (m + 1) * 1
    omega
  | k + 1 => by
    show df (m + 1) (k + 1) * (m + 1 - ((k + 1 : Nat) : Int)) = (m + 1) * (df m k * (m - (k : Int)))
    rw [df_left m k, show m + 1 - ((k + 1 : Nat) : Int) = m - (k : Int) by omega, Int.mul_assoc]
theorem df_pascal (m : Int) (k : Nat) : df (m + 1) (k + 1) = df m (k + 1) + ((k : Int) + 1) * df m k := by
  rw [df_left]
  show (m + 1) * df m k = df m k * (m - (k : Int)) + ((k : Int) + 1) * df m k
  rw [Int.mul_sub, Int.add_mul, Int.add_mul, Int.mul_comm m, Int.mul_comm (k : Int)]
  omega
theorem df_zero (k : Nat) : df 0 (k + 1) = 0 := by
  have := df_left (-1) k
  rw [show (-1 : Int) + 1 = 0 by decide, Int.zero_mul] at this
  exact this
theorem int_ind {P : Int → Prop} (h0 : P 0) (up : ∀ m, P m → P (m + 1)) (dn : ∀ m, P (m + 1) → P m) (m : Int) : P m := by
  have a : ∀ n : Nat, P (n : Int) := fun n => by
    induction n with
    | zero => exact h0
    | succ n ih => exact up _ ih
  have b : ∀ n : Nat, P (-(n : Int)) := fun n => by
    induction n with
    | zero => exact h0
    | succ n ih =>
      refine dn _ ?_
      rw [show -((n + 1 : Nat) : Int) + 1 = -(n : Int) by omega]
      exact ih
  by_cases h : 0 ≤ m
  · rw [show m = ((m.toNat : Nat) : Int) by omega]
    exact a _
  · rw [show m = -((m.natAbs : Nat) : Int) by omega]
    exact b _
theorem df_dvd : ∀ (k : Nat) (m : Int), fac k ∣ df m k
  | 0, m => Int.one_dvd _
  | k + 1, m => by
    have q : ∀ m : Int, fac (k + 1) ∣ ((k : Int) + 1) * df m k := fun m => by
      show fac k * ((k : Int) + 1) ∣ _
      rw [Int.mul_comm (fac k)]
      exact Int.mul_dvd_mul (Int.dvd_refl _) (df_dvd k m)
    refine int_ind (P := fun m => fac (k + 1) ∣ df m (k + 1)) ?_ (fun m h => ?_) (fun m h => ?_) m
    · rw [df_zero]
      exact Int.dvd_zero _
    · rw [df_pascal]
      exact Int.dvd_add h (q m)
    · rw [df_pascal] at h
      exact (Int.dvd_add_left (q m)).mp h
def C (m : Int) (k : Nat) : Int := df m k / fac k
theorem C_mul (m : Int) (k : Nat) : fac k * C m k = df m k := Int.mul_ediv_cancel' (df_dvd k m)
theorem C_step (m : Int) (k : Nat) : ((k : Int) + 1) * C m (k + 1) = C m k * (m - (k : Int)) := by
  have h1 := C_mul m (k + 1)
  have h2 := C_mul m k
  refine Int.eq_of_mul_eq_mul_left (Int.ne_of_gt (fac_pos k)) ?_
  rw [← Int.mul_assoc, ← Int.mul_assoc, h2]
  exact h1
theorem C_next (m : Int) (k : Nat) : C m k * (m - (k : Int)) / ((k : Int) + 1) = C m (k + 1) := by
  rw [← C_step]
  exact Int.mul_ediv_cancel_left _ (by omega)
theorem C_zero (m : Int) : C m 0 = 1 := rfl
theorem C_pascal (m : Int) (k : Nat) : C (m + 1) (k + 1) = C m (k + 1) + C m k := by
  refine Int.eq_of_mul_eq_mul_left (Int.ne_of_gt (fac_pos (k + 1))) ?_
  rw [Int.mul_add, C_mul, C_mul, df_pascal]
  congr 1
  show _ = fac k * ((k : Int) + 1) * C m k
  rw [Int.mul_assoc, Int.mul_comm ((k : Int) + 1) (C m k), ← Int.mul_assoc, C_mul, Int.mul_comm]
theorem C_none (k : Nat) : C 0 (k + 1) = 0 := by
  show df 0 (k + 1) / _ = 0
  rw [df_zero]
  exact Int.zero_ediv _
theorem C_small : ∀ (n k : Nat), n < k → C (n : Int) k = 0
  | 0, 0, h => absurd h (by decide)
  | 0, k + 1, _ => C_none k
  | n + 1, 0, h => absurd h (by omega)
  | n + 1, k + 1, h => by
    have := C_pascal (n : Int) k
    rw [show ((n + 1 : Nat) : Int) = (n : Int) + 1 by omega, this, C_small n (k + 1) (by omega), C_small n k (by omega)]
    rfl
/-! ### sums of the first terms -/
def S : Nat → (Nat → Int) → Int
  | 0, _ => 0
  | n + 1, f => S n f + f n
theorem S_congr {f g : Nat → Int} : ∀ {n : Nat}, (∀ k, k < n → f k = g k) → S n f = S n g
  | 0, _ => rfl
  | n + 1, h => by
    show S n f + f n = S n g + g n
    rw [S_congr fun k hk => h k (Nat.lt_succ_of_lt hk), h n (Nat.lt_succ_self n)]
theorem S_add (f g : Nat → Int) : ∀ n, S n (fun k => f k + g k) = S n f + S n g
  | 0 => rfl
  | n + 1 => by
    show S n _ + (f n + g n) = S n f + f n + (S n g + g n)
    rw [S_add f g n]
    omega
theorem S_zero : ∀ n, S n (fun _ => 0) = 0
  | 0 => rfl
  | n + 1 => by
    show S n _ + 0 = 0
    rw [S_zero n]
    rfl
theorem S_mul (c : Int) (f : Nat → Int) : ∀ n, S n (fun k => c * f k) = c * S n f
  | 0 => (Int.mul_zero c).symm
  | n + 1 => by
    show S n _ + c * f n = c * (S n f + f n)
    rw [S_mul c f n, Int.mul_add]
theorem S_left (f : Nat → Int) : ∀ n, S (n + 1) f = f 0 + S n fun k => f (k + 1)
  | 0 => by
    show 0 + f 0 = f 0 + 0
    omega
  | n + 1 => by
    show S (n + 1) f + f (n + 1) = f 0 + (S n _ + f (n + 1))
    rw [S_left f n]
    omega
theorem S_swap (f : Nat → Nat → Int) (m : Nat) : ∀ n, S n (fun i => S m fun j => f i j) = S m fun j => S n fun i => f i j
  | 0 => (S_zero m).symm
  | n + 1 => by
    show S n _ + S m _ = S m fun j => S n (fun i => f i j) + f n j
    rw [S_swap f m n, S_add]
theorem S_one (f : Nat → Int) {i : Nat} : ∀ {n : Nat}, i < n → S n (fun k => if k = i then f k else 0) = f i
  | 0, h => absurd h (Nat.not_lt_zero _)
  | n + 1, h => by
    show (S n fun k => if k = i then f k else 0) + (if n = i then f n else 0) = f i
    by_cases e : n = i
    · subst e
      rw [if_pos rfl, S_congr (g := fun _ => 0) fun k hk => if_neg (by omega), S_zero]
      omega
    · rw [if_neg e, S_one f (show i < n by omega)]
      omega
theorem S_trunc {f g : Nat → Int} {n : Nat} : ∀ {m : Nat}, n ≤ m → (∀ k, k < n → f k = g k) → (∀ k, n ≤ k → k < m → f k = 0) → S m f = S n g
  | 0, h, _, _ => by
    rw [Nat.le_zero.mp h]
    rfl
  | m + 1, h, a, b => by
    by_cases e : n = m + 1
    · subst e
      exact S_congr a
    · show S m f + f m = _
      rw [b m (by omega) (Nat.lt_succ_self m), Int.add_zero]
      exact S_trunc (by omega) a fun k h1 h2 => b k h1 (by omega)
/-! ### runs acting on counts -/
section
variable {α : Type} [DecidableEq α]
/-- how many letters at the end of a beginning are x -/
def st (p : List α) (x : α) : Nat → Nat
  | 0 => 0
  | j + 1 => if p[j]? = some x then st p x j + 1 else 0
theorem st_le (p : List α) (x : α) : ∀ j, st p x j ≤ j
  | 0 => Nat.le_refl _
  | j + 1 => by
    show (if p[j]? = some x then st p x j + 1 else 0) ≤ j + 1
    have := st_le p x j
    split <;> omega
/-- the counts behind a run -/
def act (p : List α) (x : α) (m : Int) (v : Nat → Int) (j : Nat) : Int := S (st p x j + 1) fun k => C m k * v (j - k)
def nb (p : List α) (x : α) (v : Nat → Int) : Nat → Int
  | 0 => 0
  | j + 1 => if p[j]? = some x then v j else 0
theorem act_succ (p : List α) (x : α) (m : Int) (v : Nat → Int) (j : Nat) : act p x (m + 1) v j = act p x m v j + nb p x (act p x m v) j := by
  cases j with
  | zero =>
    show 0 + C (m + 1) 0 * v (0 - 0) = 0 + C m 0 * v (0 - 0) + 0
    rw [C_zero, C_zero]
    omega
  | succ j =>
    show (S ((if p[j]? = some x then st p x j + 1 else 0) + 1) fun k => C (m + 1) k * v (j + 1 - k)) = (S ((if p[j]? = some x then st p x j + 1 else 0) + 1) fun k => C m k * v (j + 1 - k)) + if p[j]? = some x then (S (st p x j + 1) fun k => C m k * v (j - k)) else 0
    by_cases h : p[j]? = some x
    · rw [if_pos h, if_pos h, S_left (fun k => C (m + 1) k * v (j + 1 - k)), S_left (fun k => C m k * v (j + 1 - k))]
      have e : (S (st p x j + 1) fun k => C (m + 1) (k + 1) * v (j + 1 - (k + 1))) = (S (st p x j + 1) fun k => C m (k + 1) * v (j + 1 - (k + 1))) + S (st p x j + 1) fun k => C m k * v (j - k) := by
        rw [← S_add]
        refine S_congr fun k _ => ?_
        rw [C_pascal, Int.add_mul, show j + 1 - (k + 1) = j - k by omega]
      rw [e, C_zero, C_zero]
      omega
    · rw [if_neg h, if_neg h, Int.add_zero]
      show 0 + C (m + 1) 0 * _ = 0 + C m 0 * _
      rw [C_zero, C_zero]
theorem act_zero (p : List α) (x : α) (v : Nat → Int) : act p x 0 v = v := funext fun j => by
  unfold act
  rw [S_left, S_congr (g := fun _ => 0) fun k _ => by rw [C_none, Int.zero_mul], S_zero, C_zero, Int.one_mul, Int.add_zero]
  rfl
theorem nb_inj {p : List α} {x : α} {v w : Nat → Int} (h : ∀ j, v j + nb p x v j = w j + nb p x w j) : v = w := funext fun j => by
  induction j with
  | zero =>
    have this : v 0 + 0 = w 0 + 0 := h 0
    omega
  | succ j ih =>
    have this : v (j + 1) + (if p[j]? = some x then v j else 0) = w (j + 1) + if p[j]? = some x then w j else 0 := h (j + 1)
    rw [ih] at this
    omega
theorem act_add (p : List α) (x : α) (n : Int) (v : Nat → Int) : ∀ m : Int, act p x m (act p x n v) = act p x (n + m) v := by
  refine int_ind ?_ (fun m h => ?_) fun m h => ?_
  · rw [act_zero, Int.add_zero]
  · funext j
    rw [act_succ, h, ← Int.add_assoc, act_succ]
  · refine nb_inj (p := p) (x := x) fun j => ?_
    rw [← act_succ, ← act_succ, h, Int.add_assoc]
/-- what rows of runs do -/
def A (p : List α) (l : List (α × Int)) (v : Nat → Int) : Nat → Int := l.foldl (fun v q => act p q.1 q.2 v) v
theorem A_app (p : List α) (l k : List (α × Int)) (v : Nat → Int) : A p (l ++ k) v = A p k (A p l v) := List.foldl_append
theorem A_one (p : List α) (q : α × Int) (v : Nat → Int) : A p [q] v = act p q.1 q.2 v := rfl
theorem A_push (p : List α) (q : α × Int) (r : List (α × Int)) (v : Nat → Int) : A p (Wm.push q r).reverse v = act p q.1 q.2 (A p r.reverse v) := by
  have z : ∀ w : Nat → Int, q.2 = 0 → act p q.1 q.2 w = w := fun w h => by rw [h, act_zero]
  cases r with
  | nil =>
    show A p (if q.2 = 0 then [] else [q]).reverse v = _
    by_cases h : q.2 = 0
    · rw [if_pos h, z _ h]
    · rw [if_neg h]
      rfl
  | cons u t =>
    show A p (if q.2 = 0 then u :: t else if u.1 = q.1 then (if u.2 + q.2 = 0 then t else (u.1, u.2 + q.2) :: t) else q :: u :: t).reverse v = _
    by_cases h : q.2 = 0
    · rw [if_pos h, z _ h]
    · rw [if_neg h]
      by_cases e : u.1 = q.1
      · rw [if_pos e, List.reverse_cons, A_app, A_one, ← e, act_add]
        by_cases f : u.2 + q.2 = 0
        · rw [if_pos f, f, act_zero]
        · rw [if_neg f, List.reverse_cons, A_app, A_one]
      · rw [if_neg e, List.reverse_cons (a := q), A_app, A_one]
theorem A_joint (p : List α) (v : Nat → Int) : ∀ (l r : List (α × Int)), A p (Wm.joint r l).reverse v = A p l (A p r.reverse v)
  | [], r => rfl
  | q :: l, r => by
    show A p (Wm.joint (Wm.push q r) l).reverse v = _
    rw [A_joint p v l, A_push]
    rfl
/-- the row undone -/
def un (l : List (α × Int)) : List (α × Int) := l.reverse.map fun q => (q.1, -q.2)
theorem A_un (p : List α) : ∀ (l : List (α × Int)) (v : Nat → Int), A p (un l) (A p l v) = v
  | [], v => rfl
  | q :: l, v => by
    have e : un (q :: l) = un l ++ [(q.1, -q.2)] := by
      unfold un
      rw [List.reverse_cons, List.map_append]
      rfl
    rw [e, A_app, show A p (q :: l) v = A p l (act p q.1 q.2 v) from rfl, A_un p l, A_one, act_add]
    show act p q.1 (q.2 + -q.2) v = v
    rw [Int.add_right_neg, act_zero]
/-! ### counts in parts -/
def e (i t : Nat) : Int := if t = i then 1 else 0
theorem act_lin (p : List α) (x : α) (m : Int) (v : Nat → Int) {j n : Nat} (h : j < n) : act p x m v j = S n fun i => v i * act p x m (e i) j := by
  unfold act
  have : ∀ i, (v i * S (st p x j + 1) fun k => C m k * e i (j - k)) = S (st p x j + 1) fun k => v i * (C m k * e i (j - k)) := fun i => (S_mul _ _ _).symm
  rw [S_congr (g := fun i => S (st p x j + 1) fun k => v i * (C m k * e i (j - k))) fun i _ => this i, S_swap]
  refine S_congr fun k _ => ?_
  have h2 : ∀ i, v i * (C m k * e i (j - k)) = if i = j - k then (fun i => C m k * v i) i else 0 := fun i => by
    unfold e
    by_cases q : j - k = i
    · rw [if_pos q, if_pos q.symm, Int.mul_one, Int.mul_comm]
    · rw [if_neg q, if_neg fun z => q z.symm, Int.mul_zero, Int.mul_zero]
  rw [S_congr fun i _ => h2 i]
  exact (S_one (fun i => C m k * v i) (show j - k < n by omega)).symm
theorem A_lin (p : List α) : ∀ (l : List (α × Int)) (v : Nat → Int) {j n : Nat}, j < n → A p l v j = S n fun i => v i * A p l (e i) j
  | [], v, j, n, h => by
    have h2 : ∀ i, v i * e i j = if i = j then v i else 0 := fun i => by
      unfold e
      by_cases q : j = i
      · rw [if_pos q, if_pos q.symm, Int.mul_one]
      · rw [if_neg q, if_neg fun z => q z.symm, Int.mul_zero]
    show v j = S n fun i => v i * e i j
    rw [S_congr fun i _ => h2 i]
    exact (S_one v h).symm
  | q :: l, v, j, n, h => by
    show A p l (act p q.1 q.2 v) j = S n fun i => v i * A p l (act p q.1 q.2 (e i)) j
    rw [A_lin p l _ h]
    have h1 : ∀ t, t < n → act p q.1 q.2 v t * A p l (e t) j = S n fun i => v i * (act p q.1 q.2 (e i) t * A p l (e t) j) := fun t ht => by
      rw [act_lin p q.1 q.2 v ht, Int.mul_comm, ← S_mul]
      refine S_congr fun i _ => ?_
      rw [Int.mul_comm, Int.mul_assoc]
    rw [S_congr h1, S_swap]
    refine S_congr fun i _ => ?_
    rw [S_mul, ← A_lin p l (act p q.1 q.2 (e i)) h]
theorem st_drop (p : List α) (x : α) (j : Nat) : ∀ i, st (p.drop j) x i = min (st p x (j + i)) i
  | 0 => (Nat.min_zero _).symm
  | i + 1 => by
    show (if (p.drop j)[i]? = some x then st (p.drop j) x i + 1 else 0) = min (if p[j + i]? = some x then st p x (j + i) + 1 else 0) (i + 1)
    rw [List.getElem?_drop, st_drop p x j i]
    split <;> omega
theorem act_drop (p : List α) (x : α) (m : Int) {v w : Nat → Int} {j : Nat} (h0 : ∀ t, t < j → v t = 0) (h1 : ∀ i, w i = v (j + i)) : (∀ t, t < j → act p x m v t = 0) ∧ ∀ i, act (p.drop j) x m w i = act p x m v (j + i) := by
  refine ⟨fun t ht => ?_, fun i => ?_⟩
  · unfold act
    rw [S_congr (g := fun _ => 0) fun k _ => by rw [h0 _ (by omega), Int.mul_zero], S_zero]
  · unfold act
    rw [st_drop]
    have l1 := st_le p x (j + i)
    refine (S_trunc (n := min (st p x (j + i)) i + 1) (by omega) (fun k hk => ?_) fun k h2 h3 => ?_).symm
    · rw [h1, show j + i - k = j + (i - k) by omega]
    · rw [h0 _ (by omega), Int.mul_zero]
theorem A_drop (p : List α) {j : Nat} : ∀ (l : List (α × Int)) {v w : Nat → Int}, (∀ t, t < j → v t = 0) → (∀ i, w i = v (j + i)) → ∀ i, A (p.drop j) l w i = A p l v (j + i)
  | [], _, _, _, h1, i => h1 i
  | q :: l, v, w, h0, h1, i => by
    obtain ⟨a, b⟩ := act_drop p q.1 q.2 h0 h1
    exact A_drop p l a b i
/-- the count behind is the sum over the cuts of the pattern -/
theorem A_cut (p : List α) (l : List (α × Int)) (v : Nat → Int) (n : Nat) : A p l v n = S (n + 1) fun j => v j * A (p.drop j) l (e 0) (n - j) := by
  rw [A_lin p l v (Nat.lt_succ_self n)]
  refine S_congr fun j hj => ?_
  rw [A_drop p l (v := e j) (w := e 0) (j := j) (fun t ht => if_neg (by omega)) (fun i => ?_), show j + (n - j) = n by omega]
  unfold e
  by_cases q : i = 0
  · rw [if_pos q, if_pos (by omega)]
  · rw [if_neg q, if_neg (by omega)]
/-! ### beginnings -/
theorem st_take (p : List α) (x : α) (n : Nat) : ∀ i, i ≤ n → st (p.take n) x i = st p x i
  | 0, _ => rfl
  | i + 1, h => by
    show (if (p.take n)[i]? = some x then st (p.take n) x i + 1 else 0) = _
    rw [List.getElem?_take, if_pos (show i < n by omega), st_take p x n i (by omega)]
    rfl
theorem A_take (p : List α) (n : Nat) : ∀ (l : List (α × Int)) {v w : Nat → Int}, (∀ i, i ≤ n → v i = w i) → ∀ i, i ≤ n → A (p.take n) l v i = A p l w i
  | [], _, _, h, i, hi => h i hi
  | q :: l, v, w, h, i, hi => by
    refine A_take p n l (fun j hj => ?_) i hi
    show (S (st (p.take n) q.1 j + 1) fun k => C q.2 k * v (j - k)) = S (st p q.1 j + 1) fun k => C q.2 k * w (j - k)
    rw [st_take p q.1 n j hj]
    exact S_congr fun k _ => by rw [h _ (by omega)]
/-! ### powers of one letter -/
theorem st_rep (x : α) (n : Nat) : ∀ i, i ≤ n → st (List.replicate n x) x i = i
  | 0, _ => rfl
  | i + 1, h => by
    show (if (List.replicate n x)[i]? = some x then st (List.replicate n x) x i + 1 else 0) = i + 1
    rw [List.getElem?_replicate, if_pos (show i < n by omega), if_pos rfl, st_rep x n i (by omega)]
theorem act_rep (x : α) (m : Int) (n : Nat) : act (List.replicate n x) x m (e 0) n = C m n := by
  unfold act
  rw [st_rep x n n (Nat.le_refl _)]
  have h : ∀ k, k < n + 1 → C m k * e 0 (n - k) = if k = n then C m k else 0 := fun k hk => by
    unfold e
    by_cases q : k = n
    · rw [if_pos q, if_pos (by omega), Int.mul_one]
    · rw [if_neg q, if_neg (by omega), Int.mul_zero]
  rw [S_congr h]
  exact S_one (fun k => C m k) (Nat.lt_succ_self n)
/-! ### one letter -/
theorem act_letter (p : List α) (x : α) (v : Nat → Int) (j : Nat) : act p x 1 v j = v j + nb p x v j := by
  have := act_succ p x 0 v j
  rw [act_zero] at this
  exact this
/-! ### bounds -/
theorem df_bd (m : Int) : ∀ k, (df m k).natAbs ≤ (m.natAbs + k) ^ k
  | 0 => Nat.le_refl _
  | k + 1 => by
    show (df m k * (m - (k : Int))).natAbs ≤ _
    rw [Int.natAbs_mul, Nat.pow_succ]
    have h1 := df_bd m k
    have h2 : (m.natAbs + k) ^ k ≤ (m.natAbs + (k + 1)) ^ k := Nat.pow_le_pow_left (by omega) k
    exact Nat.mul_le_mul (Nat.le_trans h1 h2) (by omega)
theorem C_bd (m : Int) (k : Nat) : (C m k).natAbs ≤ (m.natAbs + k) ^ k := by
  refine Nat.le_trans ?_ (df_bd m k)
  rw [← C_mul, Int.natAbs_mul]
  have := fac_pos k
  exact Nat.le_mul_of_pos_left _ (by omega)
theorem S_bd {f : Nat → Int} {B : Nat} : ∀ {n : Nat}, (∀ k, k < n → (f k).natAbs ≤ B) → (S n f).natAbs ≤ n * B
  | 0, _ => by
    show 0 ≤ _
    exact Nat.zero_le _
  | n + 1, h => by
    show (S n f + f n).natAbs ≤ _
    rw [Nat.succ_mul]
    have h1 := S_bd fun k hk => h k (Nat.lt_succ_of_lt hk)
    have h2 := h n (Nat.lt_succ_self n)
    omega
theorem act_bd {p : List α} {x : α} {m : Int} {v : Nat → Int} {n V M : Nat} (hm : m.natAbs ≤ M) (hv : ∀ i, i ≤ n → (v i).natAbs ≤ V) {j : Nat} (hj : j ≤ n) : (act p x m v j).natAbs ≤ (n + 1) * ((M + n) ^ n * V) := by
  unfold act
  have hs := st_le p x j
  have q : (S (st p x j + 1) fun k => C m k * v (j - k)).natAbs ≤ (st p x j + 1) * ((M + n) ^ n * V) := by
    refine S_bd fun k hk => ?_
    rw [Int.natAbs_mul]
    refine Nat.mul_le_mul (Nat.le_trans (C_bd m k) ?_) (hv _ (by omega))
    refine Nat.le_trans (Nat.pow_le_pow_left (show m.natAbs + k ≤ M + n by omega) k) ?_
    by_cases z : M + n = 0
    · have : k = 0 := by omega
      subst this
      have : n = 0 := by omega
      subst this
      exact Nat.le_refl _
    · exact Nat.pow_le_pow_right (by omega) (by omega)
  exact Nat.le_trans q (Nat.mul_le_mul (by omega) (Nat.le_refl _))
theorem A_bd {p : List α} {n M : Nat} : ∀ {l : List (α × Int)} {v : Nat → Int} {V : Nat}, (∀ q ∈ l, q.2.natAbs ≤ M) → (∀ i, i ≤ n → (v i).natAbs ≤ V) → ∀ j, j ≤ n → (A p l v j).natAbs ≤ ((n + 1) * (M + n) ^ n) ^ l.length * V
  | [], v, V, _, hv, j, hj => by
    show (v j).natAbs ≤ _
    rw [List.length_nil, Nat.pow_zero, Nat.one_mul]
    exact hv j hj
  | q :: l, v, V, hm, hv, j, hj => by
    have h1 := fun i hi => act_bd (p := p) (x := q.1) (hm q List.mem_cons_self) hv (j := i) hi
    have h2 := A_bd (p := p) (l := l) (fun u hu => hm u (List.mem_cons_of_mem _ hu)) h1 j hj
    refine Nat.le_trans h2 (Nat.le_of_eq ?_)
    rw [List.length_cons, Nat.pow_succ, Nat.mul_assoc, Nat.mul_assoc]
end
end Bm

set_option Elab.async false
set_option linter.all false
set_option maxRecDepth 100000
set_option maxHeartbeats 6400000
namespace K4
open PySem L2 Tx Tg Tm
/-! ### numbers of choices -/
abbrev intsV (l : List Int) : List V := l.map V.int
theorem intsV_app (l k : List Int) : intsV (l ++ k) = intsV l ++ intsV k := List.map_append
theorem c_lt {m : Int} {k : Nat} (hm : m.natAbs ≤ 10 ^ 40) (hk : k ≤ 12) : (Bm.C m k).natAbs < 2 ^ 1700 := by
  have h1 := Bm.C_bd m k
  have h2 : (m.natAbs + k) ^ k ≤ (10 ^ 41) ^ 12 := Nat.le_trans (Nat.pow_le_pow_left (show _ ≤ 10 ^ 41 by omega) k) (Nat.pow_le_pow_right (by decide) hk)
  exact Nat.lt_of_le_of_lt (Nat.le_trans h1 h2) (by decide +kernel)
theorem less_lt {m : Int} {k : Nat} (hm : m.natAbs ≤ 10 ^ 40) (hk : k ≤ 12) : (m - (k : Int)).natAbs < 2 ^ 140 := by
  have h1 : (10 ^ 40 : Nat) + 12 < 2 ^ 140 := by decide +kernel
  omega
def chs (m : Int) (n : Nat) : List Int := (List.range (n + 1)).map (Bm.C m)
theorem chs_len (m : Int) (n : Nat) : (chs m n).length = n + 1 := by
  unfold chs
  rw [List.length_map, List.length_range]
theorem chs_at {m : Int} {n k : Nat} (h : k ≤ n) : (chs m n)[k]? = some (Bm.C m k) := by
  unfold chs
  rw [List.getElem?_map, List.getElem?_range (by omega)]
  rfl
theorem chs_succ (m : Int) (n : Nat) : chs m (n + 1) = chs m n ++ [Bm.C m (n + 1)] := by
  unfold chs
  rw [List.range_succ (n := n + 1), List.map_append]
  rfl
section
variable {P : Program} {w : World} {K : PySem.W.Frag} {mg : Str → Option Value} {base : Heap} {fI fB fN : Addr} {dI dB dN : FuncData}
abbrev nBinoms : List Str := ["number", "size", "found", "below"]
def spBinoms : Sp := fun vs H Q _ => ∃ (m : Int) (n : Nat), vs = [.int m, .int n] ∧ m.natAbs ≤ 10 ^ 40 ∧ n ≤ 12 ∧ ∀ p H', Same H H' → H' p = some (.tup (intsV (chs m n))) → Q (.ref p) H'
abbrev nChoose : List Str := ["_law_much", "_law_few", "_law_found", "_law_turn"]
def spChoose : Sp := fun vs H Q _ => ∃ (m : Int) (n : Nat), vs = [.int m, .int n] ∧ m.natAbs ≤ 10 ^ 40 ∧ n ≤ 12 ∧ Q (.int (Bm.C m n)) H
end
end K4

set_option Elab.async false
set_option linter.all false
set_option maxRecDepth 100000
set_option maxHeartbeats 6400000
namespace K4
open PySem L2 Tx Tg Tm
/-! ### the beginnings of a pattern, their places, chains -/
theorem cut_to {z : Str} (i : Nat) : cds (cutS z none (some (i : Int))) = (cds z).take i := by
  unfold cutS
  show (((cds z).drop (HT.sIx z.length 0 none)).take (HT.sIx z.length z.length (some (i : Int)) - HT.sIx z.length 0 none)) = _
  rw [HT.sIx_none, HT.sIx_nat, List.drop_zero, Nat.sub_zero]
  by_cases h : i ≤ z.length
  · rw [Nat.min_eq_left h]
  · rw [Nat.min_eq_right (by omega), List.take_of_length_le (by rw [cds_len]; exact Nat.le_refl _), List.take_of_length_le (by rw [cds_len]; omega)]
abbrev bgn (z : Str) (k : Nat) : Str := tx ((cds z).take k)
def bgs (z : Str) : List Str := (List.range (z.length + 1)).map (bgn z)
theorem bgn_len {z : Str} {k : Nat} (h : k ≤ z.length) : (bgn z k).length = k := by
  rw [tx_len, List.length_take, cds_len]
  omega
theorem bgn_inj {z : Str} {i k : Nat} (hi : i ≤ z.length) (hk : k ≤ z.length) (e : bgn z i = bgn z k) : i = k := by
  have := congrArg Str.length e
  rwa [bgn_len hi, bgn_len hk] at this
theorem bgs_len (z : Str) : (bgs z).length = z.length + 1 := by
  unfold bgs
  rw [List.length_map, List.length_range]
theorem bgs_at {z : Str} {k : Nat} (h : k ≤ z.length) : (bgs z)[k]? = some (bgn z k) := by
  unfold bgs
  rw [List.getElem?_map, List.getElem?_range (by omega)]
  rfl
theorem bgs_get {z : Str} {k : Nat} (h : k ≤ z.length) : (bgs z).getD k "" = bgn z k := by
  rw [List.getD_eq_getElem?_getD, bgs_at h]
  rfl
theorem bgs_nd (z : Str) : (bgs z).Nodup := by
  unfold bgs
  rw [List.nodup_iff_pairwise_ne, List.pairwise_map]
  exact List.Pairwise.imp_of_mem (fun {a b} ha hb (h : a < b) e => by
    have := bgn_inj (by have := List.mem_range.mp ha; omega) (by have := List.mem_range.mp hb; omega) e
    omega) List.pairwise_lt_range
theorem leK_short {a b : Str} (h : a.length < b.length) : leK a b = true := by
  have e1 : leK a b = !PySem.W.dataLt (keyD b) (keyD a) := rfl
  have e2 : PySem.W.dataLt (keyD b) (keyD a) = false := by
    show PySem.W.dataLt (.tuple [.int b.length, .str b]) (.tuple [.int a.length, .str a]) = false
    rw [PySem.W.dataLt_pair (by simp only [PySem.W.alike]) (by simp only [PySem.W.alike])]
    have hne : PyData.eqv (.int (b.length : Int)) (.int (a.length : Int)) = false := by
      simp only [PyData.eqv]
      exact decide_eq_false (by omega)
    rw [hne, PySem.W.dataLt_int]
    exact decide_eq_false (by omega)
  rw [e1, e2]
  rfl
theorem bgs_sorted (z : Str) : (bgs z).mergeSort leK = bgs z := by
  refine List.mergeSort_of_pairwise ?_
  unfold bgs
  rw [List.pairwise_map]
  exact List.Pairwise.imp_of_mem (fun {a b} ha hb (h : a < b) => leK_short (by
    rw [bgn_len (by have := List.mem_range.mp ha; omega), bgn_len (by have := List.mem_range.mp hb; omega)]
    exact h)) List.pairwise_lt_range
def kvB (z : Str) (n : Nat) : List (Key × V) := (List.range n).map fun k => ((Sum.inr (bgn z k) : Key), V.bl true)
theorem kvB_len (z : Str) (n : Nat) : (kvB z n).length = n := by
  unfold kvB
  rw [List.length_map, List.length_range]
theorem kvB_put {z : Str} {i : Nat} (h : i ≤ z.length) : putK (kvB z i) (Sum.inr (bgn z i)) (V.bl true) = kvB z (i + 1) := by
  rw [Lc.putK_app]
  · unfold kvB
    rw [List.range_succ, List.map_append]
    rfl
  · unfold kvB
    rw [List.map_map]
    intro hm
    obtain ⟨k, hk, e⟩ := List.mem_map.mp hm
    have hk := List.mem_range.mp hk
    have e : bgn z k = bgn z i := by injection e
    have := bgn_inj (z := z) (by omega) h e
    omega
theorem cut_bgn (z : Str) (i : Nat) : cutS z none (some (i : Int)) = bgn z i := by
  show _ = tx ((cds z).take i)
  rw [← cut_to]
  exact (tx_cds _).symm
section
variable {P : Program} {w : World} {K : PySem.W.Frag} {mg : Str → Option Value} {base : Heap} {fO fT fC fN fS : Addr} {dO dT dC dN dS : FuncData}
abbrev nStarts : List Str := ["patterns", "starts", "pattern", "end"]
def spStarts (K : PySem.W.Frag) : Sp := fun vs H Q _ => ∃ (a : Addr) (z : Str), vs = [.ref a] ∧ H a = some (.lst [V.str z]) ∧ z.length ≤ 12 ∧ ∀ p H', Same H H' → H' p = some (.tup ((bgs z).map V.str)) → Q (.ref p) H'
end
end K4

set_option Elab.async false
set_option linter.all false
set_option maxRecDepth 100000
set_option maxHeartbeats 1600000
namespace K4
open PySem L2 Tx Tg Tm
/-! ### how long the stretch of a letter at the end is -/
abbrev pl (z : Str) : List Str := (cds z).map one
theorem pl_len (z : Str) : (pl z).length = z.length := by
  rw [List.length_map, cds_len]
theorem pl_at {z : Str} {k : Nat} (h : k < z.length) : (pl z)[k]? = some (one ((cds z).getD k 0)) := by
  rw [List.getElem?_map, List.getElem?_eq_getElem (by rw [cds_len]; exact h), List.getD_eq_getElem?_getD, List.getElem?_eq_getElem (by rw [cds_len]; exact h)]
  rfl
theorem st_is {α : Type} [DecidableEq α] {p : List α} {x : α} {m : Nat} (h2 : m = 0 ∨ p[m - 1]? ≠ some x) : ∀ j, m ≤ j → (∀ k, m ≤ k → k < j → p[k]? = some x) → Bm.st p x j = j - m
  | 0, h, _ => by
    show 0 = 0 - m
    omega
  | j + 1, h, h1 => by
    rcases Nat.lt_or_ge m (j + 1) with lt | ge
    · have ih := st_is h2 j (by omega) fun k a b => h1 k a (by omega)
      show (if p[j]? = some x then Bm.st p x j + 1 else 0) = _
      rw [if_pos (h1 j (by omega) (by omega)), ih]
      omega
    · obtain rfl : m = j + 1 := by omega
      show (if p[j]? = some x then Bm.st p x j + 1 else 0) = _
      rcases h2 with z | z
      · cases z
      · rw [show j + 1 - 1 = j by omega] at z
        rw [if_neg z]
        omega
theorem bgn_getD {z : Str} {j k : Nat} (h : k < j) : (bgn z j).cps.getD k 0 = (cds z).getD k 0 := by
  rw [← PyProof.Rows.getD_list]
  show ((cds z).take j).getD k 0 = _
  rw [List.getD_eq_getElem?_getD, List.getElem?_take, if_pos h, List.getD_eq_getElem?_getD]
theorem one_has (c y : Nat) : (one c).cps.contains y = decide (y = c) := by
  show Array.contains #[c] y = _
  by_cases h : y = c
  · subst h
    simp
  · rw [decide_eq_false h]
    simpa using h
theorem rstrip_len {z : Str} {j c : Nat} (hj : j ≤ z.length) : (Txt.rstripChars (bgn z j) (one c)).length = j - Bm.st (pl z) (one c) j := by
  have hl := bgn_len hj
  obtain ⟨_, h1, h2, h3⟩ := PyProof.Rows.hi_facts (one c).cps.contains (bgn z j) 0 (Nat.zero_le _)
  have e1 : Txt.rstripChars (bgn z j) (one c) = PySem.Builtin.Str.strSub (bgn z j) 0 (stripHi (one c).cps.contains true (bgn z j) 0) := by
    show Txt.stripBy _ _ _ _ = _
    rw [PyProof.Rows.stripBy_eq]
    rfl
  rw [e1, size_strSub _ _ _ h1, Nat.sub_zero]
  generalize stripHi (one c).cps.contains true (bgn z j) 0 = m at h1 h2 h3
  rw [hl] at h1 h2
  have := st_is (p := pl z) (x := one c) (m := m) ?_ j h1 ?_
  · rw [this]
    omega
  · rcases h3 with h3 | h3
    · exact .inl h3
    · rcases Nat.eq_zero_or_pos m with z0 | pos
      · exact .inl z0
      · refine .inr fun e => ?_
        rw [pl_at (by omega)] at e
        have e := one_inj (Option.some.inj e)
        rw [bgn_getD (by omega), one_has, e] at h3
        rw [decide_eq_true rfl] at h3
        cases h3
  · intro k a b
    have := h2 k a b
    rw [bgn_getD b, one_has] at this
    rw [pl_at (by omega), of_decide_eq_true this]
end K4

set_option Elab.async false
set_option linter.all false
set_option maxRecDepth 100000
set_option maxHeartbeats 6400000
namespace K4
open PySem L2 Tx Tg Tm RZ
/-! ### counts in nothing, chains -/
theorem bgn_empty {z : Str} {k : Nat} (h : k ≤ z.length) : bgn z k = "" ↔ k = 0 := by
  constructor
  · intro e
    have := congrArg Str.length e
    rw [bgn_len h] at this
    exact this
  · rintro rfl
    rfl
abbrev none0 (n : Nat) : List Int := (List.range (n + 1)).map (Bm.e 0)
def plc (z : Str) : List (Key × V) := (List.range (z.length + 1)).map fun i => ((Sum.inr (bgn z i) : Key), V.int i)
abbrev stq (z : Str) (c k : Nat) : Nat := Bm.st (pl z) (one c) k
def rw1 (z : Str) (c j : Nat) : List Int := (List.range (stq z c j + 1)).map fun t => ((j - t : Nat) : Int)
def chU (z : Str) (c n : Nat) : List (List Int) := ((List.range n).filter fun j => decide (0 < stq z c j)).map (rw1 z c)
abbrev chn (z : Str) (c : Nat) : List (List Int) := chU z c (z.length + 1)
theorem chU_succ (z : Str) (c n : Nat) : chU z c (n + 1) = if 0 < stq z c n then chU z c n ++ [rw1 z c n] else chU z c n := by
  unfold chU
  rw [List.range_succ, List.filter_append, List.map_append]
  by_cases h : 0 < stq z c n
  · rw [if_pos h, List.filter_cons, if_pos (decide_eq_true h)]
    rfl
  · rw [if_neg h, List.filter_cons, if_neg (by simpa using h)]
    exact List.append_nil _
theorem chU_few (z : Str) (c n : Nat) : (chU z c n).length ≤ n := by
  unfold chU
  rw [List.length_map]
  exact Nat.le_trans (List.length_filter_le _ _) (by rw [List.length_range]; exact Nat.le_refl _)
theorem each_monoM {α β : Type} {R R' : α → β → Prop} : ∀ {as : List α} {bs : List β}, (∀ a b, a ∈ as → R a b → R' a b) → PySem.W.EachIs R as bs → PySem.W.EachIs R' as bs
  | _, _, _, .nil => .nil
  | _, _, h, .cons r rs => .cons (h _ _ List.mem_cons_self r) (each_monoM (fun a b m => h a b (List.mem_cons_of_mem _ m)) rs)
/-- a list of lists of numbers -/
def ChAt (H : Hp) (L : Addr) (cs : List (List Int)) : Prop := ∃ ps : List Addr, H L = some (.lst (ps.map V.ref)) ∧ PySem.W.EachIs (fun p l => H p = some (.lst (intsV l))) ps cs
theorem ChAt.same {H H' : Hp} {L : Addr} {cs : List (List Int)} (s : Same H H') : ChAt H L cs → ChAt H' L cs := fun ⟨ps, e, h⟩ => ⟨ps, s _ _ e, PySem.W.EachIs.mono (fun _ _ q => s _ _ q) h⟩
theorem valV_mem : ∀ {kvs : List (Key × V)} {k : Key} {v : V}, (kvs.map (·.1)).Nodup → (k, v) ∈ kvs → valV kvs k = some v
  | [], _, _, _, h => by cases h
  | p :: r, k, v, nd, h => by
    rw [List.map_cons, List.nodup_cons] at nd
    rcases List.mem_cons.mp h with h | h
    · rw [valV_pos (by rw [← h]), ← h]
    · rw [valV_neg (fun e => nd.1 (List.mem_map.mpr ⟨_, h, e.symm⟩))]
      exact valV_mem nd.2 h
theorem val_plc {z : Str} {k : Nat} (h : k ≤ z.length) : valV (plc z) (Sum.inr (bgn z k) : Key) = some (V.int k) := by
  have nd : ((plc z).map (·.1)).Nodup := by
    unfold plc
    rw [List.map_map, List.nodup_iff_pairwise_ne, List.pairwise_map]
    refine List.Pairwise.imp_of_mem (fun {a b} ha hb (lt : a < b) e => ?_) List.pairwise_lt_range
    have e : bgn z a = bgn z b := by injection e
    have := bgn_inj (by have := List.mem_range.mp ha; omega) (by have := List.mem_range.mp hb; omega) e
    omega
  exact valV_mem nd (List.mem_map.mpr ⟨k, List.mem_range.mpr (by omega), rfl⟩)
section
variable {P : Program} {w : World} {K : PySem.W.Frag} {mg : Str → Option Value} {base : Heap} {fO fT fC fN fS : Addr} {dO dT dC dN dS : FuncData}
abbrev nNothing : List Str := ["starts", "start"]
def spNothing : Sp := fun vs H Q _ => ∃ (a : Addr) (z : Str), vs = [.ref a] ∧ H a = some (.tup ((bgs z).map V.str)) ∧ z.length ≤ 12 ∧ ∀ p H', Same H H' → H' p = some (.lst (intsV (none0 z.length))) → Q (.ref p) H'
abbrev nChains : List Str := ["place", "letter", "chains", "start", "stretch", "taken"]
def spChains : Sp := fun vs H Q _ => ∃ (d : Addr) (z : Str) (c : Nat), vs = [.ref d, .str (one c)] ∧ H d = some (.dK (plc z)) ∧ z.length ≤ 12 ∧ ∀ p H', Same H H' → ChAt H' p (chn z c) → Q (.ref p) H'
end
end K4

set_option Elab.async false
set_option linter.all false
set_option maxRecDepth 100000
set_option maxHeartbeats 6400000
namespace K4
open PySem L2 Tx Tg Tm RZ
/-! ### counts in runs -/
theorem S_list (f : Nat → Int) : ∀ n, ((List.range n).map f).sum = Bm.S n f
  | 0 => rfl
  | n + 1 => by
    rw [List.range_succ, List.map_append, List.sum_append, S_list f n]
    show _ + (f n + 0) = Bm.S n f + f n
    rw [Int.add_zero]
theorem act_cut {α : Type} [DecidableEq α] {p : List α} {x : α} {m : Int} {v : Nat → Int} {j n Lg : Nat} (h1 : Bm.st p x j ≤ Lg) (h2 : n = Lg ∨ 0 ≤ m ∧ n = min Lg m.toNat) : Bm.S (min (n + 1) (Bm.st p x j + 1)) (fun t => Bm.C m t * v (j - t)) = Bm.act p x m v j := by
  unfold Bm.act
  refine (Bm.S_trunc (Nat.min_le_right _ _) (fun _ _ => rfl) fun k ha hb => ?_).symm
  rcases h2 with rfl | ⟨hm, rfl⟩
  · omega
  · obtain ⟨q, rfl⟩ : ∃ q : Nat, m = (q : Int) := ⟨m.toNat, by omega⟩
    rw [Bm.C_small q k (by omega), Int.zero_mul]
theorem mx_fold_ge : ∀ (ns : List Int) (n : Int), n ≤ ns.foldl (fun a y => if y > a then y else a) n ∧ ∀ y ∈ ns, y ≤ ns.foldl (fun a y => if y > a then y else a) n
  | [], n => ⟨Int.le_refl _, nofun⟩
  | y :: ns, n => by
    obtain ⟨h1, h2⟩ := mx_fold_ge ns (if y > n then y else n)
    rw [List.foldl_cons]
    refine ⟨?_, fun x hx => ?_⟩
    · exact Int.le_trans (by split <;> omega) h1
    · rcases List.mem_cons.mp hx with rfl | hx
      · exact Int.le_trans (by split <;> omega) h1
      · exact h2 x hx
theorem mx_fold_le {B : Int} : ∀ (ns : List Int) (n : Int), n ≤ B → (∀ y ∈ ns, y ≤ B) → ns.foldl (fun a y => if y > a then y else a) n ≤ B
  | [], n, h, _ => h
  | y :: ns, n, h, k => by
    rw [List.foldl_cons]
    refine mx_fold_le ns _ ?_ fun x hx => k x (List.mem_cons_of_mem _ hx)
    have := k y List.mem_cons_self
    split <;> omega
theorem mx_ge {k : Int} {ns : List Int} : ∀ y ∈ ns, y ≤ LiV.mxD k ns := by
  cases ns with
  | nil => exact nofun
  | cons n ns =>
    intro y hy
    obtain ⟨h1, h2⟩ := mx_fold_ge ns n
    rcases List.mem_cons.mp hy with rfl | hy
    · exact h1
    · exact h2 y hy
theorem mx_le {k B : Int} {ns : List Int} (hk : k ≤ B) (h : ∀ y ∈ ns, y ≤ B) : LiV.mxD k ns ≤ B := by
  cases ns with
  | nil => exact hk
  | cons n ns => exact mx_fold_le ns n (h n List.mem_cons_self) fun y hy => h y (List.mem_cons_of_mem _ hy)
theorem mx_low {k a : Int} {ns : List Int} (hk : a ≤ k) (h : ∀ y ∈ ns, a ≤ y) : a ≤ LiV.mxD k ns := by
  cases ns with
  | nil => exact hk
  | cons n ns => exact Int.le_trans (h n List.mem_cons_self) (mx_ge n List.mem_cons_self)
theorem range_set {β : Type} (f : Nat → β) (y : β) {j N : Nat} : ((List.range N).map f).set j y = (List.range N).map fun i => if i = j then y else f i := by
  refine List.ext_getElem? fun i => ?_
  rw [List.getElem?_set]
  by_cases hi : i < N
  · rw [List.getElem?_map, List.getElem?_map, List.getElem?_range hi, List.length_map, List.length_range]
    by_cases e : j = i
    · subst e
      rw [if_pos rfl, if_pos hi]
      show _ = some (if j = j then y else f j)
      rw [if_pos rfl]
    · rw [if_neg e]
      show some (f i) = some (if i = j then y else f i)
      rw [if_neg (fun q => e q.symm)]
  · have e1 : (List.range N)[i]? = none := List.getElem?_eq_none (by rw [List.length_range]; omega)
    rw [List.getElem?_map, List.getElem?_map, e1, List.length_map, List.length_range]
    by_cases e : j = i
    · rw [if_pos e, if_neg (by omega)]
      rfl
    · rw [if_neg e]
      rfl
theorem putK_few (kvs : List (Key × V)) (k : Key) (v : V) : (putK kvs k v).length ≤ kvs.length + 1 := by
  unfold putK
  split
  · rw [List.length_map]
    omega
  · rw [List.length_append]
    exact Nat.le_refl _
theorem ChAt.putD {H : Hp} {L D : Addr} {cs : List (List Int)} {kvs : List (Key × V)} {o : HO} (hD : H D = some (.dK kvs)) : ChAt H L cs → ChAt (upd H D o) L cs := fun ⟨ps, e, h⟩ => by
  refine ⟨ps, ?_, PySem.W.EachIs.mono (fun p l q => ?_) h⟩
  · rw [upd_ne (fun z => by rw [z, hD] at e; cases e)]
    exact e
  · rw [upd_ne (fun z => by rw [z, hD] at q; cases q)]
    exact q
theorem each_atP {α β : Type} {R : α → β → Prop} : ∀ {ps : List α} {as : List β}, PySem.W.EachIs R ps as → ∀ {i : Nat} {x : α} {y : β}, ps[i]? = some x → as[i]? = some y → R x y
  | _, _, .nil, _, _, _, h, _ => by cases h
  | _, _, .cons r rs, 0, _, _, h, k => by
    cases h
    cases k
    exact r
  | _, _, .cons r rs, i + 1, _, _, h, k => each_atP rs (i := i) h k
theorem ixN_nat {n j : Nat} (h : j < n) : ixN n (j : Int) = some j := by
  unfold ixN
  rw [if_pos (by omega), if_pos (by omega)]
  rfl
theorem two {a b : TS} {D : Ends} {σ : L2.St} {H : Hp} (I : L2.St → Hp → Prop) (hb : ∀ σ H, I σ H → b D σ H) (ha : (∀ σ H, I σ H → b D σ H) → tSeq a b D σ H) : tSeq a b D σ H := ha hb
abbrev flt (z : Str) (c : Nat) : List Nat := (List.range (z.length + 1)).filter fun j => decide (0 < stq z c j)
theorem chn_is (z : Str) (c : Nat) : chn z c = (flt z c).map (rw1 z c) := rfl
theorem big_A {z : Str} {l : Row} {j : Nat} (hz : z.length ≤ 12) (hl : l.length ≤ 60) (hm : ∀ p ∈ l, p.2.natAbs ≤ 10 ^ 5) (hj : j ≤ z.length) : (Bm.A (pl z) l (Bm.e 0) j).natAbs < 2 ^ 44000 := by
  have h1 := Bm.A_bd (p := pl z) (n := z.length) (M := 10 ^ 5) (l := l) (v := Bm.e 0) (V := 1) hm (fun i _ => by unfold Bm.e; split <;> decide) j hj
  rw [Nat.mul_one] at h1
  have h2 : (z.length + 1) * (10 ^ 5 + z.length) ^ z.length ≤ 10 ^ 74 := by
    have a1 : (10 ^ 5 + z.length) ^ z.length ≤ (10 ^ 6) ^ 12 := Nat.le_trans (Nat.pow_le_pow_left (show _ ≤ 10 ^ 6 by omega) _) (Nat.pow_le_pow_right (by decide) hz)
    exact Nat.le_trans (Nat.mul_le_mul (show _ ≤ 13 by omega) a1) (by decide +kernel)
  have h3 : ((z.length + 1) * (10 ^ 5 + z.length) ^ z.length) ^ l.length ≤ (10 ^ 74) ^ 60 := Nat.le_trans (Nat.pow_le_pow_left h2 _) (Nat.pow_le_pow_right (Nat.pos_of_ne_zero (by decide +kernel)) hl)
  exact Nat.lt_of_le_of_lt (Nat.le_trans h1 h3) (by decide +kernel)
def kvI (z : Str) (f : Nat → Int) (n : Nat) : List (Key × V) := (List.range n).map fun k => ((Sum.inr (bgn z k) : Key), V.int (f k))
theorem kvI_put {z : Str} {f : Nat → Int} {i : Nat} (h : i ≤ z.length) : putK (kvI z f i) (Sum.inr (bgn z i)) (V.int (f i)) = kvI z f (i + 1) := by
  rw [Lc.putK_app]
  · unfold kvI
    rw [List.range_succ, List.map_append]
    rfl
  · unfold kvI
    rw [List.map_map]
    intro hm
    obtain ⟨k, hk, e⟩ := List.mem_map.mp hm
    have hk := List.mem_range.mp hk
    have e : bgn z k = bgn z i := by injection e
    have := bgn_inj (z := z) (by omega) h e
    omega
/-- the dict of chains -/
def Chs (H : Hp) (kvs : List (Key × V)) (z : Str) (l : Row) : Prop := ∀ p ∈ l, ∃ (L : Addr) (c : Nat), p.1 = one c ∧ valV kvs (Sum.inr p.1 : Key) = some (.ref L) ∧ ChAt H L (chn z c)
section
variable {P : Program} {w : World} {K : PySem.W.Frag} {mg : Str → Option Value} {base : Heap} {fB fC fN : Addr} {dB dC dN : FuncData}
abbrev nIR : List Str := ["starts", "runs", "place", "chains", "counts", "letter", "exponent", "longest", "ways", "behind", "chain", "at", "start", "_", "way"]
def spIR (K : PySem.W.Frag) : Sp := fun vs H Q _ => ∃ (a r : Addr) (z : Str) (l : Row), vs = [.ref a, .ref r] ∧ H a = some (.tup ((bgs z).map V.str)) ∧ TupRow K H r l ∧ z.length ≤ 12 ∧ (∀ p ∈ l, (∃ c, p.1 = one c) ∧ p.2.natAbs ≤ 10 ^ 5) ∧ l.length ≤ 60 ∧
  ∀ p H', Same H H' → H' p = some (.dK (kvI z (Bm.A (pl z) l (Bm.e 0)) (z.length + 1))) → Q (.ref p) H'
end
end K4

set_option Elab.async false
set_option linter.all false
set_option maxRecDepth 100000
set_option maxHeartbeats 6400000
namespace K4
open PySem L2 Tx Tg Tm RZ
/-! ### beginnings, count -/
/-- rows that may be counted in -/
structure Rl (l : Row) : Prop where
  let1 : ∀ p ∈ l, (∃ c, p.1 = one c) ∧ p.2.natAbs ≤ 10 ^ 5
  few : l.length ≤ 60
abbrev cntA (z : Str) (l : Row) : Nat → Int := Bm.A (pl z) l (Bm.e 0)
def cnts (z : Str) (l : Row) : List Int := (List.range (z.length + 1)).map (cntA z l)
section
variable {P : Program} {w : World} {K : PySem.W.Frag} {mg : Str → Option Value} {base : Heap} {CM CW fL fR pL pR fW fP fS fI fB : Addr} {dL dR dW dP dS dI dB : FuncData}
abbrev nBegin : List Str := ["word", "pattern", "counts"]
def spBegin (K : PySem.W.Frag) (CW : Addr) : Sp := fun vs H Q _ => ∃ (b : Addr) (sg z : Str) (l : Row), vs = [.ref b, .str z] ∧ WordAt K CW H b sg l ∧ Signs sg ∧ Over sg z ∧ z.length ≤ 12 ∧ Rl l ∧ ∀ p H', Same H H' → H' p = some (.tup (intsV (cnts z l))) → Q (.ref p) H'
abbrev nCount : List Str := ["word", "pattern"]
def spCount (K : PySem.W.Frag) (CW : Addr) : Sp := fun vs H Q _ => ∃ (b : Addr) (sg z : Str) (l : Row), vs = [.ref b, .str z] ∧ WordAt K CW H b sg l ∧ Signs sg ∧ Over sg z ∧ z.length ≤ 12 ∧ Rl l ∧ ∀ H', Same H H' → Q (.int (cntA z l z.length)) H'
end
end K4

set_option Elab.async false
set_option linter.all false
set_option maxRecDepth 100000
set_option maxHeartbeats 6400000
namespace K4
open PySem L2 Tx Tg Tm RZ
theorem pl_some {z : Str} {i c : Nat} : (pl z)[i]? = some (one c) ↔ (cds z)[i]? = some c := by
  rw [List.getElem?_map]
  cases (cds z)[i]? with
  | none => exact ⟨fun h => (nomatch h), fun h => (nomatch h)⟩
  | some d => exact ⟨fun h => congrArg some (one_inj (Option.some.inj h)), fun h => congrArg (fun o => Option.map one o) h⟩
/-! ### the law's own count -/
theorem none_row (n : Nat) : [V.int 1] ++ intsV (List.replicate n 0) = intsV ((List.range (n + 1)).map (Bm.e 0)) := by
  have e : (List.range (n + 1)).map (Bm.e 0) = 1 :: List.replicate n 0 := by
    have h1 : (List.range n).map (fun k => Bm.e 0 (k + 1)) = List.replicate n 0 := List.eq_replicate_iff.mpr ⟨by rw [List.length_map, List.length_range], fun b hb => by
      obtain ⟨k, _, rfl⟩ := List.mem_map.mp hb
      exact if_neg (Nat.succ_ne_zero k)⟩
    rw [← h1, List.range_succ_eq_map, List.map_cons, List.map_map]
    rfl
  rw [e]
  rfl
section
variable {P : Program} {w : World} {K : PySem.W.Frag} {mg : Str → Option Value} {base : Heap} {fC fB : Addr} {dC dB : FuncData}
abbrev nBehind : List Str := ["_law_known", "_law_piece", "_law_sign", "_law_much", "_law_later", "_law_at", "_law_found", "_law_few"]
def spBehind : Sp := fun vs H Q _ => ∃ (a : Addr) (y : Str) (c : Nat) (m : Int) (v : Nat → Int), vs = [.ref a, .str y, .str (one c), .int m] ∧ H a = some (.lst (intsV ((List.range (y.length + 1)).map v))) ∧ y.length ≤ 12 ∧ m.natAbs ≤ 10 ^ 5 ∧ (∀ j, j ≤ y.length → (v j).natAbs < 2 ^ 44000) ∧
  ∀ p H', Same H H' → H' p = some (.lst (intsV ((List.range (y.length + 1)).map (Bm.act (pl y) (one c) m v)))) → Q (.ref p) H'
abbrev nLC : List Str := ["_law_row", "_law_piece", "_law_known", "_law_sign", "_law_much"]
def spLC (K : PySem.W.Frag) : Sp := fun vs H Q _ => ∃ (r : Addr) (y : Str) (l : Row), vs = [.ref r, .str y] ∧ TupRow K H r l ∧ y.length ≤ 12 ∧ Rl l ∧ ∀ H', Same H H' → Q (.int (cntA y l y.length)) H'
end
end K4

set_option Elab.async false
set_option linter.all false
set_option maxRecDepth 100000
set_option maxHeartbeats 6400000
namespace K4
open PySem L2 Tx Tg Tm
/-! ### brackets -/
theorem pl_take {l : Row} (h : Pl l) (i : Nat) : Pl (l.take i) := fun p hp => h p (List.mem_of_mem_take hp)
def brackL (l k : Row) : Row := rowOf (l ++ k ++ undo l ++ undo k)
abbrev sBrack : Stmt := wdef 14
abbrev sLike : Stmt := wdef 17
section
variable {P : Program} {w : World} {K : PySem.W.Frag} {mg : Str → Option Value} {base : Heap}
def spRow2 (K : PySem.W.Frag) (B : Nat) (g : Row → Row → Row) : Sp := fun vs H Q _ => ∃ (a b : Addr) (l k : Row), vs = [.ref a, .ref b] ∧ TupRow K H a l ∧ TupRow K H b k ∧ l.length ≤ B ∧ k.length ≤ B ∧ Pl l ∧ Pl k ∧ ∀ p H', Same H H' → TupRow K H' p (g l k) → Q (.ref p) H'
theorem scBracket : FnScope ["one", "other"] ["one", "other"] (defScope sBRuns) := ⟨rfl, rfl, rfl, by decide +kernel, rfl, by decide +kernel, by decide +kernel⟩
theorem ok_bracket {f fJ fU : Addr} {fd fdJ fdU : FuncData} (F : Fun K "bracket_runs" "bracket_runs" sBRuns f fd) (T : Txt K mg) (DJ : Df K mg "joined_runs" sJoin ["pairs"] fJ fdJ) (DU : Df K mg "undone_runs" sUndo ["runs"] fU fdU) :
    FnOk P w K mg base CX0 2 f fd ["one", "other"] (spRow2 K 100000 brackL) := by
  have GJ := ok_join' (P := P) (w := w) (base := base) DJ.F T
  have GU := ok_undone (P := P) (w := w) (base := base) DU.F T
  refine F.ok scBracket (fun vs H Q E h => ?_) (fun cdv A outer s H vs Q E hr h => ?_)
  · obtain ⟨a, b, l, k, rfl, _⟩ := h
    rfl
  · obtain ⟨a, b, l, k, rfl, ha, hb, hl, hk, pl, pk, q⟩ := h
    refine ⟨_, pss_one (ps_ret (pe_call GJ hr (by rfl) DJ.m DJ.F.kp DJ.b .nil pass0 (pa_cons (pe_op op_catRow (pe_op op_catRow (pe_op op_catRow (pv 0) (pv 1))
      (pe_call GU hr (by rfl) DU.m DU.F.kp DU.b .nil pass0 (pa_cons (pv 0) pa_nil))) (pe_call GU hr (by rfl) DU.m DU.F.kp DU.b .nil pass0 (pa_cons (pv 1) pa_nil))) pa_nil))), ?_⟩
    refine ⟨_, rfl, _, rfl, a, b, l, k, rfl, rfl, ha, hb, by omega, fun p1 H1 s1 h1 => ?_⟩
    refine ⟨_, rfl, a, l, rfl, ha.same s1, by omega, fun p2 H2 s2 h2 => ?_⟩
    refine ⟨p1, p2, _, _, rfl, rfl, h1.same s2, h2, by rw [List.length_append, undo_len]; omega, fun p3 H3 s3 h3 => ?_⟩
    refine ⟨_, rfl, b, k, rfl, hb.same ((s1.trans s2).trans s3), by omega, fun p4 H4 s4 h4 => ?_⟩
    have hlen : (l ++ k ++ undo l).length + (undo k).length ≤ 400000 := by
      rw [List.length_append, List.length_append, undo_len, undo_len]
      omega
    refine ⟨p3, p4, _, _, rfl, rfl, h3.same s4, h4, by omega, fun p5 H5 s5 h5 => ?_⟩
    refine ⟨p5, _, rfl, h5, by rw [List.length_append]; omega, fun p6 H6 s6 h6 => ?_⟩
    exact q p6 H6 (((((s1.trans s2).trans s3).trans s4).trans s5).trans s6) h6
def spLike (K : PySem.W.Frag) (CW : Addr) : Sp := fun vs H Q _ => ∃ (a b : Addr) (sg : Str) (l k : Row), vs = [.ref a, .ref b] ∧ WordAt K CW H a sg l ∧ WordAt K CW H b sg k ∧ Q .non H
theorem scLike : FnScope ["self", "other"] ["self", "other"] (defScope sLike) := ⟨rfl, rfl, rfl, by decide +kernel, rfl, by decide +kernel, by decide +kernel⟩
theorem ok_like {CM CW f fC : Addr} {fd fdC : FuncData} (F : Fun K "_check_like" "Word._check_like" sLike f fd) (T : Txt K mg) (W : WF K mg CM CW) (DC : Df K mg "check_word" sCheckWord ["value"] fC fdC) : FnOk P w K mg base CX0 2 f fd ["self", "other"] (spLike K CW) := by
  have G := ok_cw (P := P) (w := w) (base := base) DC.F T W
  refine F.ok scLike (fun vs H Q E h => ?_) (fun cdv A outer s H vs Q E hr h => ?_)
  · obtain ⟨a, b, sg, l, k, rfl, _⟩ := h
    rfl
  · obtain ⟨a, b, sg, l, k, rfl, ⟨da, pa, ha, hl⟩, ⟨db, pb, hb, hk⟩, q⟩ := h
    refine ⟨_, pss_cons (ps_expr (pe_call G hr (by rfl) DC.m DC.F.kp DC.b .nil pass0 (pa_cons (pv 1) pa_nil)))
      (pss_one (ps_if (pt_cmpR op_ne (pe_fld (pv 1) rfl) (pe_fld (pv 0) rfl) (nomark _)) (pss_one ps_never) pss_nil)), ?_⟩
    refine ⟨_, rfl, b, sg, k, rfl, ⟨db, pb, hb, hk⟩, ?_⟩
    refine ⟨_, rfl, b, CW, db, _, _, rfl, hb, W.clW, W.nL, rfl, _, rfl, a, CW, da, _, _, rfl, ha, W.clW, W.nL, rfl, rfl, _, rfl, ?_⟩
    rw [decide_eq_true rfl]
    exact iteF q
def spW2 (K : PySem.W.Frag) (CW : Addr) (g : Row → Row → Row) : Sp := fun vs H Q _ => ∃ (a b : Addr) (sg : Str) (l k : Row), vs = [.ref a, .ref b] ∧ Signs sg ∧ WordAt K CW H a sg l ∧ WordAt K CW H b sg k ∧ l.length ≤ 100 ∧ k.length ≤ 100 ∧ Pl l ∧ Pl k ∧ (g l k).length ≤ 200 ∧
  ∀ x H', Same H H' → WordAt K CW H' x sg (g l k) → Q (.ref x) H'
theorem scBrack : FnScope ["self", "other"] ["self", "other"] (defScope sBrack) := ⟨rfl, rfl, rfl, by decide +kernel, rfl, by decide +kernel, by decide +kernel⟩
theorem ok_brackm {CM CW fMI fWI f fB fK : Addr} {dMI dWI fd fdB fdK : FuncData} (F : Fun K "bracket" "Word.bracket" sBrack f fd) (T : Txt K mg) (G : Makes4 P w K mg base CM CW fMI fWI dMI dWI) (DB : Df K mg "bracket_runs" sBRuns ["one", "other"] fB fdB)
    (GB : FnOk P w K mg base CX0 2 fB fdB ["one", "other"] (spRow2 K 100000 brackL)) (GK : FnOk P w K mg base CX0 2 fK fdK ["self", "other"] (spLike K CW)) (mK : Meth K CW "_check_like" fK) (bK : Binds K fdK ["self", "other"] []) : FnOk P w K mg base CX0 6 f fd ["self", "other"] (spW2 K CW brackL) := by
  refine F.ok scBrack (fun vs H Q E h => ?_) (fun cdv A outer s H vs Q E hr h => ?_)
  · obtain ⟨a, b, sg, l, k, rfl, _⟩ := h
    rfl
  · obtain ⟨a, b, sg, l, k, rfl, hsg, ⟨da, pa, ha, hl⟩, ⟨db, pb, hb, hk⟩, ll, lk, pl, pk, lr, q⟩ := h
    have r2 : Room 2 _ := hr.mono (by decide)
    refine ⟨_, pss_cons (ps_expr (pe_meth (pv 0) G.W.clW mK GK r2 bK .nil pass0 (pa_cons (pv 1) pa_nil)))
      (pss_one (ps_ret (pe_make G.mW G.gWI hr (by rfl) G.W.gW G.bWI .nil pass0 (pa_cons (pe_fld (pv 0) rfl) (pa_cons (pe_make G.mM G.gMI r2 (by rfl) G.W.gM G.bMI .nil pass0
        (pa_cons (pe_call GB r2 (by rfl) DB.m DB.F.kp DB.b .nil pass0 (pa_cons (pe_fld (pv 0) rfl) (pa_cons (pe_fld (pv 1) rfl) pa_nil))) pa_nil)) pa_nil))))), ?_⟩
    refine ⟨_, rfl, a, da, _, rfl, ha, rfl, _, rfl, a, b, sg, l, k, rfl, ⟨da, pa, ha, hl⟩, ⟨db, pb, hb, hk⟩, ?_⟩
    refine ⟨_, rfl, a, CW, da, _, _, rfl, ha, G.W.clW, G.W.nL, rfl, ?_⟩
    refine ⟨_, rfl, a, CW, da, _, _, rfl, ha, G.W.clW, G.W.nR, rfl, _, rfl, b, CW, db, _, _, rfl, hb, G.W.clW, G.W.nR, rfl, ?_⟩
    refine ⟨pa, pb, l, k, rfl, hl, hk, by omega, by omega, pl, pk, fun p1 H1 s1 h1 => ?_⟩
    have e1 : (brackL l k).length ≤ 100000 := by omega
    have e2 : rowOf (brackL l k) = brackL l k := by
      unfold rowOf brackL
      have hr0 : Wm.Red (Wm.joint [] (l ++ k ++ undo l ++ undo k)) := Wm.red_joint (r := ([] : Row)) trivial
      show (Wm.joint [] (rowOf (l ++ k ++ undo l ++ undo k))).reverse = rowOf (l ++ k ++ undo l ++ undo k)
      unfold rowOf
      rw [Wm.joint_self hr0]
    refine made_word G hsg h1 e1 (by rw [e2]; exact lr) fun x H' s h => ?_
    rw [e2] at h
    exact q x H' (s1.trans s) h
end
end K4

set_option Elab.async false
set_option linter.all false
set_option maxRecDepth 100000
set_option maxHeartbeats 6400000
namespace K4
open PySem L2 Tx Tg Tm
/-! ### all texts, the leading ones -/
def growL (sg : Str) (l : List Str) : List Str := l.flatMap fun t => (cds sg).map fun c => t ++ one c
def lays (sg : Str) : Nat → List Str × List Str
  | 0 => ([""], [""])
  | n + 1 => ((lays sg n).1 ++ growL sg (lays sg n).2, growL sg (lays sg n).2)
def allT (sg : Str) (n : Nat) : List Str := (lays sg n).1
def Bd (sg : Str) (n : Nat) : Bool := decide ((lays sg n).1.length ≤ 400) && decide ((lays sg n).2.length ≤ 400) && (lays sg n).1.all (fun t => decide (t.length ≤ 5)) && (lays sg n).2.all (fun t => decide (t.length ≤ 5))
theorem bd_all {sg : Str} (h : Signs sg) : ∀ n ≤ 5, Bd sg n = true := by
  have go : ∀ z ∈ (["ab", "xy", "a", "abc"] : List Str), ∀ n ∈ List.range 6, Bd z n = true := by decide +kernel
  intro n hn
  refine go sg ?_ n (List.mem_range.mpr (by omega))
  rcases h with rfl | rfl | rfl | rfl <;> simp
structure BdP (sg : Str) (n : Nat) : Prop where
  a : (lays sg n).1.length ≤ 400
  b : (lays sg n).2.length ≤ 400
  c : ∀ t ∈ (lays sg n).1, t.length ≤ 5
  d : ∀ t ∈ (lays sg n).2, t.length ≤ 5
theorem bdp {sg : Str} (h : Signs sg) {n : Nat} (hn : n ≤ 5) : BdP sg n := by
  have q := bd_all h n hn
  simp only [Bd, Bool.and_eq_true, decide_eq_true_eq, List.all_eq_true] at q
  exact ⟨q.1.1.1, q.1.1.2, q.1.2, q.2⟩
theorem growL_take {sg : Str} {l : List Str} {i : Nat} {t : Str} (h : l[i]? = some t) : growL sg (l.take (i + 1)) = growL sg (l.take i) ++ (cds sg).map fun c => t ++ one c := by
  unfold growL
  rw [List.take_add_one, h, List.flatMap_append]
  simp
theorem growL_len (sg : Str) (l : List Str) : (growL sg l).length = l.length * (cds sg).length := by
  unfold growL
  induction l with
  | nil => simp
  | cons t l ih => rw [List.flatMap_cons, List.length_append, ih, List.length_map, List.length_cons, Nat.add_mul, Nat.one_mul, Nat.add_comm]
theorem sg_short {sg : Str} (h : Signs sg) : sg.length ≤ 3 := by
  rcases h with rfl | rfl | rfl | rfl <;> decide +kernel
abbrev txs (l : List Str) : List V := l.map V.str
abbrev nTexts : List Str := ["letters", "size", "found", "longest", "_", "text", "letter"]
def endLess (z : Str) (i : Nat) : Bool := decide (z.cps.toList < (cutS z (some (1 + (i : Int))) none).cps.toList)
def leastB (z : Str) : Bool := ((List.range (z.length - 1)).map (endLess z)).all id
def leadsP (sg : Str) (n : Nat) : List Str := ((allT sg n).drop 1).filter leastB
theorem lead_mem {sg : Str} (h : Signs sg) {n : Nat} (hn : n ≤ 5) {z : Str} (hz : z ∈ leadsP sg n) : z.length ≤ 5 := by
  unfold leadsP at hz
  exact (bdp h hn).c z (List.mem_of_mem_drop (List.mem_filter.mp hz).1)
theorem lead_len {sg : Str} (h : Signs sg) {n : Nat} (hn : n ≤ 5) : (leadsP sg n).length ≤ 400 := by
  unfold leadsP
  refine Nat.le_trans (List.length_filter_le _ _) ?_
  rw [List.length_drop]
  have := (bdp h hn).a
  show (lays sg n).1.length - 1 ≤ 400
  omega
theorem lead_pos {sg : Str} (h : Signs sg) {n : Nat} (hn : n ≤ 5) : ∀ z ∈ (allT sg n).drop 1, 1 ≤ z.length := by
  have go : ∀ z ∈ (["ab", "xy", "a", "abc"] : List Str), ∀ n ∈ List.range 6, ((allT z n).drop 1).all (fun t => decide (1 ≤ t.length)) = true := by decide +kernel
  intro z hz
  have q := go sg (by rcases h with rfl | rfl | rfl | rfl <;> simp) n (List.mem_range.mpr (by omega))
  exact of_decide_eq_true (List.all_eq_true.mp q z hz)
def lineL (sg : Str) : Nat → List Str
  | 0 => []
  | n + 1 => lineL sg n ++ growL sg (lays sg n).2
theorem lays_line (sg : Str) : ∀ n, (lays sg n).1 = ("" : Str) :: lineL sg n
  | 0 => rfl
  | n + 1 => by
    show (lays sg n).1 ++ growL sg (lays sg n).2 = ("" : Str) :: (lineL sg n ++ growL sg (lays sg n).2)
    rw [lays_line sg n]
    rfl
theorem line_drop (sg : Str) (n : Nat) : (allT sg n).drop 1 = lineL sg n := by
  show (lays sg n).1.drop 1 = _
  rw [lays_line]
  rfl
theorem line_len {sg : Str} (h : Signs sg) {n : Nat} (hn : n ≤ 5) : (lineL sg n).length ≤ 400 := by
  have := (bdp h hn).a
  rw [lays_line, List.length_cons] at this
  omega
theorem line_pos {sg : Str} (h : Signs sg) {n : Nat} (hn : n ≤ 5) {z : Str} (hz : z ∈ lineL sg n) : 1 ≤ z.length := lead_pos h hn z (by rw [line_drop]; exact hz)
theorem line_five {sg : Str} (h : Signs sg) {n : Nat} (hn : n ≤ 5) {z : Str} (hz : z ∈ lineL sg n) : z.length ≤ 5 := (bdp h hn).c z (by rw [lays_line]; exact List.mem_cons_of_mem _ hz)
def laterL (z : Str) (i : Nat) : List Int := ((List.range i).filter fun i => !endLess z i).map fun i => (1 : Int) + (i : Nat)
def lawLead (z : Str) : Bool := decide (z ≠ "") && leastB z
theorem later_nil (z : Str) : decide (laterL z (z.length - 1) = []) = leastB z := by
  unfold laterL leastB
  rw [Bool.eq_iff_iff, decide_eq_true_eq, List.map_eq_nil_iff, List.filter_eq_nil_iff, List.all_eq_true]
  simp
theorem laterL_succ (z : Str) (i : Nat) : laterL z (i + 1) = laterL z i ++ if endLess z i = true then [] else [(1 : Int) + (i : Nat)] := by
  unfold laterL
  rw [List.range_succ, List.filter_append, List.map_append]
  cases h : endLess z i <;> simp [h]
theorem laterL_len (z : Str) (i : Nat) : (laterL z i).length ≤ i := by
  unfold laterL
  rw [List.length_map]
  refine Nat.le_trans (List.length_filter_le _ _) ?_
  rw [List.length_range]
  exact Nat.le_refl _
theorem lead_line {z : Str} (h : 1 ≤ z.length) : lawLead z = leastB z := by
  unfold lawLead
  have : z ≠ "" := fun e => by
    rw [e] at h
    revert h
    decide +kernel
  rw [decide_eq_true this, Bool.true_and]
theorem leads_line {sg : Str} (h : Signs sg) {n : Nat} (hn : n ≤ 5) : (lineL sg n).filter lawLead = leadsP sg n := by
  unfold leadsP
  rw [line_drop]
  exact List.filter_congr fun z hz => lead_line (line_pos h hn hz)
theorem all_ints (K : PySem.W.Frag) (H : Hp) : ∀ l : List Int, DpAll K H (l.map V.int) (l.map PyData.int)
  | [] => .nil
  | c :: l => .cons (.int _) (all_ints K H l)
theorem eqv_nilI : ∀ l : List Int, PyData.eqv (.list (l.map PyData.int)) (.list []) = decide (l = [])
  | [] => rfl
  | c :: l => rfl
theorem shaped_list {ds : List PyData} (h : ∀ d ∈ ds, d.canLay0 = true ∧ d.depth ≤ 1) : SeqAt.shaped (.list ds) = true := by
  unfold SeqAt.shaped
  rw [Bool.and_eq_true]
  refine ⟨lay_flat ds fun d hd => (h d hd).1, decide_eq_true ?_⟩
  show PyData.depthAll ds + 1 ≤ 64
  have := deep_flat 1 ds fun d hd => (h d hd).2
  omega
theorem shaped_ints (l : List Int) : SeqAt.shaped (.list (l.map PyData.int)) = true := shaped_list fun d hd => by
  obtain ⟨i, _, rfl⟩ := List.mem_map.mp hd
  exact ⟨rfl, Nat.zero_le _⟩
abbrev nLines : List Str := ["_law_signs_here", "_law_deep", "_law_found", "_law_layer", "_law_turn", "_law_longer", "_law_line_here", "_law_sign"]
section
variable {P : Program} {w : World} {K : PySem.W.Frag} {mg : Str → Option Value} {base : Heap}
def spTexts : Sp := fun vs H Q _ => ∃ (sg : Str) (n : Nat), vs = [.str sg, .int n] ∧ Signs sg ∧ n ≤ 5 ∧ ∀ p H', H p = none → Same H H' → H' p = some (.tup (txs (allT sg n))) → Q (.ref p) H'
theorem scAllT : FnScope nTexts ["letters", "size"] (defScope sAll) := ⟨rfl, rfl, rfl, by decide +kernel, rfl, by decide +kernel, by decide +kernel⟩
theorem ok_texts {f : Addr} {fd : FuncData} (F : Fun K "all_texts" "all_texts" sAll f fd) (T : Txt K mg) : FnOk P w K mg base CX0 1 f fd ["letters", "size"] spTexts := by
  refine F.ok scAllT (fun vs H Q E h => ?_) (fun cdv A outer s H vs Q E hr h => ?_)
  · obtain ⟨sg, n, rfl, _⟩ := h
    rfl
  · obtain ⟨sg, n, rfl, hsg, hn, q⟩ := h
    refine ⟨_, pss_cons (ps_set (i := 2) scAllT.nd rfl (Or.inl rfl) (pe_lst (pa_cons pe_str pa_nil)))
      (pss_cons (ps_set (i := 3) scAllT.nd rfl (Or.inl rfl) (pe_lst (pa_cons pe_str pa_nil)))
      (pss_cons (ps_for PassesOwn.never rfl (pi_range1 rfl T.range (pa_cons (pv 1) pa_nil)) (pg_name (i := 4) scAllT.nd rfl (Or.inl rfl))
        (pss_cons (ps_setLc2 (i := 3) (own := [("text", 5), ("letter", 6)]) (g := gName 5) (g1 := gName 6) (tt := tYes) (tt1 := tYes) (vs1 := [6]) rfl scAllT.nd rfl rfl (by rfl) (pi_list (pv 3))
            (blkOk_by (own := [("text", 5), ("letter", 6)]) (N := nTexts) (sc := defScope sAll) (by decide +kernel)) (by decide) (fun _ _ _ _ _ => pg_name (i := 5) scAllT.nd rfl (Or.inl rfl)) (fun _ _ _ _ _ => pts_nil)
            (fun _ _ _ _ _ => pi_str (pv 0)) (fun _ _ _ _ _ => pg_name (i := 6) scAllT.nd rfl (Or.inl rfl)) (fun _ _ _ _ _ => pts_nil)
            (fun _ _ _ _ _ => pe_op op_add_str (pv 5) (pv 6)))
        (pss_one (ps_expr (pe_bm PySem.F.plainAttrs_list PySem.F.slot_list_extend PySem.F.type_list_extend mt_extend (pv 2) (pa_cons (pv 3) pa_nil))))))
      (pss_one (ps_ret (pe_callTy call_tuple_of (by rfl) T.tuple (by decide +kernel) (pa_cons (pv 2) pa_nil)))))), ?_⟩
    refine ⟨by show 1 ≤ sizeLine; decide, fun p np => ⟨by show 1 ≤ sizeLine; decide, fun p0 np0 => ?_⟩⟩
    have n01 : p ≠ p0 := ne_of_none upd_same np0
    refine ⟨_, rfl, n, rfl, by omega, by omega, for_range (n := n) (fun i σ H1 => ∃ (p1 : Addr) (t : Option V), σ = [some (.str sg), some (.int n), some (.ref p), some (.ref p1), t, none, none] ∧ Same H H1 ∧ p ≠ p1 ∧ H1 p = some (.lst (txs (lays sg i).1)) ∧ H1 p1 = some (.lst (txs (lays sg i).2)))
      ⟨p0, none, rfl, (same_upd np).trans (same_upd np0), n01, (by rw [upd_ne n01]; exact upd_same), upd_same⟩ ?_ ?_⟩
    · rintro i σ H1 hi ⟨p1, t, rfl, s1, n1, e1, e2⟩
      have B := bdp hsg (n := i) (by omega)
      have B' := bdp hsg (n := i + 1) (by omega)
      refine ⟨_, rfl, p1, rfl, ⟨_, SqL.of e2⟩, fun D hD => ?_⟩
      have nD1 : p1 ≠ D := ne_of_none e2 hD
      have nD : p ≠ D := ne_of_none e1 hD
      refine lc2_out (vs := [5, 6]) (vs1 := [6]) walk_list (fun j H2 => Same H1 H2 ∧ H2 D = some (.lst (txs (growL sg ((lays sg i).2.take j))))) ⟨same_upd hD, upd_same⟩ (fun j H2 _ z => SqL.of (z.1 _ _ e2)) ?_ ?_
      · rintro j x H2 H3 hj ⟨s2, e3⟩ ⟨rfl, hx⟩
        have hj' : j < (lays sg i).2.length := by rw [List.length_map] at hj; exact hj
        rw [List.getElem?_map] at hx
        obtain ⟨y, hy, rfl⟩ := Option.map_eq_some_iff.mp hx
        have hy5 : y.length ≤ 5 := B.d y (List.mem_of_getElem? hy)
        have hc3 : (cds sg).length ≤ 3 := by rw [cds_len]; exact sg_short hsg
        have glen : (growL sg ((lays sg i).2.take j)).length ≤ 1200 := by
          rw [growL_len, List.length_take]
          have := B.b
          exact Nat.le_trans (Nat.mul_le_mul (show min j (lays sg i).2.length ≤ 400 by omega) hc3) (by decide)
        refine ⟨rfl, iteT (B := Same H1 H3 ∧ H3 D = some (.lst (txs (growL sg ((lays sg i).2.take (j + 1)))))) ?_⟩
        refine ⟨_, rfl, sg, rfl, ?_⟩
        refine lc2_in walk_str (fun k H4 => Same H1 H4 ∧ H4 D = some (.lst (txs (growL sg ((lays sg i).2.take j) ++ ((cds sg).take k).map fun c => y ++ one c)))) ⟨s2, by rw [List.take_zero, List.map_nil, List.append_nil]; exact e3⟩ (fun _ _ _ _ => trivial) ?_ ?_
        · rintro k x H4 H5 hk ⟨s4, e4⟩ ⟨rfl, c, hc, rfl⟩
          refine ⟨rfl, iteT (B := Same H1 H5 ∧ H5 D = some (.lst (txs (growL sg ((lays sg i).2.take j) ++ ((cds sg).take (k + 1)).map fun c => y ++ one c)))) ?_⟩
          refine ⟨_, rfl, _, rfl, y, one c, rfl, rfl, ?_, ?_⟩
          · have : (one c).length = 1 := rfl
            rw [this]
            exact Nat.le_trans (show y.length + 1 ≤ 6 by omega) (by decide)
          · have hk' : (cds sg)[k]? = some c := by
              show sg.cps.toList[k]? = some c
              rw [Array.getElem?_toList]
              exact hc
            refine ⟨_, e4, ?_, same_put s4 hD, ?_⟩
            · rw [List.length_map, List.length_append, List.length_map, List.length_take]
              exact Nat.lt_of_lt_of_le (show _ < 1300 by omega) (by decide)
            · rw [upd_same, List.take_add_one, hk']
              simp
        · rintro H4 ⟨s4, e4⟩
          refine ⟨s4, ?_⟩
          rw [growL_take hy]
          have ez : (cds sg).take sg.cps.size = cds sg := List.take_of_length_le (by rw [cds_len]; exact Nat.le_refl _)
          rw [ez] at e4
          exact e4
      · rintro H2 ⟨s2, e3⟩
        have et : (lays sg i).2.take ((txs (lays sg i).2).length) = (lays sg i).2 := List.take_of_length_le (by rw [List.length_map]; exact Nat.le_refl _)
        rw [et] at e3
        refine ⟨_, rfl, .inl ⟨rfl, _, SqL.of (s2 _ _ e1)⟩, _, rfl, p, D, _, _, rfl, rfl, s2 _ _ e1, e3, ?_, ?_⟩
        · have := B'.a
          have e : (lays sg (i + 1)).1 = (lays sg i).1 ++ growL sg (lays sg i).2 := rfl
          rw [e, List.length_append] at this
          rw [List.length_map, List.length_map]
          exact Nat.le_trans this (by decide)
        · refine ⟨D, _, rfl, fun b o e => ?_, nD, ?_, ?_⟩
          · rw [upd_ne (ne_of_none e np)]
            exact s2 _ _ (s1 _ _ e)
          · rw [upd_same, ← List.map_append]
            rfl
          · rw [upd_ne nD.symm]
            exact e3
    · rintro σ H1 ⟨p1, t, rfl, s1, n1, e1, e2⟩
      refine ⟨_, rfl, p, _, rfl, .inl ⟨SqL.of e1, fun l hl => ?_⟩⟩
      refine q l _ ?_ (s1.trans (same_upd hl)) upd_same
      cases hh : H l with
      | none => rfl
      | some o =>
        have := s1 _ _ hh
        rw [hl] at this
        cases this
def spLeast : Sp := fun vs H Q _ => ∃ (z : Str), vs = [.str z] ∧ z.length ≤ 1000 ∧ ∀ H', Same H H' → Q (.bl (leastB z)) H'
theorem scLeast : FnScope ["pattern", "start"] ["pattern"] (defScope sLeast) := ⟨rfl, rfl, rfl, by decide +kernel, rfl, by decide +kernel, by decide +kernel⟩
theorem ok_least {f : Addr} {fd : FuncData} (F : Fun K "is_least_end" "is_least_end" sLeast f fd) (T : Txt K mg) : FnOk P w K mg base CX0 1 f fd ["pattern"] spLeast := by
  refine F.ok scLeast (fun vs H Q E h => ?_) (fun cdv A outer s H vs Q E hr h => ?_)
  · obtain ⟨z, rfl, _⟩ := h
    rfl
  · obtain ⟨z, rfl, hz, q⟩ := h
    refine ⟨_, pss_one (ps_ret (pe_callB (cr_all rfl) (by rfl) T.all (by decide +kernel) (pa_cons (pe_lc (own := [("start", 1)]) (g := gName 1) (tt := tYes) rfl scLeast.nd
      (pi_range2 rfl T.range (pa_cons pe_int (pa_cons (pe_callB call_len_str (by rfl) T.len PySem.boot_len (pa_cons (pv 0) pa_nil)) pa_nil)))
      (blkOk_by (own := [("start", 1)]) (N := ["pattern", "start"]) (sc := defScope sLeast) (by decide +kernel)) (fun _ _ _ _ _ => pg_name (i := 1) scLeast.nd rfl (Or.inl rfl)) (fun _ _ _ _ _ => pts_nil)
      (fun _ _ _ _ _ => pe_cmpR op_lt_str (pv 0) (pe_slice sl_str (pv 0) (po_some (pv 1)) po_none) (nomark _))) pa_nil))), ?_⟩
    have hl : z.length ≤ sizeLine := Nat.le_trans hz (by decide)
    refine ⟨_, rfl, z, rfl, hl, _, _, rfl, ⟨by omega, by omega, by omega, by omega⟩, fun D hD => ?_⟩
    have en : ((z.length : Int) - 1).toNat = z.length - 1 := by omega
    rw [en]
    refine lc_range (lo := 1) (n := z.length - 1) (fun i H1 => Same H H1 ∧ H1 D = some (.lst (((List.range i).map (endLess z)).map V.bl))) ⟨same_upd hD, upd_same⟩ ?_ ?_
    · rintro i H1 hi ⟨s1, e1⟩
      refine ⟨rfl, iteT (B := Same H H1 ∧ H1 D = some (.lst (((List.range (i + 1)).map (endLess z)).map V.bl))) ?_⟩
      refine ⟨_, rfl, _, rfl, _, rfl, _, rfl, z, rfl, hl, z, _, rfl, rfl, _, e1, ?_, same_put s1 hD, ?_⟩
      · rw [List.length_map, List.length_map, List.length_range]
        exact Nat.lt_of_lt_of_le (show i < 1000 by omega) (by decide)
      · rw [upd_same, List.range_succ, List.map_append, List.map_append]
        rfl
    · rintro H1 ⟨s1, e1⟩
      exact ⟨D, _, rfl, SqL.of e1, q _ s1⟩
def spLeads : Sp := fun vs H Q _ => ∃ (z : Str), vs = [.str z] ∧ z.length ≤ 1000 ∧ ∀ H', Same H H' → Q (.bl (lawLead z)) H'
def spLines : Sp := fun vs H Q _ => ∃ (sg : Str) (n : Nat), vs = [.str sg, .int n] ∧ Signs sg ∧ n ≤ 5 ∧ ∀ p H', H p = none → Same H H' → H' p = some (.lst (txs (lineL sg n))) → Q (.ref p) H'
def spLeaders : Sp := fun vs H Q _ => ∃ (sg : Str) (n : Nat), vs = [.str sg, .int n] ∧ Signs sg ∧ n ≤ 5 ∧ ∀ p H', H p = none → Same H H' → H' p = some (.lst (txs (leadsP sg n))) → Q (.ref p) H'
end
end K4

set_option Elab.async false
/-! texts that lead: least of all their ends; the loop that cuts a text into them -/
namespace Ly
/-- from x on the text is less than from y on, with a difference ahead of e -/
def D (p : Nat → Nat) (x y e : Nat) : Prop := ∃ t, y + t < e ∧ (∀ i, i < t → p (x + i) = p (y + i)) ∧ p (x + t) < p (y + t)
/-- the part from a to b leads -/
def L (p : Nat → Nat) (a b : Nat) : Prop := a < b ∧ ∀ k, a < k → k < b → D p a k b
theorem L_one (p : Nat → Nat) (a : Nat) : L p a (a + 1) := ⟨Nat.lt_succ_self a, fun k h1 h2 => absurd h2 (by omega)⟩
/-- with the period z from a to e -/
def Pd (p : Nat → Nat) (a z e : Nat) : Prop := ∀ t, a + z ≤ t → t < e → p t = p (t - z)
theorem pd_mul {p : Nat → Nat} {a z e : Nat} (h : Pd p a z e) : ∀ (q t : Nat), a ≤ t → t + q * z < e → p (t + q * z) = p t
  | 0, t, _, _ => by rw [Nat.zero_mul, Nat.add_zero]
  | q + 1, t, ht, he => by
    have e1 : t + (q + 1) * z = t + q * z + z := by rw [Nat.succ_mul]; omega
    rw [e1] at he ⊢
    have := h (t + q * z + z) (by omega) he
    rw [this, show t + q * z + z - z = t + q * z by omega]
    exact pd_mul h q t ht (by omega)
/-- two places of the period -/
theorem pd_mod {p : Nat → Nat} {a z e : Nat} (h : Pd p a z e) {t : Nat} (ht : a ≤ t) (he : t < e) : p t = p (a + (t - a) % z) := by
  have e1 := Nat.mod_add_div (t - a) z
  have e2 : a + (t - a) % z + (t - a) / z * z = t := by
    rw [Nat.mul_comm ((t - a) / z) z]
    omega
  have := pd_mul h ((t - a) / z) (a + (t - a) % z) (by omega) (by rw [e2]; exact he)
  rw [e2] at this
  exact this
/-- a greater letter behind: the whole leads -/
theorem L_greater {p : Nat → Nat} {a z e : Nat} (hz : 0 < z) (hL : L p a (a + z)) (hP : Pd p a z e) (he : a + z ≤ e) (hg : p (e - z) < p e) : L p a (e + 1) := by
  refine ⟨by omega, fun k hk1 hk2 => ?_⟩
  obtain ⟨q, r, hr, ek⟩ : ∃ q r, r < z ∧ k = a + r + q * z := ⟨(k - a) / z, (k - a) % z, Nat.mod_lt _ hz, by
    have := Nat.mod_add_div (k - a) z
    rw [Nat.mul_comm ((k - a) / z) z]
    omega⟩
  have back : ∀ t, 0 < q → a ≤ t → t + q * z = e → p (e - z) = p t := fun t h0 ht h1 => by
    have e1 : t + (q - 1) * z = e - z := by
      obtain ⟨q', rfl⟩ : ∃ q', q = q' + 1 := ⟨q - 1, by omega⟩
      rw [Nat.succ_mul] at h1
      rw [Nat.add_sub_cancel]
      omega
    have := pd_mul hP (q - 1) t ht (by omega)
    rwa [e1] at this
  have same : ∀ t, a ≤ t → t + q * z < e → p (t + q * z) = p t := fun t h1 h2 => pd_mul hP q t h1 h2
  by_cases h0 : r = 0
  · subst h0
    have hq : 0 < q := Nat.pos_of_ne_zero fun z0 => by
      rw [z0, Nat.zero_mul] at ek
      omega
    refine ⟨e - k, by omega, fun i hi => ?_, ?_⟩
    · have := same (a + i) (by omega) (by omega)
      rw [show a + i + q * z = k + i by omega] at this
      exact this.symm
    · rw [show k + (e - k) = e by omega, ← back (a + (e - k)) hq (by omega) (by omega)]
      exact hg
  · obtain ⟨t0, b1, b2, b3⟩ := hL.2 (a + r) (by omega) (by omega)
    have same2 : ∀ i, k + i < e → p (k + i) = p (a + r + i) := fun i hi => by
      have := same (a + r + i) (by omega) (by omega)
      rw [show a + r + i + q * z = k + i by omega] at this
      exact this
    by_cases h1 : k + t0 < e
    · refine ⟨t0, by omega, fun i hi => ?_, ?_⟩
      · rw [same2 i (by omega)]
        exact b2 i hi
      · rw [same2 t0 h1]
        exact b3
    · have hq : 0 < q := Nat.pos_of_ne_zero fun z0 => by
        rw [z0, Nat.zero_mul] at ek
        omega
      refine ⟨e - k, by omega, fun i hi => ?_, ?_⟩
      · rw [same2 i (by omega)]
        exact b2 i (by omega)
      · rw [show k + (e - k) = e by omega]
        have e1 := back (a + r + (e - k)) hq (by omega) (by omega)
        rw [e1] at hg
        by_cases h2 : e - k = t0
        · rw [h2] at hg ⊢
          omega
        · rw [b2 (e - k) (by omega)]
          exact hg
/-- an equal letter behind: the period goes on -/
theorem Pd.more {p : Nat → Nat} {a z e : Nat} (h : Pd p a z e) (hg : p e = p (e - z)) : Pd p a z (e + 1) := fun t h1 h2 => by
  by_cases h3 : t = e
  · rw [h3]
    exact hg
  · exact h t h1 (by omega)
/-- the first part of a stretch with a period that ends so is the longest that leads -/
theorem L_longest {p : Nat → Nat} {a z e n : Nat} (hz : 0 < z) (hP : Pd p a z e) (he : a + z ≤ e) (hn : e ≤ n) (hg : e < n → p e < p (e - z)) {m : Nat} (h1 : a + z < m) (h2 : m ≤ n) : ¬ L p a m := fun ⟨_, h⟩ => by
  obtain ⟨t, b1, b2, b3⟩ := h (a + z) (by omega) h1
  have per : ∀ i, a + z + i < e → p (a + z + i) = p (a + i) := fun i hi => by
    rw [hP (a + z + i) (by omega) hi, show a + z + i - z = a + i by omega]
  rcases Nat.lt_trichotomy (a + z + t) e with lt | eq | gt
  · rw [per t lt] at b3
    omega
  · have := hg (by omega)
    rw [← eq, show a + z + t - z = a + t by omega] at this
    omega
  · have hen : e < n := by omega
    have := hg hen
    have e1 := b2 (e - z - a) (by omega)
    rw [show a + (e - z - a) = e - z by omega, show a + z + (e - z - a) = e by omega] at e1
    omega
/-- each part of a stretch with a period leads like the first -/
theorem L_shift {p : Nat → Nat} {a z e q : Nat} (hL : L p a (a + z)) (hP : Pd p a z e) (h : a + q * z + z ≤ e) : L p (a + q * z) (a + q * z + z) := by
  refine ⟨by have := hL.1; omega, fun k h1 h2 => ?_⟩
  obtain ⟨t, b1, b2, b3⟩ := hL.2 (k - q * z) (by omega) (by omega)
  have same : ∀ i, a ≤ i → i + q * z < e → p (i + q * z) = p i := fun i hi => pd_mul hP q i hi
  have s1 : ∀ i, i ≤ t → p (a + q * z + i) = p (a + i) := fun i hi => by
    rw [show a + q * z + i = a + i + q * z by omega]
    exact same (a + i) (by omega) (by omega)
  have s2 : ∀ i, i ≤ t → p (k + i) = p (k - q * z + i) := fun i hi => by
    rw [show k + i = k - q * z + i + q * z by omega]
    exact same (k - q * z + i) (by omega) (by omega)
  refine ⟨t, by omega, fun i hi => ?_, ?_⟩
  · rw [s1 i (by omega), s2 i (by omega)]
    exact b2 i hi
  · rw [s1 t (Nat.le_refl _), s2 t (Nat.le_refl _)]
    exact b3
theorem Pd.shift {p : Nat → Nat} {a z e : Nat} (h : Pd p a z e) (b : Nat) (hb : a ≤ b) : Pd p b z e := fun t h1 h2 => h t (by omega) h2
theorem D.trans {p : Nat → Nat} {x y w e f : Nat} (h : D p x y e) (k : D p y w f) : D p x w f := by
  obtain ⟨t1, a1, a2, a3⟩ := h
  obtain ⟨t2, b1, b2, b3⟩ := k
  rcases Nat.lt_trichotomy t1 t2 with lt | eq | gt
  · exact ⟨t1, by omega, fun i hi => (a2 i hi).trans (b2 i (by omega)), by rw [← b2 t1 lt]; exact a3⟩
  · subst eq
    exact ⟨t1, by omega, fun i hi => (a2 i hi).trans (b2 i hi), by omega⟩
  · exact ⟨t2, b1, fun i hi => (a2 i (by omega)).trans (b2 i hi), by rw [a2 t2 gt]; exact b3⟩
/-- the part from a to b is less than the one from b to c -/
def W (p : Nat → Nat) (a b c : Nat) : Prop := (∃ t, a + t < b ∧ b + t < c ∧ (∀ i, i < t → p (a + i) = p (b + i)) ∧ p (a + t) < p (b + t)) ∨ (b - a < c - b ∧ ∀ i, i < b - a → p (a + i) = p (b + i))
/-- two neighbours that lead, the first one less: together they lead -/
theorem L_join {p : Nat → Nat} {a b c : Nat} (h1 : L p a b) (h2 : L p b c) (h : W p a b c) : L p a c := by
  have hb : D p a b c := by
    rcases h with ⟨t, _, b1, b2, b3⟩ | ⟨hl, hp⟩
    · exact ⟨t, b1, b2, b3⟩
    · obtain ⟨t, b1, b2, b3⟩ := h2.2 (b + (b - a)) (by have := h1.1; omega) (by omega)
      have hab := h1.1
      refine ⟨b - a + t, by omega, fun i hi => ?_, ?_⟩
      · by_cases hm : i < b - a
        · exact hp i hm
        · have := b2 (i - (b - a)) (by omega)
          rw [show b + (i - (b - a)) = a + i by omega, show b + (b - a) + (i - (b - a)) = b + i by omega] at this
          exact this
      · rw [show b + t = a + (b - a + t) by omega, show b + (b - a) + t = b + (b - a + t) by omega] at b3
        exact b3
  refine ⟨by have := h1.1; have := h2.1; omega, fun k k1 k2 => ?_⟩
  rcases Nat.lt_trichotomy k b with lt | eq | gt
  · obtain ⟨t, b1, b2, b3⟩ := h1.2 k k1 lt
    exact ⟨t, by have := h2.1; omega, b2, b3⟩
  · rw [eq]
    exact hb
  · exact hb.trans (h2.2 k gt k2)
/-! ### texts as lists -/
def gd (T : List Nat) (i : Nat) : Nat := T.getD i 0
def sl (T : List Nat) (a b : Nat) : List Nat := (T.drop a).take (b - a)
theorem sl_len {T : List Nat} {a b : Nat} (h : b ≤ T.length) : (sl T a b).length = b - a := by
  unfold sl
  rw [List.length_take, List.length_drop]
  omega
theorem gd_get {T : List Nat} {i : Nat} (h : i < T.length) : T[i] = gd T i := by
  unfold gd
  rw [List.getD_eq_getElem?_getD, List.getElem?_eq_getElem h]
  rfl
theorem sl_get {T : List Nat} {a b i : Nat} (h : b ≤ T.length) (hi : i < (sl T a b).length) : (sl T a b)[i] = gd T (a + i) := by
  have hl := sl_len (a := a) h
  have e : (sl T a b)[i]? = some (gd T (a + i)) := by
    unfold sl
    rw [List.getElem?_take, if_pos (by omega), List.getElem?_drop, List.getElem?_eq_getElem (by omega), gd_get]
  rw [List.getElem?_eq_getElem hi] at e
  exact Option.some.inj e
/-- which part is less -/
theorem lt_sl {T : List Nat} {a b c d : Nat} (hb : b ≤ T.length) (hd : d ≤ T.length) : sl T a b < sl T c d ↔ (b - a < d - c ∧ ∀ i, i < b - a → gd T (a + i) = gd T (c + i)) ∨ ∃ t, a + t < b ∧ c + t < d ∧ (∀ i, i < t → gd T (a + i) = gd T (c + i)) ∧ gd T (a + t) < gd T (c + t) := by
  have l1 := sl_len (a := a) hb
  have l2 := sl_len (a := c) hd
  rw [List.lt_iff_exists]
  constructor
  · rintro (⟨h1, h2⟩ | ⟨t, h1, h2, h3, h4⟩)
    · refine .inl ⟨by omega, fun i hi => ?_⟩
      have hi1 : i < (sl T a b).length := by omega
      have e : (sl T a b)[i]? = (sl T c d)[i]? := by
        conv => lhs; rw [h1]
        rw [List.getElem?_take, if_pos hi1]
      rw [List.getElem?_eq_getElem hi1, List.getElem?_eq_getElem (by omega)] at e
      have e := Option.some.inj e
      rw [sl_get hb, sl_get hd] at e
      exact e
    · refine .inr ⟨t, by omega, by omega, fun i hi => ?_, ?_⟩
      · have := h3 i hi
        rw [sl_get hb, sl_get hd] at this
        exact this
      · rw [sl_get hb, sl_get hd] at h4
        exact h4
  · rintro (⟨h1, h2⟩ | ⟨t, h1, h2, h3, h4⟩)
    · refine .inl ⟨List.ext_getElem? fun i => ?_, by omega⟩
      rw [List.getElem?_take]
      by_cases hi : i < b - a
      · rw [if_pos (by omega), List.getElem?_eq_getElem (by omega), List.getElem?_eq_getElem (by omega), sl_get hb, sl_get hd, h2 i hi]
      · rw [if_neg (by omega), List.getElem?_eq_none (by omega)]
    · refine .inr ⟨t, by omega, by omega, fun i hi => ?_, ?_⟩
      · rw [sl_get hb, sl_get hd]
        exact h3 i hi
      · rw [sl_get hb, sl_get hd]
        exact h4
/-- a text that leads -/
def lead (l : List Nat) : Bool := decide (l ≠ []) && (List.range' 1 (l.length - 1)).all fun k => decide (l < l.drop k)
theorem lead_iff {l : List Nat} : lead l = true ↔ l ≠ [] ∧ ∀ k, 0 < k → k < l.length → l < l.drop k := by
  unfold lead
  rw [Bool.and_eq_true, decide_eq_true_eq, List.all_eq_true]
  refine and_congr_right fun _ => ⟨fun h k h1 h2 => of_decide_eq_true (h k (List.mem_range'_1.mpr ⟨h1, by omega⟩)), fun h k hk => ?_⟩
  have := List.mem_range'_1.mp hk
  exact decide_eq_true (h k (by omega) (by omega))
theorem sl_drop (T : List Nat) (a b k : Nat) : (sl T a b).drop k = sl T (a + k) b := by
  unfold sl
  rw [List.drop_take, List.drop_drop, Nat.sub_sub]
theorem lead_sl {T : List Nat} {a b : Nat} (hb : b ≤ T.length) : lead (sl T a b) = true ↔ L (gd T) a b := by
  have l1 := sl_len (a := a) hb
  rw [lead_iff]
  constructor
  · rintro ⟨h1, h2⟩
    have hab : a < b := by
      cases hq : sl T a b with
      | nil => exact absurd hq h1
      | cons x l =>
        rw [hq, List.length_cons] at l1
        omega
    refine ⟨hab, fun k k1 k2 => ?_⟩
    have h3 := h2 (k - a) (by omega) (by omega)
    rw [sl_drop, show a + (k - a) = k by omega, lt_sl hb hb] at h3
    rcases h3 with ⟨h3, _⟩ | ⟨t, _, b1, b2, b3⟩
    · omega
    · exact ⟨t, b1, b2, b3⟩
  · rintro ⟨h1, h2⟩
    refine ⟨fun z => ?_, fun k k1 k2 => ?_⟩
    · rw [z] at l1
      have : (0 : Nat) = b - a := l1
      omega
    · rw [sl_drop, lt_sl hb hb]
      obtain ⟨t, b1, b2, b3⟩ := h2 (a + k) (by omega) (by omega)
      exact .inr ⟨t, by omega, b1, b2, b3⟩
theorem sl_zero {l : List Nat} {m : Nat} : l.take m = sl l 0 m := by
  unfold sl
  rw [List.drop_zero, Nat.sub_zero]
theorem L_drop {T : List Nat} {a x y : Nat} : L (gd (T.drop a)) x y ↔ L (gd T) (a + x) (a + y) := by
  have e : ∀ i, gd (T.drop a) i = gd T (a + i) := fun i => by
    unfold gd
    rw [List.getD_eq_getElem?_getD, List.getD_eq_getElem?_getD, List.getElem?_drop]
  constructor
  · rintro ⟨h1, h2⟩
    refine ⟨by omega, fun k k1 k2 => ?_⟩
    obtain ⟨t, b1, b2, b3⟩ := h2 (k - a) (by omega) (by omega)
    refine ⟨t, by omega, fun i hi => ?_, ?_⟩
    · have := b2 i hi
      rw [e, e, show a + (k - a + i) = k + i by omega, show a + (x + i) = a + x + i by omega] at this
      exact this
    · rw [e, e, show a + (k - a + t) = k + t by omega, show a + (x + t) = a + x + t by omega] at b3
      exact b3
  · rintro ⟨h1, h2⟩
    refine ⟨by omega, fun k k1 k2 => ?_⟩
    obtain ⟨t, b1, b2, b3⟩ := h2 (a + k) (by omega) (by omega)
    refine ⟨t, by omega, fun i hi => ?_, ?_⟩
    · have := b2 i hi
      rw [e, e, show a + (x + i) = a + x + i by omega, show a + (k + i) = a + k + i by omega]
      exact this
    · rw [e, e, show a + (x + t) = a + x + t by omega, show a + (k + t) = a + k + t by omega]
      exact b3
/-- how long the longest beginning that leads is -/
def lp (l : List Nat) : Nat := (((List.range (l.length + 1)).filter fun m => lead (l.take m)).getLast?).getD 0
theorem last_range (P : Nat → Bool) {m : Nat} : ∀ {n : Nat}, m < n → P m = true → (∀ k, m < k → k < n → P k = false) → ((List.range n).filter P).getLast? = some m
  | 0, h, _, _ => absurd h (Nat.not_lt_zero _)
  | n + 1, h, hm, hk => by
    rw [List.range_succ, List.filter_append]
    by_cases e : m = n
    · subst e
      rw [List.filter_cons, if_pos hm, List.filter_nil, List.getLast?_append]
      rfl
    · rw [List.filter_cons, if_neg (by rw [hk n (by omega) (Nat.lt_succ_self n)]; exact Bool.false_ne_true), List.filter_nil, List.append_nil]
      exact last_range P (by omega) hm fun k h1 h2 => hk k h1 (by omega)
theorem lp_is {l : List Nat} {m : Nat} (hm : m ≤ l.length) (h : L (gd l) 0 m) (hn : ∀ k, m < k → k ≤ l.length → ¬ L (gd l) 0 k) : lp l = m := by
  have e : ∀ k, k ≤ l.length → (lead (l.take k) = true ↔ L (gd l) 0 k) := fun k hk => by
    rw [sl_zero]
    exact lead_sl hk
  unfold lp
  rw [last_range _ (m := m) (by omega) ((e m hm).mpr h) fun k h1 h2 => by
    have := hn k h1 (by omega)
    rw [← e k (by omega)] at this
    exact Bool.eq_false_iff.mpr this]
  rfl
/-- cut into parts, each the longest beginning that leads of what is left -/
def lfN : Nat → List Nat → List (List Nat)
  | 0, _ => []
  | _ + 1, [] => []
  | n + 1, x :: l => (x :: l).take (lp (x :: l)) :: lfN n ((x :: l).drop (lp (x :: l)))
def lfac (l : List Nat) : List (List Nat) := lfN l.length l
theorem lead_one (x : Nat) : lead [x] = true := lead_iff.mpr ⟨by simp, fun k h1 h2 => by
  rw [List.length_singleton] at h2
  omega⟩
/-- the longest one -/
theorem lp_facts {l : List Nat} (h : l ≠ []) : 0 < lp l ∧ lp l ≤ l.length ∧ L (gd l) 0 (lp l) ∧ ∀ k, lp l < k → k ≤ l.length → ¬ L (gd l) 0 k := by
  have e : ∀ k, k ≤ l.length → (lead (l.take k) = true ↔ L (gd l) 0 k) := fun k hk => by
    rw [sl_zero]
    exact lead_sl hk
  have h1 : L (gd l) 0 1 := L_one _ 0
  have hl : 1 ≤ l.length := by
    cases l with
    | nil => exact absurd rfl h
    | cons x l => exact Nat.succ_pos _
  have find : ∀ d m, m + d = l.length → L (gd l) 0 m → ∃ m', m ≤ m' ∧ m' ≤ l.length ∧ L (gd l) 0 m' ∧ ∀ k, m' < k → k ≤ l.length → ¬ L (gd l) 0 k := by
    intro d
    induction d with
    | zero => exact fun m hm hL => ⟨m, Nat.le_refl _, by omega, hL, fun k a b => by omega⟩
    | succ d ih =>
      intro m hm hL
      by_cases hq : ∃ k, m < k ∧ k ≤ l.length ∧ L (gd l) 0 k
      · obtain ⟨k, k1, k2, k3⟩ := hq
        -- the greatest one, from above
        have : ∀ n, n ≤ l.length → (∃ k, m < k ∧ k ≤ n ∧ L (gd l) 0 k) → ∃ m', m ≤ m' ∧ m' ≤ n ∧ L (gd l) 0 m' ∧ ∀ k, m' < k → k ≤ n → ¬ L (gd l) 0 k := by
          intro n
          induction n with
          | zero => exact fun _ ⟨k, a, b, _⟩ => by omega
          | succ n ihn =>
            intro hn ⟨k, a, b, c⟩
            by_cases hL1 : L (gd l) 0 (n + 1)
            · exact ⟨n + 1, by omega, Nat.le_refl _, hL1, fun k a b => by omega⟩
            · obtain ⟨m', c1, c2, c3, c4⟩ := ihn (by omega) ⟨k, a, by
                by_cases z : k = n + 1
                · rw [z] at c
                  exact absurd c hL1
                · omega, c⟩
              refine ⟨m', c1, by omega, c3, fun k a b => ?_⟩
              by_cases z : k = n + 1
              · rw [z]
                exact hL1
              · exact c4 k a (by omega)
        exact this l.length (Nat.le_refl _) ⟨k, k1, k2, k3⟩
      · exact ⟨m, Nat.le_refl _, by omega, hL, fun k a b c => hq ⟨k, a, b, c⟩⟩
  obtain ⟨m, m1, m2, m3, m4⟩ := find (l.length - 1) 1 (by omega) h1
  have := lp_is m2 m3 m4
  rw [this]
  exact ⟨by omega, m2, m3, m4⟩
theorem lfN_fuel : ∀ (n m : Nat) (l : List Nat), l.length ≤ n → l.length ≤ m → lfN n l = lfN m l
  | 0, m, l, h, _ => by
    have : l = [] := List.eq_nil_of_length_eq_zero (by omega)
    subst this
    cases m <;> rfl
  | n + 1, 0, l, _, h => by
    have : l = [] := List.eq_nil_of_length_eq_zero (by omega)
    subst this
    rfl
  | n + 1, m + 1, [], _, _ => rfl
  | n + 1, m + 1, x :: l, h, k => by
    obtain ⟨p1, _, _, _⟩ := lp_facts (l := x :: l) (by simp)
    show _ :: lfN n _ = _ :: lfN m _
    rw [lfN_fuel n m _ (by rw [List.length_drop]; omega) (by rw [List.length_drop]; omega)]
theorem lfac_nil : lfac [] = [] := rfl
theorem lfac_cons {l : List Nat} (h : l ≠ []) : lfac l = l.take (lp l) :: lfac (l.drop (lp l)) := by
  cases l with
  | nil => exact absurd rfl h
  | cons x l =>
    obtain ⟨p1, _, _, _⟩ := lp_facts (l := x :: l) (by simp)
    show (x :: l).take (lp (x :: l)) :: lfN l.length ((x :: l).drop (lp (x :: l))) = _
    rw [lfN_fuel l.length ((x :: l).drop (lp (x :: l))).length _ (by rw [List.length_drop, List.length_cons]; omega) (Nat.le_refl _)]
    rfl
end Ly

set_option Elab.async false
/-! the parts of a text: what they are together, and how the loop finds them -/
namespace Ly
theorem lfac_flat : ∀ (n : Nat) (l : List Nat), l.length ≤ n → (lfac l).flatten = l
  | 0, l, h => by
    have : l = [] := List.eq_nil_of_length_eq_zero (by omega)
    subst this
    rfl
  | n + 1, l, h => by
    by_cases hl : l = []
    · subst hl
      rfl
    · obtain ⟨p1, p2, _, _⟩ := lp_facts hl
      rw [lfac_cons hl, List.flatten_cons, lfac_flat n _ (by rw [List.length_drop]; omega), List.take_append_drop]
theorem lfac_join (l : List Nat) : (lfac l).flatten = l := lfac_flat l.length l (Nat.le_refl _)
theorem lead_take {l : List Nat} {m : Nat} (h : m ≤ l.length) : lead (l.take m) = true ↔ L (gd l) 0 m := by
  rw [sl_zero]
  exact lead_sl h
theorem lead_lp {l : List Nat} (h : l ≠ []) : lead (l.take (lp l)) = true := by
  obtain ⟨_, p2, p3, _⟩ := lp_facts h
  exact (lead_take p2).mpr p3
theorem lfac_leadN : ∀ (n : Nat) (l : List Nat), l.length ≤ n → ∀ f ∈ lfac l, lead f = true
  | 0, l, h, f, hf => by
    have : l = [] := List.eq_nil_of_length_eq_zero (by omega)
    subst this
    cases hf
  | n + 1, l, h, f, hf => by
    by_cases hl : l = []
    · subst hl
      cases hf
    · obtain ⟨p1, p2, _, _⟩ := lp_facts hl
      rw [lfac_cons hl] at hf
      rcases List.mem_cons.mp hf with rfl | hf
      · exact lead_lp hl
      · exact lfac_leadN n _ (by rw [List.length_drop]; omega) f hf
theorem lfac_lead {l : List Nat} : ∀ f ∈ lfac l, lead f = true := lfac_leadN l.length l (Nat.le_refl _)
theorem lead_ne {l : List Nat} (h : lead l = true) : l ≠ [] := (lead_iff.mp h).1
/-- two neighbours: the second one is not greater -/
theorem two_down {l : List Nat} (hl : l ≠ []) (hr : l.drop (lp l) ≠ []) : ¬ l.take (lp l) < (l.drop (lp l)).take (lp (l.drop (lp l))) := fun h => by
  obtain ⟨p1, p2, p3, p4⟩ := lp_facts hl
  obtain ⟨q1, q2, q3, _⟩ := lp_facts hr
  generalize hm : lp l = m at *
  generalize lp (l.drop m) = k at *
  rw [List.length_drop] at q2
  have q3' := L_drop.mp q3
  rw [Nat.add_zero] at q3'
  refine p4 (m + k) (by omega) (by omega) (L_join p3 q3' ?_)
  have e2 : (l.drop m).take k = sl l m (m + k) := by
    unfold sl
    rw [Nat.add_sub_cancel_left]
  rw [sl_zero, e2, lt_sl p2 (by omega)] at h
  rcases h with ⟨h1, h2⟩ | ⟨t, h1, h2, h3, h4⟩
  · exact .inr ⟨by omega, fun i hi => h2 i hi⟩
  · exact .inl ⟨t, h1, h2, h3, h4⟩
theorem lfac_downN : ∀ (n : Nat) (l : List Nat), l.length ≤ n → ∀ (i : Nat) (f g : List Nat), (lfac l)[i]? = some f → (lfac l)[i + 1]? = some g → ¬ f < g
  | 0, l, h, i, f, g, hf, _ => by
    have : l = [] := List.eq_nil_of_length_eq_zero (by omega)
    subst this
    cases hf
  | n + 1, l, h, i, f, g, hf, hg => by
    by_cases hl : l = []
    · subst hl
      cases hf
    · obtain ⟨p1, p2, _, _⟩ := lp_facts hl
      rw [lfac_cons hl] at hf hg
      cases i with
      | succ i => exact lfac_downN n _ (by rw [List.length_drop]; omega) i f g hf hg
      | zero =>
        rw [List.getElem?_cons_zero] at hf
        cases hf
        rw [List.getElem?_cons_succ] at hg
        have hr : l.drop (lp l) ≠ [] := fun z => by
          rw [z] at hg
          cases hg
        rw [lfac_cons hr, List.getElem?_cons_zero] at hg
        cases hg
        exact two_down hl hr
theorem lfac_down {l : List Nat} {i : Nat} {f g : List Nat} (hf : (lfac l)[i]? = some f) (hg : (lfac l)[i + 1]? = some g) : ¬ f < g := lfac_downN l.length l (Nat.le_refl _) i f g hf hg
theorem lfac_one (l : List Nat) : (lfac l).length = 1 ↔ lead l = true := by
  constructor
  · intro h
    obtain ⟨f, hf⟩ := List.length_eq_one_iff.mp h
    have e := lfac_join l
    rw [hf] at e
    have e : f = l := by simpa using e
    rw [← e]
    exact lfac_lead (l := l) f (by rw [hf]; exact List.mem_singleton.mpr rfl)
  · intro h
    have hl := lead_ne h
    have h0 : 0 < l.length := List.length_pos_iff.mpr hl
    have hL : L (gd l) 0 l.length := (lead_take (Nat.le_refl _)).mp (by rw [List.take_length]; exact h)
    have := lp_is (Nat.le_refl _) hL fun k h1 h2 => by omega
    rw [lfac_cons hl, this, List.drop_length]
    rfl
theorem lfac_few : ∀ (n : Nat) (l : List Nat), l.length ≤ n → (lfac l).length ≤ l.length
  | 0, l, h => by
    have : l = [] := List.eq_nil_of_length_eq_zero (by omega)
    subst this
    exact Nat.le_refl _
  | n + 1, l, h => by
    by_cases hl : l = []
    · subst hl
      exact Nat.le_refl _
    · obtain ⟨p1, p2, _, _⟩ := lp_facts hl
      rw [lfac_cons hl, List.length_cons]
      have := lfac_few n (l.drop (lp l)) (by rw [List.length_drop]; omega)
      rw [List.length_drop] at this
      omega
theorem lfac_len (l : List Nat) : (lfac l).length ≤ l.length := lfac_few l.length l (Nat.le_refl _)
theorem lfac_sub {l f : List Nat} (h : f ∈ lfac l) : (∀ c ∈ f, c ∈ l) ∧ f.length ≤ l.length := by
  have e := lfac_join l
  have hc : ∀ c ∈ f, c ∈ l := fun c hc => by
    rw [← e]
    exact List.mem_flatten.mpr ⟨f, h, hc⟩
  refine ⟨hc, ?_⟩
  rw [← e, List.length_flatten]
  have : ∀ L : List (List Nat), f ∈ L → f.length ≤ (L.map List.length).sum := by
    intro L
    induction L with
    | nil => exact fun h => by cases h
    | cons g L ih =>
      intro h
      rw [List.map_cons, List.sum_cons]
      rcases List.mem_cons.mp h with rfl | h
      · omega
      · have := ih h
        omega
  exact this _ h
/-- the beginnings that lead -/
def lng (l : List Nat) (n : Nat) : List (List Nat) := ((List.range n).filter fun i => lead (l.take (i + 1))).map fun i => l.take (i + 1)
theorem last_filter (P : Nat → Bool) {m : Nat} : ∀ {n : Nat}, m < n → P m = true → (∀ k, m < k → k < n → P k = false) → ((List.range n).filter P).getLast? = some m := last_range P
theorem lng_last {l : List Nat} (h : l ≠ []) : (lng l l.length).getLast? = some (l.take (lp l)) := by
  obtain ⟨p1, p2, p3, p4⟩ := lp_facts h
  unfold lng
  rw [List.getLast?_map, last_range _ (m := lp l - 1) (by omega) (by rw [show lp l - 1 + 1 = lp l by omega]; exact lead_lp h) fun k h1 h2 => by
    have := p4 (k + 1) (by omega) (by omega)
    rw [← lead_take (by omega)] at this
    exact Bool.eq_false_iff.mpr this]
  rw [Option.map_some, show lp l - 1 + 1 = lp l by omega]
theorem lng_head (l : List Nat) : (lfac l).take 1 = (lng l l.length).drop ((lng l l.length).length - 1) := by
  by_cases h : l = []
  · subst h
    rfl
  · have e := lng_last h
    rw [lfac_cons h]
    generalize lng l l.length = M at *
    have hM : M ≠ [] := fun z => by
      rw [z] at e
      cases e
    rw [List.getLast?_eq_some_getLast hM] at e
    have e2 := List.dropLast_concat_getLast hM
    rw [Option.some.inj e] at e2
    have e3 : M.length - 1 = M.dropLast.length := by rw [List.length_dropLast]
    rw [e3]
    conv => rhs; rw [← e2]; rw [List.dropLast_concat, List.drop_left]
    rfl
/-! ### the loop -/
/-- one part is found -/
theorem fac_step {l : List Nat} {a z e : Nat} (hz : 0 < z) (hL : L (gd l) a (a + z)) (hP : Pd (gd l) a z e) (he : a + z ≤ e) (hn : e ≤ l.length) (hg : e < l.length → gd l e < gd l (e - z)) :
    lfac (l.drop a) = sl l a (a + z) :: lfac (l.drop (a + z)) := by
  have h0 : l.drop a ≠ [] := fun q => by
    have := congrArg List.length q
    rw [List.length_drop] at this
    have : l.length - a = 0 := this
    omega
  have e1 : lp (l.drop a) = z := lp_is (by rw [List.length_drop]; omega) (L_drop.mpr hL) fun k k1 k2 hk => by
    rw [List.length_drop] at k2
    exact L_longest hz hP he hn hg (m := a + k) (by omega) (by omega) (L_drop.mp hk)
  rw [lfac_cons h0, e1, List.drop_drop]
  unfold sl
  rw [Nat.add_sub_cancel_left]
/-- what holds in the inner loop -/
structure Inn (l : List Nat) (st ag e : Nat) : Prop where
  a : st ≤ ag
  b : ag < e
  c : e ≤ l.length
  le : L (gd l) st (st + (e - ag))
  pd : Pd (gd l) st (e - ag) e
theorem inn_0 {l : List Nat} {st : Nat} (h : st < l.length) : Inn l st st (st + 1) := ⟨Nat.le_refl _, Nat.lt_succ_self _, h, by rw [Nat.add_sub_cancel_left]; exact L_one _ _, fun t h1 h2 => by omega⟩
theorem inn_more {l : List Nat} {st ag e : Nat} (I : Inn l st ag e) (he : e < l.length) (hg : gd l ag = gd l e) : Inn l st (ag + 1) (e + 1) := by
  have ez : e + 1 - (ag + 1) = e - ag := by omega
  have := I.a
  have := I.b
  refine ⟨by omega, by omega, he, by rw [ez]; exact I.le, ?_⟩
  rw [ez]
  exact I.pd.more (by rw [show e - (e - ag) = ag by omega]; exact hg.symm)
theorem inn_less {l : List Nat} {st ag e : Nat} (I : Inn l st ag e) (he : e < l.length) (hg : gd l ag < gd l e) : Inn l st st (e + 1) := by
  have ha := I.a
  have hb := I.b
  refine ⟨Nat.le_refl _, by omega, he, ?_, fun t h1 h2 => by omega⟩
  rw [show st + (e + 1 - st) = e + 1 by omega]
  exact L_greater (z := e - ag) (by omega) I.le I.pd (by omega) (by rw [show e - (e - ag) = ag by omega]; exact hg)
/-- the parts that the inner loop's end gives -/
theorem inn_end {l : List Nat} {st ag e q : Nat} (I : Inn l st ag e) (hg : e < l.length → gd l e < gd l ag) (hq : st + q * (e - ag) ≤ ag) :
    lfac (l.drop (st + q * (e - ag))) = sl l (st + q * (e - ag)) (st + q * (e - ag) + (e - ag)) :: lfac (l.drop (st + q * (e - ag) + (e - ag))) := by
  have ha := I.a
  have hb := I.b
  have hL := L_shift (q := q) I.le I.pd (by omega)
  exact fac_step (by omega) hL (I.pd.shift _ (by omega)) (by omega) I.c fun h => by
    rw [show e - (e - ag) = ag by omega]
    exact hg h
end Ly

set_option Elab.async false
/-! counts of patterns in brackets of rows -/
namespace Bk
open Bm
section
variable {α : Type} [DecidableEq α]
/-- how often the pattern lies in the row -/
def ct (l : List (α × Int)) (p : List α) : Int := A p l (e 0) p.length
theorem A_zero (p : List α) : ∀ (l : List (α × Int)) (v : Nat → Int), A p l v 0 = v 0
  | [], v => rfl
  | q :: l, v => by
    show A p l (act p q.1 q.2 v) 0 = v 0
    rw [A_zero p l]
    show 0 + 1 * v 0 = v 0
    omega
theorem ct_nil (l : List (α × Int)) : ct l [] = 1 := A_zero [] l (e 0)
theorem ct_take (l : List (α × Int)) (p : List α) {j : Nat} (h : j ≤ p.length) : A p l (e 0) j = ct l (p.take j) := by
  unfold ct
  have hl : (p.take j).length = j := by rw [List.length_take]; omega
  rw [hl]
  exact (A_take p j l (v := e 0) (w := e 0) (fun _ _ => rfl) j (Nat.le_refl _)).symm
theorem ct_app (l k : List (α × Int)) (p : List α) : ct (l ++ k) p = S (p.length + 1) fun j => ct l (p.take j) * ct k (p.drop j) := by
  show A p (l ++ k) (e 0) p.length = _
  rw [A_app, A_cut]
  refine S_congr fun j hj => ?_
  rw [ct_take l p (by omega)]
  have : (p.drop j).length = p.length - j := List.length_drop
  rw [← this]
  rfl
theorem ct_joint (l : List (α × Int)) (p : List α) : ct (Wm.joint [] l).reverse p = ct l p := by
  unfold ct
  rw [A_joint]
  rfl
theorem un_un (l : List (α × Int)) : un (un l) = l := by
  unfold un
  rw [← List.map_reverse, List.reverse_reverse, List.map_map]
  have : ((fun q : α × Int => (q.1, -q.2)) ∘ fun q => (q.1, -q.2)) = id := funext fun q => by
    show (q.1, - -q.2) = q
    rw [Int.neg_neg]
  rw [this, List.map_id]
/-- the bracket -/
def br (l k : List (α × Int)) : List (α × Int) := l ++ k ++ un l ++ un k
theorem ct_br (l k : List (α × Int)) (p : List α) : ct (br l k ++ (k ++ l)) p = ct (l ++ k) p := by
  unfold ct br
  have u : ∀ (m : List (α × Int)) v, A p m (A p (un m) v) = v := fun m v => by
    have := A_un p (un m) v
    rwa [un_un] at this
  rw [A_app, A_app, A_app, A_app, A_app, u k, u l]
theorem S_head {f : Nat → Int} : ∀ {n : Nat}, 0 < n → (∀ j, 0 < j → j < n → f j = 0) → S n f = f 0
  | 1, _, _ => Int.zero_add _
  | n + 2, _, h => by
    show S (n + 1) f + f (n + 1) = f 0
    rw [S_head (Nat.succ_pos n) fun j h1 h2 => h j h1 (by omega), h (n + 1) (by omega) (by omega), Int.add_zero]
theorem S_two {f : Nat → Int} {n : Nat} (hn : 0 < n) (h : ∀ j, 0 < j → j < n → f j = 0) : S (n + 1) f = f 0 + f n := by
  show S n f + f n = _
  rw [S_head hn h]
theorem S_pair {f : Nat → Int} {i : Nat} : ∀ {n : Nat}, 0 < i → i < n → (∀ j, 0 < j → j < n → j ≠ i → f j = 0) → S n f = f 0 + f i
  | n + 1, h0, hi, h => by
    show S n f + f n = f 0 + f i
    by_cases e : i = n
    · subst e
      rw [S_head h0 fun j h1 h2 => h j h1 (by omega) (by omega)]
    · rw [S_pair h0 (by omega) fun j h1 h2 h3 => h j h1 (by omega) h3, h n (by omega) (by omega) (fun z => e z.symm), Int.add_zero]
theorem S_three {f : Nat → Int} {n i : Nat} (h0 : 0 < i) (hi : i < n) (h : ∀ j, 0 < j → j < n → j ≠ i → f j = 0) : S (n + 1) f = f 0 + f i + f n := by
  show S n f + f n = _
  rw [S_pair h0 hi h]
/-- no shorter pattern lies there -/
def No (a : Nat) (l : List (α × Int)) : Prop := ∀ p : List α, 0 < p.length → p.length < a → ct l p = 0
theorem mid {l k : List (α × Int)} {a b : Nat} (hl : No a l) (hk : No b k) {p : List α} (h0 : 0 < p.length) {j : Nat} (j0 : 0 < j) (j1 : j < p.length) (h : ¬ (a ≤ j ∧ j + b ≤ p.length)) : ct l (p.take j) * ct k (p.drop j) = 0 := by
  have e1 : (p.take j).length = j := by rw [List.length_take]; omega
  have e2 : (p.drop j).length = p.length - j := List.length_drop
  by_cases q : a ≤ j
  · rw [hk (p.drop j) (by omega) (by omega), Int.mul_zero]
  · rw [hl (p.take j) (by omega) (by omega), Int.zero_mul]
theorem ends (l k : List (α × Int)) (p : List α) : ct l (p.take 0) * ct k (p.drop 0) = ct k p ∧ ct l (p.take p.length) * ct k (p.drop p.length) = ct l p := by
  rw [List.take_zero, ct_nil, List.drop_zero, Int.one_mul, List.take_length, List.drop_length, ct_nil, Int.mul_one]
  exact ⟨rfl, rfl⟩
theorem low {l k : List (α × Int)} {a b : Nat} (hl : No a l) (hk : No b k) {p : List α} (h0 : 0 < p.length) (h : p.length < a + b) : ct (l ++ k) p = ct k p + ct l p := by
  obtain ⟨e1, e2⟩ := ends l k p
  rw [ct_app, S_two h0 fun j j0 j1 => mid hl hk h0 j0 j1 (by omega), e1, e2]
theorem top {l k : List (α × Int)} {a b : Nat} (ha : 0 < a) (hb : 0 < b) (hl : No a l) (hk : No b k) {p : List α} (h : p.length = a + b) : ct (l ++ k) p = ct k p + ct l (p.take a) * ct k (p.drop a) + ct l p := by
  obtain ⟨e1, e2⟩ := ends l k p
  rw [ct_app, S_three (i := a) ha (by omega) fun j j0 j1 jn => mid hl hk (by omega) j0 j1 (by omega), e1, e2]
theorem br_low {l k : List (α × Int)} {a b : Nat} (ha : 0 < a) (hb : 0 < b) (hl : No a l) (hk : No b k) : No (a + b) (br l k) := by
  have go : ∀ n (p : List α), p.length = n → 0 < n → n < a + b → ct (br l k) p = 0 := by
    intro n
    induction n using Nat.strongRecOn with
    | _ n ih =>
      intro p hp h0 hn
      obtain ⟨e1, e2⟩ := ends (br l k) (k ++ l) p
      have e3 := ct_br l k p
      rw [ct_app, S_two (by omega) fun j j0 j1 => by
        have q1 : (p.take j).length = j := by rw [List.length_take]; omega
        rw [ih j (by omega) (p.take j) q1 j0 (by omega), Int.zero_mul], e1, e2, low hl hk (by omega) (by omega), low hk hl (by omega) (by omega)] at e3
      omega
  exact fun p h0 h1 => go p.length p rfl h0 h1
theorem br_top {l k : List (α × Int)} {a b : Nat} (ha : 0 < a) (hb : 0 < b) (hl : No a l) (hk : No b k) {p : List α} (h : p.length = a + b) : ct (br l k) p = ct l (p.take a) * ct k (p.drop a) - ct k (p.take b) * ct l (p.drop b) := by
  obtain ⟨e1, e2⟩ := ends (br l k) (k ++ l) p
  have e3 := ct_br l k p
  have hlow := br_low ha hb hl hk
  rw [ct_app, S_two (by omega) fun j j0 j1 => by
    have q1 : (p.take j).length = j := by rw [List.length_take]; omega
    rw [hlow (p.take j) (by omega) (by omega), Int.zero_mul], e1, e2, top ha hb hl hk h, top hb ha hk hl (by omega)] at e3
  omega
end
/-! ### texts in order -/
theorem tri : ∀ x y : List Nat, x < y ∨ x = y ∨ y < x
  | [], [] => .inr (.inl rfl)
  | [], _ :: _ => .inl (List.nil_lt_cons _ _)
  | _ :: _, [] => .inr (.inr (List.nil_lt_cons _ _))
  | a :: x, b :: y => by
    rcases Nat.lt_trichotomy a b with h | h | h
    · exact .inl (List.cons_lt_cons_iff.mpr (.inl h))
    · subst h
      rcases tri x y with h | h | h
      · exact .inl (List.cons_lt_cons_iff.mpr (.inr ⟨rfl, h⟩))
      · exact .inr (.inl (by rw [h]))
      · exact .inr (.inr (List.cons_lt_cons_iff.mpr (.inr ⟨rfl, h⟩)))
    · exact .inr (.inr (List.cons_lt_cons_iff.mpr (.inl h)))
theorem irr (x : List Nat) : ¬ x < x := List.lt_irrefl x
theorem app_l : ∀ {x x' : List Nat}, x.length = x'.length → x < x' → ∀ y y' : List Nat, x ++ y < x' ++ y'
  | [], [], _, h, _, _ => absurd h (irr [])
  | [], _ :: _, h, _, _, _ => by cases h
  | _ :: _, [], h, _, _, _ => by cases h
  | a :: x, b :: x', hl, h, y, y' => by
    rcases List.cons_lt_cons_iff.mp h with h | ⟨h1, h⟩
    · exact List.cons_lt_cons_iff.mpr (.inl h)
    · exact List.cons_lt_cons_iff.mpr (.inr ⟨h1, app_l (Nat.succ.inj hl) h y y'⟩)
theorem app_r : ∀ (x : List Nat) {y y' : List Nat}, y < y' → x ++ y < x ++ y'
  | [], _, _, h => h
  | a :: x, _, _, h => List.cons_lt_cons_iff.mpr (.inr ⟨rfl, app_r x h⟩)
/-- of two parts, neither less -/
theorem app_ge {x x' y y' : List Nat} (hl : x.length = x'.length) (h1 : ¬ x < x') (h2 : ¬ y < y') : ¬ x ++ y < x' ++ y' := fun h => by
  rcases tri x x' with q | q | q
  · exact h1 q
  · subst q
    rcases tri y y' with r | r | r
    · exact h2 r
    · subst r
      exact irr _ h
    · exact irr _ (List.lt_trans h (app_r x r))
  · exact irr _ (List.lt_trans h (app_l hl.symm q y' y))
/-! ### brackets of texts that lead -/
section
variable {α : Type} [DecidableEq α]
/-- no shorter pattern lies in the row, of the same length none that is less, the text itself once -/
structure Br (g : Nat → α) (z : List Nat) (r : List (α × Int)) : Prop where
  no : No z.length r
  le : ∀ p : List Nat, p.length = z.length → ¬ z < p → ct r (p.map g) = if p = z then 1 else 0
theorem br_one {g : Nat → α} (hg : ∀ a b, g a = g b → a = b) (c : Nat) : Br g [c] [(g c, 1)] := by
  refine ⟨fun p h0 h1 => absurd h1 (by have : ([c] : List Nat).length = 1 := rfl; omega), fun p hp _ => ?_⟩
  obtain ⟨d, rfl⟩ := List.length_eq_one_iff.mp hp
  show A [g d] [(g c, (1 : Int))] (e 0) 1 = _
  rw [A_one, act_letter]
  show e 0 1 + (if ([g d] : List α)[0]? = some (g c) then e 0 0 else 0) = _
  by_cases h : d = c
  · subst h
    rw [List.getElem?_cons_zero, if_pos rfl, if_pos rfl]
    rfl
  · rw [List.getElem?_cons_zero, if_neg (fun z => h (hg _ _ (Option.some.inj z)).symm.symm), if_neg (fun z => h (List.cons.inj z).1)]
    rfl
theorem br_join {g : Nat → α} {x y : List Nat} {l k : List (α × Int)} (hx : x ≠ []) (hy : y ≠ []) (h : x ++ y < y ++ x) (Bl : Br g x l) (Bk : Br g y k) : Br g (x ++ y) (br l k) := by
  have x0 : 0 < x.length := List.length_pos_iff.mpr hx
  have y0 : 0 < y.length := List.length_pos_iff.mpr hy
  refine ⟨by rw [List.length_append]; exact br_low x0 y0 Bl.no Bk.no, fun p hp hle => ?_⟩
  rw [List.length_append] at hp
  have t1 : (p.take x.length).length = x.length := by rw [List.length_take]; omega
  have t2 : (p.drop x.length).length = y.length := by rw [List.length_drop]; omega
  have t3 : (p.take y.length).length = y.length := by rw [List.length_take]; omega
  have t4 : (p.drop y.length).length = x.length := by rw [List.length_drop]; omega
  have e1 := List.take_append_drop x.length p
  have e2 := List.take_append_drop y.length p
  rw [br_top x0 y0 Bl.no Bk.no (by rw [List.length_map]; exact hp), ← List.map_take, ← List.map_drop, ← List.map_take, ← List.map_drop]
  have none : ∀ {z q : List Nat} {r : List (α × Int)}, Br g z r → q.length = z.length → q < z → ct r (q.map g) = 0 := fun {z q r} B hl hq => by
    rw [B.le q hl fun h => irr _ (List.lt_trans hq h), if_neg fun e => by
      rw [e] at hq
      exact irr _ hq]
  have r2 : ct k ((p.take y.length).map g) * ct l ((p.drop y.length).map g) = 0 := by
    by_cases q1 : p.take y.length < y
    · rw [none Bk t3 q1, Int.zero_mul]
    · by_cases q2 : p.drop y.length < x
      · rw [none Bl t4 q2, Int.mul_zero]
      · have := app_ge t3 q1 q2
        rw [e2] at this
        rcases tri p (x ++ y) with s | s | s
        · exact absurd (List.lt_trans s h) this
        · exact absurd (by rw [s]; exact h) this
        · exact absurd s hle
  rw [r2, Int.sub_zero]
  rcases tri (p.take x.length) x with q | q | q
  · rw [none Bl t1 q, Int.zero_mul, if_neg fun z => by
      rw [z, List.take_left] at q
      exact irr _ q]
  · have h3 : ¬ y < p.drop x.length := fun r => hle (by
      rw [← e1, q]
      exact app_r x r)
    rw [Bl.le _ t1 (by rw [q]; exact irr _), if_pos q, Int.one_mul, Bk.le _ t2 h3]
    by_cases s : p.drop x.length = y
    · rw [if_pos s, if_pos (by rw [← e1, q, s])]
    · rw [if_neg s, if_neg fun z => s (by rw [z, List.drop_left])]
  · refine absurd ?_ hle
    rw [← e1]
    exact app_l t1.symm q _ _
end
end Bk

set_option Elab.async false
set_option linter.all false
set_option maxRecDepth 100000
set_option maxHeartbeats 6400000
namespace K4
open PySem L2 Tx Tg Tm
/-! ### the parts of a text -/
theorem cut_fr {z : Str} (i : Nat) : cds (cutS z (some (i : Int)) none) = (cds z).drop i := by
  unfold cutS
  show (((cds z).drop (HT.sIx z.length 0 (some (i : Int)))).take (HT.sIx z.length z.length none - HT.sIx z.length 0 (some (i : Int)))) = _
  rw [HT.sIx_none, HT.sIx_nat]
  by_cases h : i ≤ z.length
  · rw [Nat.min_eq_left h, List.take_of_length_le (by rw [List.length_drop, cds_len]; omega)]
  · rw [Nat.min_eq_right (by omega), List.drop_of_length_le (by rw [cds_len]; omega), List.drop_of_length_le (by rw [cds_len]; omega), List.take_nil]
theorem cut_mid {z : Str} {a b : Nat} (h1 : a ≤ b) (h2 : b ≤ z.length) : cutS z (some (a : Int)) (some (b : Int)) = tx (Ly.sl (cds z) a b) := by
  refine cds_ext ?_
  unfold cutS
  show (((cds z).drop (HT.sIx z.length 0 (some (a : Int)))).take (HT.sIx z.length z.length (some (b : Int)) - HT.sIx z.length 0 (some (a : Int)))) = _
  rw [HT.sIx_nat, HT.sIx_nat, Nat.min_eq_left h2, Nat.min_eq_left (by omega)]
  rfl
theorem at_is {z : Str} {i : Nat} (h : i < z.length) : atI z.cps.toList (i : Int) = some (Ly.gd (cds z) i) := by
  have hl : (cds z).length = z.length := cds_len z
  show atI (cds z) (i : Int) = _
  unfold atI ixN
  rw [if_pos (by omega), if_pos (by omega), Int.toNat_natCast]
  show (cds z)[i]? = _
  rw [List.getElem?_eq_getElem (by omega), Ly.gd_get]
theorem one_lst (c d : Nat) : ([d] : List Nat) < [c] ↔ d < c := by
  rw [List.cons_lt_cons_iff]
  exact ⟨fun h => h.elim id fun h => absurd h.2 (List.lt_irrefl []), .inl⟩
theorem one_le (c d : Nat) : (!decide ((⟨#[d]⟩ : Str).cps.toList < (⟨#[c]⟩ : Str).cps.toList)) = decide (c ≤ d) := by
  have e := one_lst c d
  show (!decide ([d] < [c])) = _
  rw [decide_eq_decide.mpr e]
  by_cases h : d < c
  · rw [decide_eq_true h, decide_eq_false (by omega)]
    rfl
  · rw [decide_eq_false h, decide_eq_true (by omega)]
    rfl
theorem one_lt (c d : Nat) : decide ((⟨#[c]⟩ : Str).cps.toList < (⟨#[d]⟩ : Str).cps.toList) = decide (c < d) := by
  have e := one_lst d c
  exact decide_eq_decide.mpr e
theorem tand2 {a b : TT} {σ : L2.St} {H : Hp} {Q : Bool → Hp → Prop} (c1 c2 : Bool) (h1 : ∀ R : Bool → Hp → Prop, R c1 H → a σ H R) (h2 : c1 = true → ∀ R : Bool → Hp → Prop, R c2 H → b σ H R) (h : Q (c1 && c2) H) : tAnd a b σ H Q := by
  refine h1 _ ?_
  cases c1 with
  | true => exact iteT (h2 rfl _ h)
  | false => exact iteF h
def LFo (z : Str) (L : Addr) (H : Hp) (m : Nat) (σ : L2.St) (H2 : Hp) : Prop := ∃ (st : Nat) (F : List (List Nat)) (u3 u4 u5 : Option V), σ = [some (.str z), some (.ref L), some (.int (st : Int)), u3, u4, u5] ∧ Same H H2 ∧ H2 L = some (.lst ((F.map tx).map V.str)) ∧ st + m = z.length ∧ F ++ Ly.lfac ((cds z).drop st) = Ly.lfac (cds z)
def LFi (z : Str) (L : Addr) (st : Nat) (u5 : Option V) (H : Hp) (m : Nat) (σ : L2.St) (H2 : Hp) : Prop := ∃ (ag e : Nat), σ = [some (.str z), some (.ref L), some (.int (st : Int)), some (.int (ag : Int)), some (.int (e : Int)), u5] ∧ H2 = H ∧ Ly.Inn (cds z) st ag e ∧ e + m = z.length
def LFj (z : Str) (L : Addr) (st ag e : Nat) (H : Hp) (m : Nat) (σ : L2.St) (H2 : Hp) : Prop := ∃ (q : Nat) (F : List (List Nat)), σ = [some (.str z), some (.ref L), some (.int ((st + q * (e - ag) : Nat) : Int)), some (.int (ag : Int)), some (.int (e : Int)), some (.int ((e - ag : Nat) : Int))] ∧ Same H H2 ∧ H2 L = some (.lst ((F.map tx).map V.str)) ∧ st + q * (e - ag) + m = e ∧
  F ++ Ly.lfac ((cds z).drop (st + q * (e - ag))) = Ly.lfac (cds z)
def lfz (z : Str) : List Str := (Ly.lfac (cds z)).map tx
section
variable {P : Program} {w : World} {K : PySem.W.Frag} {mg : Str → Option Value} {base : Heap}
abbrev nLF : List Str := ["pattern", "found", "start", "again", "end", "size"]
theorem scLF : FnScope nLF ["pattern"] (defScope sLF) := ⟨rfl, rfl, rfl, by decide +kernel, rfl, by decide +kernel, by decide +kernel⟩
def spLF : Sp := fun vs H Q _ => ∃ (z : Str), vs = [.str z] ∧ z.length ≤ 1000 ∧ ∀ p H', Same H H' → H' p = some (.tup (txs (lfz z))) → Q (.ref p) H'
theorem ok_lf {f : Addr} {fd : FuncData} (F : Fun K "leading_factors" "leading_factors" sLF f fd) (T : Txt K mg) : FnOk P w K mg base CX0 1 f fd ["pattern"] spLF := by
  refine F.ok scLF (fun vs H Q E h => ?_) (fun cdv A outer s H vs Q E hr h => ?_)
  · obtain ⟨z, rfl, _⟩ := h
    rfl
  · obtain ⟨z, rfl, hz, q⟩ := h
    have hzs : z.length ≤ sizeLine := Nat.le_trans hz (by decide)
    refine ⟨_, (pss_cons (ps_set (i := 1) scLF.nd rfl (Or.inl rfl) (pe_lst pa_nil))
    (pss_cons (ps_set (i := 2) scLF.nd rfl (Or.inl rfl) pe_int)
    (pss_cons (ps_while PassesOwn.never (pt_cmpR op_lt (pv 2) (pe_callB call_len_str (by rfl) T.len PySem.boot_len (pa_cons (pv 0) pa_nil)) (nomark _))
      (pss_cons (ps_par (i := 3) (j := 4) (by rfl) scLF.nd rfl rfl (by decide) rfl rfl (pa_cons (pv 2) (pa_cons (pe_op op_add (pv 2) pe_int) pa_nil)) (by rfl))
      (pss_cons (ps_while PassesOwn.never (PW.pt (pw_and (pt_cmpR op_lt (pv 4) (pe_callB call_len_str (by rfl) T.len PySem.boot_len (pa_cons (pv 0) pa_nil)) (nomark _)) (pw_and1 (pt_cmpR op_le_str (pe_ix ix_str (pv 0) (pv 3) (fun _ _ => rfl)) (pe_ix ix_str (pv 0) (pv 4) (fun _ _ => rfl)) (nomark _)))))
        (pss_cons (ps_set (i := 3) scLF.nd rfl (Or.inl rfl) (pe_ifExp (pt_cmpR op_lt_str (pe_ix ix_str (pv 0) (pv 3) (fun _ _ => rfl)) (pe_ix ix_str (pv 0) (pv 4) (fun _ _ => rfl)) (nomark _)) (pv 2) (pe_op op_add (pv 3) pe_int)))
        (pss_one (ps_set (i := 4) scLF.nd rfl (Or.inl rfl) (pe_op op_add (pv 4) pe_int)))))
      (pss_cons (ps_set (i := 5) scLF.nd rfl (Or.inl rfl) (pe_op op_sub (pv 4) (pv 3)))
      (pss_one (ps_while PassesOwn.never (pt_cmpR op_le (pv 2) (pv 3) (nomark _))
        (pss_cons (ps_expr (pe_bm PySem.F.plainAttrs_list PySem.F.slot_list_append PySem.F.type_list_append mt_append (pv 1) (pa_cons (pe_slice sl_str (pv 0) (po_some (pv 2)) (po_some (pe_op op_add (pv 2) (pv 5)))) pa_nil)))
        (pss_one (ps_set (i := 2) scLF.nd rfl (Or.inl rfl) (pe_op op_add (pv 2) (pv 5)))))))))))
    (pss_one (ps_ret (pe_callTy call_tuple_of (by rfl) T.tuple (by decide +kernel) (pa_cons (pv 1) pa_nil))))))), ?_⟩
    refine ⟨Nat.zero_le _, fun L nL => ?_⟩
    have s1 := same_upd (o := .lst []) nL
    have e1 : (upd H L (.lst [])) L = some (.lst []) := upd_same
    generalize upd H L (.lst []) = H1 at s1 e1 ⊢
    dsimp only [tSeq, gName]
    refine ⟨LFo z L H, ⟨z.length, 0, [], none, none, none, rfl, s1, e1, Nat.zero_add _, rfl⟩, ?_⟩
    rintro m σ H2 ⟨st, F, u3, u4, u5, rfl, s2, e2, hm, hF⟩
    refine ⟨_, rfl, _, rfl, z, rfl, hzs, _, _, rfl, rfl, _, rfl, ?_⟩
    have flen : F.length ≤ z.length := by
      have := congrArg List.length hF
      rw [List.length_append] at this
      have h2 := Ly.lfac_len (cds z)
      rw [cds_len] at h2
      omega
    refine ite2 (fun hc => ?_) (fun hc => ?_)
    · have hc : (st : Int) < (z.length : Int) := of_decide_eq_true hc
      have hst : st < z.length := by omega
      refine ⟨fun σ' H' => ∃ m', m' < m ∧ LFo z L H m' σ' H', fun _ _ z => z, ?_⟩
      refine ⟨_, rfl, _, rfl, _, _, rfl, rfl, _, _, rfl, ?_⟩
      refine ⟨LFi z L st u5 H2, ⟨z.length - (st + 1), st, st + 1, rfl, rfl, Ly.inn_0 (by rw [cds_len]; exact hst), by omega⟩, ?_⟩
      rintro m1 σ H3 ⟨ag, e, rfl, rfl, I, hm1⟩
      have ia := I.a
      have ib := I.b
      have ic := I.c
      rw [cds_len] at ic
      have lt1 : decide ((e : Int) < (z.length : Int)) = true → e < z.length := fun h => by have := of_decide_eq_true h; omega
      have ha1 : (some (.int (ag : Int)) : Option V) = some (.int (ag : Int)) := rfl
      refine tand2 (decide ((e : Int) < (z.length : Int))) (decide (Ly.gd (cds z) ag ≤ Ly.gd (cds z) e)) (fun R r => ?_) (fun h R r => ?_) ?_
      · exact ⟨_, rfl, _, rfl, z, rfl, hzs, _, _, rfl, rfl, _, rfl, r⟩
      · refine ⟨_, rfl, _, rfl, z, _, _, rfl, rfl, hzs, at_is (by omega), _, rfl, _, rfl, z, _, _, rfl, rfl, hzs, at_is (lt1 h), _, _, rfl, rfl, _, rfl, ?_⟩
        rw [one_le]
        exact r
      refine ite2 (fun hb => ?_) (fun hb => ?_)
      · obtain ⟨hb1, hb2⟩ := Bool.and_eq_true _ _ ▸ hb
        have he := lt1 hb1
        have hb2 := of_decide_eq_true hb2
        refine ⟨fun σ' H' => ∃ m', m' < m1 ∧ LFi z L st u5 H3 m' σ' H', fun _ _ z => z, ?_⟩
        refine ⟨_, rfl, _, rfl, z, _, _, rfl, rfl, hzs, at_is (by omega), _, rfl, _, rfl, z, _, _, rfl, rfl, hzs, at_is he, _, _, rfl, rfl, _, rfl, ?_⟩
        rw [one_lt]
        refine ite2 (fun hl => ?_) (fun hl => ?_)
        · have hl := of_decide_eq_true hl
          refine ⟨_, rfl, _, rfl, _, _, rfl, rfl, ?_⟩
          exact ⟨m1 - 1, by omega, st, e + 1, rfl, rfl, Ly.inn_less I (by rw [cds_len]; exact he) hl, by omega⟩
        · have hl : ¬ Ly.gd (cds z) ag < Ly.gd (cds z) e := fun q => hl (decide_eq_true q)
          refine ⟨_, rfl, _, _, rfl, rfl, _, rfl, _, _, rfl, rfl, ?_⟩
          exact ⟨m1 - 1, by omega, ag + 1, e + 1, rfl, rfl, Ly.inn_more I (by rw [cds_len]; exact he) (by omega), by omega⟩
      · have hg : e < (cds z).length → Ly.gd (cds z) e < Ly.gd (cds z) ag := fun h => by
          rw [cds_len] at h
          rcases Nat.lt_or_ge (Ly.gd (cds z) e) (Ly.gd (cds z) ag) with lt | ge
          · exact lt
          · exact absurd (by rw [decide_eq_true (by omega), decide_eq_true ge]; rfl) hb
        refine ⟨_, rfl, _, rfl, _, _, rfl, rfl, ?_⟩
        have ez : ((e : Int) - (ag : Int)) = ((e - ag : Nat) : Int) := by omega
        dsimp only [tSeq, gName]
        rw [ez]
        refine ⟨LFj z L st ag e H, ⟨e - st, 0, F, (by rw [Nat.zero_mul, Nat.add_zero]; rfl), s2, e2, by omega, (by rw [Nat.zero_mul, Nat.add_zero]; exact hF)⟩, ?_⟩
        rintro m2 σ H4 ⟨k, G, rfl, s4, e4, hm2, hG⟩
        have glen : G.length ≤ z.length := by
          have := congrArg List.length hG
          rw [List.length_append] at this
          have h2 := Ly.lfac_len (cds z)
          rw [cds_len] at h2
          omega
        refine ⟨_, rfl, _, rfl, _, _, rfl, rfl, _, rfl, ?_⟩
        refine ite2 (fun hk => ?_) (fun hk => ?_)
        · have hk : st + k * (e - ag) ≤ ag := by have := of_decide_eq_true hk; omega
          have estep := Ly.inn_end I hg hk
          refine ⟨fun σ' H' => ∃ m', m' < m2 ∧ LFj z L st ag e H m' σ' H', fun _ _ z => z, ?_⟩
          refine ⟨_, rfl, .inl ⟨rfl, _, SqL.of e4⟩, ?_⟩
          have ea : (((st + k * (e - ag) : Nat) : Int) + ((e - ag : Nat) : Int)) = ((st + (k + 1) * (e - ag) : Nat) : Int) := by
            rw [Nat.succ_mul]
            omega
          have eb : st + k * (e - ag) + (e - ag) = st + (k + 1) * (e - ag) := by
            rw [Nat.succ_mul]
            omega
          rw [eb] at estep
          refine ⟨_, rfl, _, rfl, _, rfl, _, rfl, _, rfl, _, _, rfl, rfl, _, rfl, z, rfl, hzs, L, _, _, rfl, rfl, e4, ?_, ?_⟩
          · rw [List.length_map, List.length_map]
            exact Nat.lt_of_le_of_lt (show G.length ≤ 1000 by omega) (by decide)
          · refine ⟨_, rfl, _, rfl, _, _, rfl, rfl, ?_⟩
            refine ⟨m2 - (e - ag), by omega, k + 1, G ++ [Ly.sl (cds z) (st + k * (e - ag)) (st + (k + 1) * (e - ag))], ?_, same_put s4 nL, ?_, by omega, ?_⟩
            · rw [← ea]
              rfl
            · rw [upd_same, ea, cut_mid (by omega) (by omega), List.map_append, List.map_append]
              rfl
            · rw [List.append_assoc, ← hG, estep]
              rfl
        · have hk : ¬ st + k * (e - ag) ≤ ag := fun q => hk (decide_eq_true (by omega))
          exact ⟨m2 + (z.length - e), by omega, st + k * (e - ag), G, _, _, _, rfl, s4, e4, by omega, hG⟩
    · have hc : ¬ (st : Int) < (z.length : Int) := fun q => hc (decide_eq_true q)
      have hd : (cds z).drop st = [] := List.drop_of_length_le (by rw [cds_len]; omega)
      rw [hd, Ly.lfac_nil, List.append_nil] at hF
      rw [hF] at e2
      refine ⟨_, rfl, L, _, rfl, .inl ⟨SqL.of e2, fun l hl => ?_⟩⟩
      exact q l _ (s2.trans (same_upd hl)) upd_same
end
end K4

set_option Elab.async false
/-! a text that leads, cut in halves -/
namespace Ly
/-- the last part of what is behind the first letter, and what is ahead of it -/
def hv (l : List Nat) : List Nat × List Nat := (l.take (l.length - ((lfac l.tail).getLastD []).length), (lfac l.tail).getLastD [])
structure Hv (l : List Nat) : Prop where
  j : (hv l).1 ++ (hv l).2 = l
  a : (hv l).1 ≠ []
  b : (hv l).2 ≠ []
  le : lead (hv l).2 = true
  n : (hv l).1.length + (hv l).2.length = l.length
  a0 : 0 < (hv l).1.length
  b0 : 0 < (hv l).2.length
theorem hv_last {l : List Nat} (h : 2 ≤ l.length) : (lfac l.tail).getLast? = some (hv l).2 := by
  have ht : l.tail ≠ [] := fun z => by
    have := congrArg List.length z
    rw [List.length_tail] at this
    have : l.length - 1 = 0 := this
    omega
  have hn : lfac l.tail ≠ [] := by
    rw [lfac_cons ht]
    exact fun z => by cases z
  rw [List.getLast?_eq_some_getLast hn]
  show _ = some ((lfac l.tail).getLastD [])
  rw [List.getLastD_eq_getLast?, List.getLast?_eq_some_getLast hn]
  rfl
theorem hv_all {l : List Nat} (h : 2 ≤ l.length) : Hv l := by
  have hL := hv_last h
  have hm : (hv l).2 ∈ lfac l.tail := List.mem_of_getLast? hL
  have hle := lfac_lead _ hm
  obtain ⟨pre, hp⟩ : ∃ pre, lfac l.tail = pre ++ [(hv l).2] := ⟨_, (List.getLast?_eq_some_iff.mp hL).choose_spec⟩
  have ej := lfac_join l.tail
  rw [hp, List.flatten_append] at ej
  have e1 : ([(hv l).2] : List (List Nat)).flatten = (hv l).2 := by simp
  rw [e1] at ej
  obtain ⟨c, t, rfl⟩ : ∃ c t, l = c :: t := by
    cases l with
    | nil => exact absurd h (by decide)
    | cons c t => exact ⟨c, t, rfl⟩
  rw [List.tail_cons] at ej
  have b0 := List.length_pos_iff.mpr (lead_ne hle)
  have el : pre.flatten.length + (hv (c :: t)).2.length = t.length := by
    rw [← ej, List.length_append]
    rw [ej]
  have ea : (hv (c :: t)).1 = c :: pre.flatten := by
    show (c :: t).take ((c :: t).length - (hv (c :: t)).2.length) = _
    have : (c :: t).length - (hv (c :: t)).2.length = pre.flatten.length + 1 := by
      rw [List.length_cons]
      omega
    rw [this, List.take_succ_cons]
    conv => lhs; rw [← ej]
    rw [List.take_left]
  refine ⟨?_, ?_, lead_ne hle, hle, ?_, ?_, b0⟩
  · rw [ea, List.cons_append, ej]
  · rw [ea]
    exact fun z => by cases z
  · rw [ea, List.length_cons, List.length_cons]
    omega
  · rw [ea, List.length_cons]
    omega
/-- the first half leads too, and so on with both halves -/
def okz : Nat → List Nat → Bool
  | 0, _ => false
  | n + 1, l => lead l && (decide (l.length ≤ 1) || (okz n (hv l).1 && okz n (hv l).2 && (List.range' 1 ((hv l).1.length - 1)).all fun k => !lead (l.drop k)))
theorem okz_lead {n : Nat} {l : List Nat} (h : okz n l = true) : lead l = true := by
  cases n with
  | zero => cases h
  | succ n =>
    unfold okz at h
    rw [Bool.and_eq_true] at h
    exact h.1
theorem okz_hv {n : Nat} {l : List Nat} (h : okz n l = true) (hl : 2 ≤ l.length) : okz n (hv l).1 = true ∧ okz n (hv l).2 = true ∧ ∀ k, 0 < k → k < (hv l).1.length → lead (l.drop k) = false := by
  have up : ∀ (n : Nat) (l : List Nat), okz n l = true → okz (n + 1) l = true := by
    intro n
    induction n with
    | zero => exact fun l h => by cases h
    | succ n ih =>
      intro l h
      unfold okz at h ⊢
      rw [Bool.and_eq_true, Bool.or_eq_true, Bool.and_eq_true, Bool.and_eq_true] at h ⊢
      exact ⟨h.1, h.2.imp id fun q => ⟨⟨ih _ q.1.1, ih _ q.1.2⟩, q.2⟩⟩
  cases n with
  | zero => cases h
  | succ n =>
    unfold okz at h
    rw [Bool.and_eq_true, Bool.or_eq_true, Bool.and_eq_true, Bool.and_eq_true] at h
    rcases h.2 with q | q
    · exact absurd (of_decide_eq_true q) (by omega)
    · refine ⟨up n _ q.1.1, up n _ q.1.2, fun k k0 k1 => ?_⟩
      have := List.all_eq_true.mp q.2 k (List.mem_range'_1.mpr ⟨k0, by omega⟩)
      simpa using this
/-- of the two halves put together the other way round -/
theorem hv_swap {l : List Nat} (h : lead l = true) (hl : 2 ≤ l.length) : (hv l).1 ++ (hv l).2 < (hv l).2 ++ (hv l).1 := by
  have H := hv_all hl
  have h1 := (lead_iff.mp h).2 (hv l).1.length H.a0 (by have := H.n; have := H.b0; omega)
  have e1 : l.drop (hv l).1.length = (hv l).2 := by
    have := List.drop_left (l₁ := (hv l).1) (l₂ := (hv l).2)
    rwa [H.j] at this
  rw [e1] at h1
  rw [H.j]
  rw [List.lt_iff_exists] at h1
  rw [List.lt_iff_exists]
  rcases h1 with ⟨_, h2⟩ | ⟨t, t1, t2, t3, t4⟩
  · have := H.n
    have := H.a0
    omega
  · refine .inr ⟨t, t1, by rw [List.length_append]; omega, fun j hj => ?_, ?_⟩
    · rw [List.getElem_append_left (by omega)]
      exact t3 j hj
    · rw [List.getElem_append_left t2]
      exact t4
end Ly

set_option Elab.async false
set_option linter.all false
set_option maxRecDepth 100000
set_option maxHeartbeats 3200000
/-! lambdas with one parameter as values: made, handed on, called -/
namespace Lp
open PySem PySem.Spec PyProof.Rows L2 LamX
/-! ### pinned objects -/
/-- an object that stays just as it is -/
abbrev PinO (o : Obj) : HO := .frz o (.ext fun _ => True)
abbrev Pins := List (Addr × Obj)
def pin (L : Pins) (H : Hp) : Hp := fun b => match L.lookup b with
  | some o => some (PinO o)
  | none => H b
def unp (L : Pins) (H : Hp) : Hp := fun b => match L.lookup b with
  | some _ => none
  | none => H b
def Pinned (L : Pins) (H : Hp) : Prop := ∀ b o, L.lookup b = some o → H b = some (PinO o)
def Clear (L : Pins) (H : Hp) : Prop := ∀ b o, L.lookup b = some o → H b = none
section
variable {L : Pins} {H H' : Hp} {b : Addr} {o : Obj} {u : HO}
theorem pin_at (h : L.lookup b = some o) : pin L H b = some (PinO o) := by unfold pin; rw [h]
theorem pin_off (h : L.lookup b = none) : pin L H b = H b := by unfold pin; rw [h]
theorem unp_at (h : L.lookup b = some o) : unp L H b = none := by unfold unp; rw [h]
theorem unp_off (h : L.lookup b = none) : unp L H b = H b := by unfold unp; rw [h]
theorem pinned_pin : Pinned L (pin L H) := fun b o h => pin_at h
theorem clear_unp : Clear L (unp L H) := fun b o h => unp_at h
theorem pin_unp (h : Pinned L H) : pin L (unp L H) = H := funext fun b => by
  cases q : L.lookup b with
  | some o => rw [pin_at q, h b o q]
  | none => rw [pin_off q, unp_off q]
theorem unp_pin (h : Clear L H) : unp L (pin L H) = H := funext fun b => by
  cases q : L.lookup b with
  | some o => rw [unp_at q, h b o q]
  | none => rw [unp_off q, pin_off q]
theorem off_c (h : Clear L H) (e : H b = some u) : L.lookup b = none := by
  cases q : L.lookup b with
  | none => rfl
  | some o =>
    rw [h b o q] at e
    cases e
theorem off_p (h : Pinned L H) (e : H b = some u) (n : ∀ o, u ≠ PinO o) : L.lookup b = none := by
  cases q : L.lookup b with
  | none => rfl
  | some o =>
    rw [h b o q] at e
    exact absurd (Option.some.inj e).symm (n o)
theorem pin_some (h : Clear L H) (e : H b = some u) : pin L H b = some u := by rw [pin_off (off_c h e), e]
theorem unp_some (h : Pinned L H) (e : H b = some u) (n : ∀ o, u ≠ PinO o) : unp L H b = some u := by rw [unp_off (off_p h e n), e]
theorem Pinned.same (s : ∀ b o, H b = some o → H' b = some o) (h : Pinned L H) : Pinned L H' := fun b o q => s _ _ (h b o q)
/-- what stays, seen without the pins -/
theorem same_unp (hc : Clear L H) (s : ∀ b o, pin L H b = some o → H' b = some o) : ∀ b o, H b = some o → unp L H' b = some o := fun b o e => by
  have q := off_c hc e
  rw [unp_off q]
  exact s b o (by rw [pin_off q, e])
end
section
variable {P : Program} {w : World} {K : PySem.W.Frag} {mg : Str → Option Value} {base : Heap} {A : Around} {outer : List Env} {s s' : Shared} {L : Pins} {H : Hp} {h : Heap}
theorem hok_pin (ok : HOk P w H h) (hc : Clear L H) (he : ∀ b o, L.lookup b = some o → h.get? b = some o) : HOk P w (pin L H) h := fun a u e => by
  cases q : L.lookup a with
  | some o =>
    rw [pin_at q] at e
    cases e
    exact ⟨he a o q, trivial, ⟨o, he a o q⟩, fun _ _ _ _ => trivial⟩
  | none =>
    rw [pin_off q] at e
    exact (ok a u e).stay (fun _ _ _ z => z) (fun b z => pin_some hc z) fun b xs z => pin_some hc z
theorem hok_unp (ok : HOk P w H h) (hp : Pinned L H) : HOk P w (unp L H) h := fun a u e => by
  cases q : L.lookup a with
  | some o =>
    rw [unp_at q] at e
    cases e
  | none =>
    rw [unp_off q] at e
    exact (ok a u e).stay (fun _ _ _ z => z) (fun b z => unp_some hp z fun o y => by cases y) fun b xs z => unp_some hp z fun o y => by cases y
theorem pinned_get (ok : HOk P w H h) (hp : Pinned L H) : ∀ b o, L.lookup b = some o → h.get? b = some o := fun b o q => (ok b _ (hp b o q)).1
theorem env_pin (e : Env0 P w K mg base A outer s H) (hc : Clear L H) (he : ∀ b o, L.lookup b = some o → s.heap.get? b = some o) (hf : ∀ b o, L.lookup b = some o → b ∉ frs outer) (hb : ∀ b o, L.lookup b = some o → base.get? b = none) : Env0 P w K mg base A outer s (pin L H) where
  frames := e.frames
  mod := e.mod
  bs := fun b o q => by
    refine ⟨(e.bs b o q).1, ?_⟩
    cases z : L.lookup b with
    | none => rw [pin_off z, (e.bs b o q).2]
    | some o' =>
      rw [hb b o' z] at q
      cases q
  bsz := e.bsz
  funs := e.funs
  frf := fun b q => by
    cases z : L.lookup b with
    | none => rw [pin_off z, e.frf b q]
    | some o' => exact absurd q (hf b o' z)
  hok := hok_pin e.hok hc he
  bare := e.bare
theorem env_unp (e : Env0 P w K mg base A outer s H) (hp : Pinned L H) : Env0 P w K mg base A outer s (unp L H) where
  frames := e.frames
  mod := e.mod
  bs := fun b o q => by
    refine ⟨(e.bs b o q).1, ?_⟩
    cases z : L.lookup b with
    | none => rw [unp_off z, (e.bs b o q).2]
    | some o' => exact unp_at z
  bsz := e.bsz
  funs := e.funs
  frf := fun b q => by
    cases z : L.lookup b with
    | none => rw [unp_off z, e.frf b q]
    | some o' => exact unp_at z
  hok := hok_unp e.hok hp
  bare := e.bare
/-- a call's end, the pins taken off -/
theorem ce_out {Q : VK} {u : Value} (hc : Clear L H) (he : ∀ b o, L.lookup b = some o → s.heap.get? b = some o) (h : CE outer P w (pin L H) s (fun v H2 => Q v (unp L H2)) u s') : CE outer P w H s Q u s' := by
  obtain ⟨v, H2, os, bare, un, ok, rv, q⟩ := h
  have hp : Pinned L H2 := fun b o z => un.frzs b o _ (pin_at z)
  have hg := pinned_get ok hp
  refine ⟨v, unp L H2, os, bare, ⟨fun b o e n hf hx => ?_, fun b o e n hf hx => ?_, fun b o e n hx => ?_, un.there, fun b xs e => ?_, fun b o u e => ?_, fun b ps e => ?_⟩, hok_unp ok hp, rv, q⟩
  · cases z : L.lookup b with
    | some o' =>
      rw [he b o' z] at e
      cases e
      exact hg b _ z
    | none => exact un.keep b o e (by rw [pin_off z]; exact n) hf hx
  · cases z : L.lookup b with
    | some o' =>
      rw [he b o' z] at e
      cases e
      exact ⟨o.slots, hg b _ z⟩
    | none => exact un.slot b o e (by rw [pin_off z]; exact n) hf hx
  · cases z : L.lookup b with
    | some o' => exact unp_at z
    | none => rw [unp_off z]; exact un.free b o e (by rw [pin_off z]; exact n) hx
  · have z := off_c hc e
    rw [unp_off z]
    exact un.tups b xs (by rw [pin_off z]; exact e)
  · have z := off_c hc e
    rw [unp_off z]
    exact un.frzs b o u (by rw [pin_off z]; exact e)
  · have z := off_c hc e
    obtain ⟨more, y⟩ := un.tbls b ps (by rw [pin_off z]; exact e)
    exact ⟨more, by rw [unp_off z]; exact y⟩
/-- a call's end, the pins put on again -/
theorem ce_in {Q : VK} {u : Value} (hp : Pinned L H) (ok0 : HOk P w H s.heap) (hf : ∀ b o, L.lookup b = some o → b ∉ frs outer) (h : CE outer P w (unp L H) s (fun v H2 => Q v (pin L H2)) u s') : CE outer P w H s Q u s' := by
  obtain ⟨v, H2, os, bare, un, ok, rv, q⟩ := h
  have hg0 := pinned_get ok0 hp
  have hc : Clear L H2 := fun b o z => un.free b o (hg0 b o z) (unp_at z) (by simp)
  have hg : ∀ b o, L.lookup b = some o → s'.heap.get? b = some o := fun b o z => un.keep b o (hg0 b o z) (unp_at z) (hf b o z) (by simp)
  refine ⟨v, pin L H2, os, bare, ⟨fun b o e n hf hx => ?_, fun b o e n hf hx => ?_, fun b o e n hx => ?_, un.there, fun b xs e => ?_, fun b o u e => ?_, fun b ps e => ?_⟩, hok_pin ok hc hg, rv, q⟩
  · have z : L.lookup b = none := by
      cases z : L.lookup b with
      | none => rfl
      | some o' => rw [hp b o' z] at n; cases n
    exact un.keep b o e (by rw [unp_off z]; exact n) hf hx
  · have z : L.lookup b = none := by
      cases z : L.lookup b with
      | none => rfl
      | some o' => rw [hp b o' z] at n; cases n
    exact un.slot b o e (by rw [unp_off z]; exact n) hf hx
  · have z : L.lookup b = none := by
      cases z : L.lookup b with
      | none => rfl
      | some o' => rw [hp b o' z] at n; cases n
    rw [pin_off z]
    exact un.free b o e (by rw [unp_off z]; exact n) hx
  · have z := off_p hp e fun o y => by cases y
    rw [pin_off z]
    exact un.tups b xs (by rw [unp_off z]; exact e)
  · cases z : L.lookup b with
    | some o' =>
      rw [hp b o' z] at e
      rw [pin_at z, ← e]
    | none =>
      rw [pin_off z]
      exact un.frzs b o u (by rw [unp_off z]; exact e)
  · have z := off_p hp e fun o y => by cases y
    obtain ⟨more, y⟩ := un.tbls b ps (by rw [unp_off z]; exact e)
    exact ⟨more, by rw [pin_off z]; exact y⟩
end
/-! ### a lambda that can be called -/
/-- f, a lambda whose objects are pinned, keeps the promise -/
structure LamOk (P : Program) (w : World) (K : PySem.W.Frag) (mg : Str → Option Value) (base : Heap) (k : Nat) (f : Addr) (L : Pins) (c' : Addr) (q : Str) (sp : Sp) : Prop where
  fn : ∃ fo, L.lookup f = some fo ∧ ∀ h : Heap, h.get? f = some fo → PySem.W.FnAt f h
  run : ∀ (A : Around) (outer : List Env) (s : Shared) (H : Hp) (us : List Value) (vs : List V) (Q : VK), Room k A → Env0 P w K mg base A outer s H → Pinned L H → H c' = some (CodeO c' q) → Vals vs us → sp vs (unp L H) (fun v H' => Q v (pin L H')) E0 →
    codeAny (model P w) A (.call (.ref f) ⟨us, []⟩) (CR CX0 outer P w H s Q E0) s
/-- ready: the pins, and the code object -/
structure LamRdy (L : Pins) (c' : Addr) (q : Str) (H : Hp) : Prop where
  pn : Pinned L H
  co : H c' = some (CodeO c' q)
theorem LamRdy.same {L : Pins} {c' : Addr} {q : Str} {H H' : Hp} (s : ∀ b o, H b = some o → H' b = some o) (h : LamRdy L c' q H) : LamRdy L c' q H' := ⟨h.pn.same s, s _ _ h.co⟩
def tLamCall (i : Nat) (f : Addr) (L : Pins) (c' : Addr) (q : Str) (sp : Sp) (t : TA) : TE := fun σ H Q => σ[i]? = some (some (.ref f)) ∧ LamRdy L c' q H ∧ t σ H fun vs H1 => LamRdy L c' q H1 ∧ sp vs (unp L H1) (fun v H' => Q v (pin L H')) E0
section
variable {X : Cx} {k i : Nat} {f c' : Addr} {L : Pins} {q : Str} {sp : Sp} {x : Str} {p pos : Pos} {e : Expr} {es : List Expr} {t : TA}
/-- a(e, ..), a a local that holds a lambda -/
theorem pe_lamc (F : LamOk X.prog X.w X.K X.mg X.base k f L c' q sp) (hr : Room k X.A) (hN : X.N[i]? = some x) (hv : Vis X.env.scope x) (ha : PA X (e :: es) t)
    (hd : (x == ("__debug__" : Str)) = false := by decide) (hcd : (x == ("__classdict__" : Str)) = false := by decide)
    (he : starEach (e :: es) X.env = (false, eval e X.env) :: starEach es X.env := by rfl) (hpl : (backTo pos (starEach es X.env)).any (·.1) = false := by rfl) :
    PE X (.Call (.Name x p) (e :: es) [] pos) (tLamCall i f L c' q sp t) := by
  refine ⟨fun pins s σ H Q I h => ?_⟩
  obtain ⟨hs, hR, ht⟩ := h
  obtain ⟨fo, hfo, at_⟩ := F.fn
  refine wpAny_Call_Name_kw (thn ((pe_var (pos := p) (i := i) hN hv hd hcd).run pins s σ H (fun v H1 => v = .ref f ∧ H1 = H) I ⟨.ref f, hs, rfl, rfl⟩) fun u s1 ⟨v, H1, I1, r1, q1⟩ => ?_)
  obtain ⟨ev, eH⟩ := q1
  subst ev
  subst eH
  obtain rfl : u = Value.ref f := r1
  refine PySem.W.callWith_F (at_ _ (pinned_get I1.hok hR.pn f fo hfo)) (thn (ha.run pos pins s1 σ H1 _ I1 ht) fun us s2 ⟨vs, H2, I2, r2, hR2, q2⟩ => ⟨at_ _ (pinned_get I2.hok hR2.pn f fo hfo), ?_⟩) he hpl
  refine wpAny_call (codeAny_mono (F.run X.A X.stack s2 H2 us vs Q hr I2.env0 hR2.pn hR2.co r2 q2) fun r s' hq => ?_)
  cases r with
  | error e => exact (show False from hq).elim
  | ok fl =>
    cases fl with
    | ret u => exact I2.after hq
    | next => exact False.elim hq
    | brk => exact False.elim hq
    | cont => exact False.elim hq
end
/-! ### the lambda's frame -/
/-- one parameter a; all other names captured or global -/
structure LamS1 (sc scope : Scope) (a : Str) : Prop where
  kind : scope.kind = .function
  co : scope.isCoroutine = false
  gen : scope.isGenerator = false
  par : scope.names.lookup a = some .local
  own : ∀ y ∈ scope.names, y.2 ≠ .cell ∧ (y.2 = .local → y.1 = a)
  free : ∀ y ∈ scope.names, y.2 = .free → sc.names.lookup y.1 = some .cell ∨ sc.names.lookup y.1 = some .free
def lamSB1 (sc scope : Scope) (a : Str) : Bool :=
  decide (scope.kind = .function) && (!scope.isCoroutine && (!scope.isGenerator && (decide (scope.names.lookup a = some .local) && scope.names.all fun y => !decide (y.2 = .cell) && ((!decide (y.2 = .local) || decide (y.1 = a)) && (!decide (y.2 = .free) || (decide (sc.names.lookup y.1 = some .cell) || decide (sc.names.lookup y.1 = some .free)))))))
theorem lamS1_by {sc scope : Scope} {a : Str} (h : lamSB1 sc scope a = true) : LamS1 sc scope a := by
  unfold lamSB1 at h
  simp only [Bool.and_eq_true, Bool.or_eq_true, Bool.not_eq_true', decide_eq_true_eq, decide_eq_false_iff_not, List.all_eq_true] at h
  obtain ⟨h1, h2, h3, h4, h5⟩ := h
  exact ⟨h1, h2, h3, h4, fun y hy => ⟨(h5 y hy).1, fun e => (h5 y hy).2.1.resolve_left fun n => n e⟩, fun y hy e => (h5 y hy).2.2.resolve_left fun n => n e⟩
/-- a captured name's cell is the maker's -/
theorem clo_cell {cells : List (Str × Addr)} {names : List (Str × NameKind)} (hfree : ∀ y ∈ names, y.2 = .free → ∃ c, cells.lookup y.1 = some c) {y : Str} {c : Addr} (e : (cloFrom cells names []).lookup y = some c) : cells.lookup y = some c ∧ (y, NameKind.free) ∈ names := by
  rcases cloFrom_mem (PySem.mem_of_lookup e) with z | ⟨h1, h2⟩
  · cases z
  · obtain ⟨c1, hc⟩ := hfree _ h1 rfl
    have hc : cells.lookup y = some c1 := hc
    refine ⟨?_, h1⟩
    rw [h2, hc]
    rfl
section
variable {X : Cx} {pins : List (Addr × Obj)} {σ : L2.St} {H Hc : Hp} {s s1 : Shared} {A : Around} {outer : List Env} {E : XK} {scope : Scope} {a : Str} {f c' : Addr} {L : Pins}
theorem LamS1.has (S : LamS1 X.env.scope scope a) (ok : X.Ok) : ∀ y ∈ scope.names, y.2 = .free → ∃ c, X.env.cells.lookup y.1 = some c := fun y hy e => by
  rcases S.free y hy e with z | z
  · exact ok.has _ (.inl z)
  · exact ok.has _ (.inr z)
theorem lam_inv {j : Nat} {v0 : V} {u0 : Value} {h1 : Heap} {tk : Nat} (I : Inv X pins σ H s) (S : LamS1 X.env.scope scope a) (hL : ∀ b o, L.lookup b = some o → s.heap.get? b = some o) (hcell : ∀ y c, X.env.cells.lookup y = some c → ∃ o, L.lookup c = some o)
    (nd : X.N.Nodup) (hj : X.N[j]? = some a) (rv : RelV v0 u0) (e0 : Env0 X.prog X.w X.K X.mg X.base A outer s1 Hc) (hp : Pinned L Hc) (hd : A.handled = none) (hns : h1.Ns s1.heap.objs.size fun y => [(a, u0)].reverse.lookup y) (kp : ∀ b o, s1.heap.get? b = some o → h1.get? b = some o) :
    Inv (lamCx X A outer s1 (unp L Hc) E scope f c') [] (σ.set j (some v0)) (unp L Hc) { s1 with heap := h1, toks := tk } := by
  have hfree := S.has I.ok
  have eU := env_unp e0 hp
  have hg1 := pinned_get e0.hok hp
  have cm := @clo_cell X.env.cells scope.names hfree
  have nc : ∀ y c, (lamEnv X scope s1.heap.objs.size f c').cells.lookup y = some c → ∃ o, L.lookup c = some o ∧ s.heap.get? c = some o ∧ h1.get? c = some o := fun y c e => by
    obtain ⟨o, ho⟩ := hcell y c (cm e).1
    exact ⟨o, ho, hL c o ho, kp _ _ (hg1 c o ho)⟩
  have noA : ∀ b : Addr, b ∈ (lamCx X A outer s1 (unp L Hc) E scope f c').ex → False := fun b z => nomatch (show b ∈ ([] : List Addr) from z)
  refine { ok := { mod := e0.mod, kind := S.kind, glob := rfl, blt := rfl, above := Nat.le_refl _, inj := fun y z c e1 e2 => I.ok.inj y z c (cm e1).1 (cm e2).1, has := fun y hy => ?_, cab := fun y c z _ => (nomatch (show false = true from z)), hd := fun _ => hd, frames := Around.frames_deeper e0.frames,
                   stk := .inr ⟨rfl, rfl⟩, exf := fun b z => (noA b z).elim, bs := eU.bs, bsz := eU.bsz, noex := fun b _ _ z => noA b z, exfs := fun b z => (noA b z).elim, funs := eU.funs, frf := eU.frf }
           os := rfl, bare := eU.bare, base := Un.kept kp, loc := ⟨_, hns, fun i y v e1 e2 e3 => ?_⟩, cell := fun y c e => ?_, free := eU.hok.fresh (Nat.le_refl _), freeC := fun y c e => ?_, pin := fun q hq => (nomatch (show q ∈ ([] : List (Addr × Obj)) ++ [] from hq)), hok := eU.hok.kept kp, len := ?_ }
  · have hy : scope.names.lookup y = some .cell ∨ scope.names.lookup y = some .free := hy
    rcases hy with hy | hy
    · exact absurd rfl (S.own _ (PySem.mem_of_lookup hy)).1
    · exact mem_lookup (cloFrom_has (cells := X.env.cells) (acc := []) (PySem.mem_of_lookup hy))
  · have e1 : X.N[i]? = some y := e1
    have e3 : Vis scope y := e3
    have hi := (List.getElem?_eq_some_iff.mp e1).1
    have hj' := (List.getElem?_eq_some_iff.mp hj).1
    by_cases ya : y = a
    · subst ya
      have hij : i = j := (List.getElem?_inj hi nd).mp (e1.trans hj.symm)
      subst hij
      rw [List.getElem?_set_self (by rw [I.len]; exact hi)] at e2
      cases e2
      refine ⟨u0, rv, .inl ⟨S.par, ?_⟩⟩
      show List.lookup y [(y, u0)] = some u0
      rw [List.lookup_cons, beq_self_eq_true]
    · have hk : scope.names.lookup y = some .free := by
        rcases e3 with z | z | z
        · exact absurd ((S.own _ (PySem.mem_of_lookup z)).2 rfl) ya
        · exact absurd rfl (S.own _ (PySem.mem_of_lookup z)).1
        · exact z
      have hij : j ≠ i := fun z => ya (Option.some.inj (e1.symm.trans (by rw [← z]; exact hj)))
      rw [List.getElem?_set_ne hij] at e2
      obtain ⟨m, hn, hl⟩ := I.loc
      have hvis : Vis X.env.scope y := (S.free _ (PySem.mem_of_lookup hk) rfl).elim (fun z => .inr (.inl z)) fun z => .inr (.inr z)
      obtain ⟨u, r, lk⟩ := hl i y v e1 e2 hvis
      obtain ⟨c2, h2⟩ := mem_lookup (cloFrom_has (cells := X.env.cells) (acc := []) (PySem.mem_of_lookup hk))
      obtain ⟨o, _, ho1, ho2⟩ := nc y c2 h2
      refine ⟨u, r, .inr ⟨.inr hk, c2, h2, ?_⟩⟩
      rcases lk with ⟨kl, _⟩ | ⟨_, c3, e', z⟩
      · have kl : X.env.scope.names.lookup y = some .local := kl
        rcases S.free _ (PySem.mem_of_lookup hk) rfl with k2 | k2 <;> rw [show X.env.scope.names.lookup y = _ from k2] at kl <;> cases kl
      · rw [(cm h2).1] at e'
        cases e'
        obtain ⟨o2, q1, q2⟩ := z
        rw [ho1] at q1
        cases q1
        exact ⟨o, ho2, q2⟩
  · obtain ⟨o, _, ho1, ho2⟩ := nc y c e
    obtain ⟨v, o2, q1, q2⟩ := I.cell y c (cm e).1
    rw [ho1] at q1
    cases q1
    exact ⟨v, o, ho2, q2⟩
  · obtain ⟨o, ho, _⟩ := nc y c e
    exact unp_at ho
  · rw [List.length_set]
    exact I.len
/-- what a lambda is, by its text and the maker's cells -/
def IsLam (X : Cx) (params : Arguments) (body : Expr) (scope : Scope) (c' : Addr) (fo : Obj) : Prop :=
  ∃ pm ctv : Value, fo = PySem.W.kla_obj "<lambda>" (X.env.qual ++ "<lambda>") params body scope (cloFrom X.env.cells scope.names []) pm c' ctv
/-- the maker's cells and the lambda, pinned -/
structure CellsAt (X : Cx) (σ : L2.St) (f : Addr) (fo : Obj) (L : Pins) : Prop where
  lam : L.lookup f = some fo
  st : ∃ (pins : List (Addr × Obj)) (H : Hp) (s : Shared), Inv X pins σ H s ∧ ∀ b o, L.lookup b = some o → s.heap.get? b = some o
  cell : ∀ y c, X.env.cells.lookup y = some c → ∃ o, L.lookup c = some o
theorem lam_ok {j k : Nat} {fo : Obj} {params : Arguments} {body : Expr} {tb : TE} (C : CellsAt X σ f fo L) (hl : IsLam X params body scope c' fo) (S : LamS1 X.env.scope scope a) (nd : X.N.Nodup) (hj : X.N[j]? = some a)
    (hbind : ∀ (q : Str) (cl : List (Str × Addr)) (pm cv ctv u : Value), bindArgs (PySem.W.kla_fn "<lambda>" q params body scope cl pm cv ctv) ⟨[u], []⟩ = pure [(a, u)])
    (hbody : ∀ (A : Around) (outer : List Env) (s : Shared) (H : Hp), Room k (A.deeper (lamEnv X scope s.heap.objs.size f c')) → PE (lamCx X A outer s H E0 scope f c') body tb) :
    LamOk X.prog X.w X.K X.mg X.base (k + 1) f L c' (X.env.qual ++ "<lambda>") (fun vs H Q _ => ∃ v, vs = [v] ∧ tb (σ.set j (some v)) H Q) := by
  obtain ⟨hfo, ⟨pins, H, s, I, hL⟩, hcell⟩ := C
  obtain ⟨pm, ctv, rfl⟩ := hl
  refine ⟨⟨_, hfo, fun h e => ⟨_, _, _, _, e⟩⟩, fun A outer s1 Hc us vs Q hr e0 hp hco rv hsp => ?_⟩
  obtain ⟨v, rfl, ht⟩ := hsp
  obtain ⟨u, rfl, r1⟩ : ∃ u, us = [u] ∧ RelV v u := by
    cases rv with
    | cons a b => cases b; exact ⟨_, rfl, a⟩
  obtain ⟨⟨oc, ds, t, hoc, hdc, hvc⟩, _, _⟩ := e0.hok c' _ hco
  have hof := pinned_get e0.hok hp f _ hfo
  have hfr : ∀ b o, L.lookup b = some o → b ∉ frs outer := fun b o z q => by
    have := e0.frf b q
    rw [hp b o z] at this
    cases this
  refine PySem.W.kla_callFunE hr.depth hof rfl S.co S.gen rfl ⟨c', oc, ds, t, rfl, hoc, hdc, hvc⟩ ?_
  rw [hbind]
  refine wpAny_pure (wpAny_newFunctionEnv (fun y hy => (S.own y hy).1) (fun y hy => by rw [List.mem_singleton.mp hy]; exact S.par) (fun h1 hns hsb => ⟨(e0.mod.nolimit.keeps fun b o e => (e0.bs b o e).1).fresh _ hsb, ?_⟩) S.kind)
  have kp : ∀ b o, s1.heap.get? b = some o → h1.get? b = some o := fun b o e => hsb.extBut b o (Nat.ne_of_lt (Heap.lt_size e)) (Heap.get?_push_of_some _ e)
  have J : Inv (lamCx X A outer s1 (unp L Hc) E0 scope f c') [] (σ.set j (some v)) (unp L Hc) { s1 with heap := h1, toks := s1.toks + [(a, u)].length } :=
    lam_inv I S hL hcell nd hj r1 e0 hp hr.hd hns kp
  show codeAny _ _ (.expr body (lamEnv X scope s1.heap.objs.size f c')) _ _
  refine PySem.W.kla_codeExpr (wpAny_mono ((hbody _ _ s1 (unp L Hc) (hr.deeper _)).run [] _ _ (unp L Hc) _ J ht) (fun x s' hq => ?_) fun e s' hq => ?_)
  · obtain ⟨w', H', J', rv', q⟩ := hq
    exact ce_in (Q := Q) hp e0.hok hfr ⟨w', H', J'.os, J'.bare, J'.base, J'.hok, rv', q⟩
  · have hq : wpAny (model X.prog X.w) (A.deeper (lamEnv X scope s1.heap.objs.size f c')) (leaving (lamEnv X scope s1.heap.objs.size f c') e) (fun _ s'' => L2.CX X.prog X.w outer (unp L Hc) s1 E0 e s'') (fun e' s'' => L2.CX X.prog X.w outer (unp L Hc) s1 E0 e' s'') s' := hq
    refine wpAny_mono hq (fun _ s'' z => ?_) fun e' s'' z => ?_
    · obtain ⟨_, _, _, _, _, _, _, _, _, _, _, _, z⟩ := z
      exact z.elim
    · obtain ⟨_, _, _, _, _, _, _, _, _, _, _, _, z⟩ := z
      exact z.elim
end
end Lp

set_option Elab.async false
set_option linter.all false
set_option maxRecDepth 100000
set_option maxHeartbeats 3200000
/-! lambdas with one parameter: made, and handed to a def -/
namespace Lp
open PySem PySem.Spec PyProof.Rows L2 LamX
section
variable {X : Cx} {pins : List (Addr × Obj)} {σ : L2.St} {H H0 : Hp} {s s0 : Shared}
/-- a new object, pinned from now on -/
theorem inv_track {f : Addr} {fo : Obj} (I0 : Inv X pins σ H0 s0) (hf : s0.heap.objs.size ≤ f) (I : Inv X pins σ H s) (n : H f = none) (g : s.heap.get? f = some fo) : Inv X pins σ (upd H f (PinO fo)) s := by
  have old : ∀ {b : Addr} {o : Obj}, s0.heap.get? b = some o → b ≠ f := fun e z => by
    rw [z] at e
    exact Nat.lt_irrefl _ (Nat.lt_of_lt_of_le (Heap.lt_size e) hf)
  have lo : X.env.locals ≠ f := fun z => Nat.lt_irrefl _ (Nat.lt_of_lt_of_le (by rw [← z]; exact I0.lt) hf)
  have was : ∀ {b : Addr} {u : HO}, H b = some u → b ≠ f := fun e => ne_of_none e n
  refine { ok := I.ok, os := I.os, bare := I.bare, loc := I.loc, cell := I.cell, len := I.len
           base := { keep := I.base.keep, slot := I.base.slot, there := I.base.there, free := fun b o e nb hx => ?_, tups := fun b xs e => ?_, frzs := fun b o u e => ?_, tbls := fun b ps e => ?_ }
           free := ?_, freeC := fun y c e => ?_, pin := fun q hq => ?_, hok := fun b u e => ?_ }
  · have : b ≠ f := fun z => Nat.lt_irrefl _ (Nat.lt_of_lt_of_le (Heap.lt_size e) (by rw [z]; exact Nat.le_trans I0.sz hf))
    rw [upd_ne this]
    exact I.base.free b o e nb hx
  · have q := I.base.tups b xs e
    rw [upd_ne (was q), q]
  · have q := I.base.frzs b o u e
    rw [upd_ne (was q), q]
  · obtain ⟨more, q⟩ := I.base.tbls b ps e
    exact ⟨more, by rw [upd_ne (was q), q]⟩
  · rw [upd_ne lo]
    exact I.free
  · obtain ⟨v, o, ho, _⟩ := I0.cell y c e
    rw [upd_ne (old ho)]
    exact I.freeC y c e
  · obtain ⟨q1, q2, q3⟩ := I.pin q hq
    refine ⟨q1, ?_, q3⟩
    rw [upd_ne (old (I0.pin q hq).1)]
    exact q2
  · by_cases hb : b = f
    · subst hb
      rw [upd_same] at e
      cases e
      exact ⟨g, trivial, ⟨fo, g⟩, fun _ _ _ _ => trivial⟩
    · rw [upd_ne hb] at e
      exact (I.hok b u e).stay (fun _ _ _ z => z) (fun d z => by rw [upd_ne (was z)]; exact z) fun d xs z => by rw [upd_ne (was z)]; exact z
/-- the lambda's value -/
def tLamV (T : List (Addr × Str)) (q : Str) (is : Addr → Obj → Prop) : TE := fun σ H Q => Tabs T H ∧ ∀ H1, ExtN H H1 → Tabs T H1 → ∀ f fo c', H1 f = none → H f = none → is c' fo → H1 c' = some (CodeO c' q) → Q (.ref f) (upd H1 f (PinO fo))
theorem pe_lam {T : List (Addr × Str)} {c P : Addr} {params : Arguments} {body : Expr} {scope : Scope} {pos : Pos} {a : Str} (S : LamS1 X.env.scope scope a) (TB : TabB X.base X.mg c P) (hcode : X.env.code = .ref c) (hm : (P, X.env.qual ++ "<lambda>") ∈ T) (hu : ∀ p ∈ T, p.1 = P → p.2 = X.env.qual ++ "<lambda>")
    (hdef : defaultsOf params X.env = ([], []) := by rfl) : PE X (.Lambda params body scope pos) (tLamV T (X.env.qual ++ "<lambda>") (IsLam X params body scope)) := by
  refine ⟨fun pins s σ H Q I h => ?_⟩
  obtain ⟨hT, h⟩ := h
  obtain ⟨ps, hP, tri, known⟩ := hT _ hm
  have hP' : s.heap.get? P = some { cls := .none, data := .fields ps } := I.hok P _ hP
  have clo := closure_ok (env := X.env) (scope := scope) (S.has I.ok)
  have bP : s.heap.BuiltinsAt X.mg P := TB.bm.keeps I.bk
  refine PySem.W.kla_eval hdef ?_
  cases hc : codeAmong pos ps.toList with
  | some cv =>
    obtain ⟨c', e, hco⟩ := known pos cv hc
    subst e
    refine PySem.W.kla_makeFunctionHit (mg := X.mg) clo I.ok.glob (I.mod.glob.keeps I.bk) hcode (TB.code.keeps I.bk) hP' tri hc bP fun ctv h' tk hx hsz => ?_
    have n : H h'.objs.size = none := I.hok.fresh hsz
    have g : (h'.push (PySem.W.kla_obj "<lambda>" (X.env.qual ++ "<lambda>") params body scope (cloFrom X.env.cells scope.names []) ((X.mg "__name__").getD .none) c' ctv)).get? h'.objs.size = some (PySem.W.kla_obj "<lambda>" (X.env.qual ++ "<lambda>") params body scope (cloFrom X.env.cells scope.names []) ((X.mg "__name__").getD .none) c' ctv) := Heap.get?_push_size _ rfl
    have I1 : Inv X pins σ H { s with heap := h'.push (PySem.W.kla_obj "<lambda>" (X.env.qual ++ "<lambda>") params body scope (cloFrom X.env.cells scope.names []) ((X.mg "__name__").getD .none) c' ctv), toks := tk } := I.kept fun b o e => Heap.get?_push_of_some _ (hx b o e)
    exact ⟨.ref h'.objs.size, _, inv_track I hsz I1 n g, rfl, h H (ExtN.refl H) hT _ _ c' n n ⟨_, ctv, rfl⟩ hco⟩
  | none =>
    refine PySem.W.kla_makeFunction (mg := X.mg) clo I.ok.glob (I.mod.glob.keeps I.bk) hcode (TB.code.keeps I.bk) hP' tri hc TB.gP bP fun c' ctv h' tk hx hge hlt hrec htb => ?_
    obtain ⟨c2, oc, ds, t, e2, hoc, hd, hv⟩ := hrec
    cases e2
    have hsz : s.heap.objs.size ≤ h'.objs.size := Nat.le_trans hge (Nat.le_of_lt hlt)
    have nC : H c' = none := I.hok.fresh hge
    have nF : H h'.objs.size = none := I.hok.fresh hsz
    have g : (h'.push (PySem.W.kla_obj "<lambda>" (X.env.qual ++ "<lambda>") params body scope (cloFrom X.env.cells scope.names []) ((X.mg "__name__").getD .none) c' ctv)).get? h'.objs.size = some (PySem.W.kla_obj "<lambda>" (X.env.qual ++ "<lambda>") params body scope (cloFrom X.env.cells scope.names []) ((X.mg "__name__").getD .none) c' ctv) := Heap.get?_push_size _ rfl
    have I1 := inv_table (t' := tk) (more := #[rawInt pos.line, rawInt pos.col, .ref c']) (h' := h'.push (PySem.W.kla_obj "<lambda>" (X.env.qual ++ "<lambda>") params body scope (cloFrom X.env.cells scope.names []) ((X.mg "__name__").getD .none) c' ctv)) I hP
      (fun b o hb e => Heap.get?_push_of_some _ (hx b o hb e)) (Heap.get?_push_of_some _ htb) hge ⟨oc, ds, t, Heap.get?_push_of_some _ hoc, hd, hv⟩
    have nPc : P ≠ c' := ne_of_none hP nC
    have nFc : h'.objs.size ≠ c' := Nat.ne_of_gt hlt
    have nFP : h'.objs.size ≠ P := (ne_of_none hP nF).symm
    have hE : ExtN H (upd (upd H P (.tbl (ps ++ #[rawInt pos.line, rawInt pos.col, .ref c']))) c' (CodeO c' (X.env.qual ++ "<lambda>"))) := fun b o e nt => by
      have b1 : b ≠ c' := ne_of_none e nC
      have b2 : b ≠ P := fun z => by
        rw [z, hP] at e
        exact nt ps (Option.some.inj e).symm
      rw [upd_ne b1, upd_ne b2, e]
    have n1 : (upd (upd H P (.tbl (ps ++ #[rawInt pos.line, rawInt pos.col, .ref c']))) c' (CodeO c' (X.env.qual ++ "<lambda>"))) h'.objs.size = none := by
      rw [upd_ne nFc, upd_ne nFP, nF]
    have hT1 : Tabs T (upd (upd H P (.tbl (ps ++ #[rawInt pos.line, rawInt pos.col, .ref c']))) c' (CodeO c' (X.env.qual ++ "<lambda>"))) := fun p hp => by
      by_cases hb : p.1 = P
      · rw [hu p hp hb, hb]
        have eL : (ps ++ #[rawInt pos.line, rawInt pos.col, Value.ref c']).toList = ps.toList ++ [rawInt pos.line, rawInt pos.col, .ref c'] := by simp
        refine ⟨ps ++ #[rawInt pos.line, rawInt pos.col, .ref c'], by rw [upd_ne nPc, upd_same], ?_, fun p' cv hcv => ?_⟩
        · rw [eL]
          exact PySem.TriplesOk_snoc _ _ _ _ tri
        · rw [eL] at hcv
          rcases among_app _ tri hcv with z | z
          · obtain ⟨c0, e1, e2⟩ := known p' cv z
            exact ⟨c0, e1, hE _ _ e2 codeO_ne⟩
          · exact ⟨c', z, upd_same⟩
      · obtain ⟨ps', a1, a2, a3⟩ := hT p hp
        have a4 : p.1 ≠ c' := ne_of_none a1 nC
        refine ⟨ps', by rw [upd_ne a4, upd_ne hb, a1], a2, fun p' cv hcv => ?_⟩
        obtain ⟨c0, e1, e2⟩ := a3 p' cv hcv
        exact ⟨c0, e1, hE _ _ e2 codeO_ne⟩
    exact ⟨.ref h'.objs.size, _, inv_track I hsz I1 n1 g, rfl, h _ hE hT1 _ _ c' n1 nF ⟨_, ctv, rfl⟩ upd_same⟩
end
end Lp

set_option Elab.async false
set_option linter.all false
set_option maxRecDepth 100000
set_option maxHeartbeats 3200000
/-! lambdas with one parameter: made, and handed to a def -/
namespace Lp
open PySem PySem.Spec PyProof.Rows L2 LamX
section
variable {X : Cx} {pins : List (Addr × Obj)} {σ : L2.St} {H H0 : Hp} {s s0 : Shared}
/-! ### a def called with the maker's cells pinned -/
def cellsOf (h : Heap) (all l : List (Str × Addr)) : Pins := l.filterMap fun y => if all.lookup y.1 = some y.2 then (h.get? y.2).map fun o => (y.2, o) else none
theorem look_mem : ∀ {L : Pins} {b : Addr} {o : Obj}, L.lookup b = some o → (b, o) ∈ L
  | (c, o') :: L, b, o, e => by
    rw [List.lookup_cons] at e
    cases hb : b == c with
    | true =>
      rw [hb] at e
      rw [eq_of_beq hb, ← Option.some.inj e]
      exact List.mem_cons_self
    | false =>
      rw [hb] at e
      exact List.mem_cons_of_mem _ (look_mem e)
  | [], _, _, e => nomatch e
theorem mem_look : ∀ {L : Pins} {b : Addr} {o : Obj}, (b, o) ∈ L → ∃ o', L.lookup b = some o'
  | (c, o') :: L, b, o, hm => by
    rw [List.lookup_cons]
    cases hb : b == c with
    | true => exact ⟨o', rfl⟩
    | false =>
      rcases List.mem_cons.mp hm with e | hm
      · have e1 : b = c := congrArg Prod.fst e
        rw [e1, beq_self_eq_true] at hb
        cases hb
      · exact mem_look hm
  | [], _, _, hm => nomatch hm
theorem cellsOf_get {h : Heap} {all l : List (Str × Addr)} {b : Addr} {o : Obj} (e : (cellsOf h all l).lookup b = some o) : h.get? b = some o ∧ ∃ y, all.lookup y = some b := by
  obtain ⟨⟨y, c⟩, _, e1⟩ := List.mem_filterMap.mp (look_mem e)
  dsimp only at e1
  by_cases hy : all.lookup y = some c
  · rw [if_pos hy] at e1
    obtain ⟨o', h1, h2⟩ := Option.map_eq_some_iff.mp e1
    have e2 : c = b := congrArg Prod.fst h2
    have e3 : o' = o := congrArg Prod.snd h2
    rw [e2, e3] at h1
    rw [e2] at hy
    exact ⟨h1, y, hy⟩
  · rw [if_neg hy] at e1
    exact nomatch e1
theorem cellsOf_has {h : Heap} {all l : List (Str × Addr)} {y : Str} {c : Addr} {o : Obj} (hm : (y, c) ∈ l) (hy : all.lookup y = some c) (ho : h.get? c = some o) : ∃ o', (cellsOf h all l).lookup c = some o' := by
  refine mem_look (o := o) (List.mem_filterMap.mpr ⟨(y, c), hm, ?_⟩)
  dsimp only
  rw [if_pos hy, ho]
  rfl
end
end Lp

set_option Elab.async false
set_option linter.all false
set_option maxRecDepth 100000
set_option maxHeartbeats 3200000
/-! lambdas with one parameter: made, and handed to a def -/
namespace Lp
open PySem PySem.Spec PyProof.Rows L2 LamX
section
variable {X : Cx} {pins : List (Addr × Obj)} {σ : L2.St} {H H0 : Hp} {s s0 : Shared}
/-- the maker's state at the call, its cells known -/
structure StAt (X : Cx) (σ : L2.St) (H : Hp) (L : Pins) : Prop where
  st : ∃ (pins : List (Addr × Obj)) (s : Shared), Inv X pins σ H s ∧ ∀ b o, L.lookup b = some o → s.heap.get? b = some o
  cell : ∀ y c, X.env.cells.lookup y = some c → ∃ o, L.lookup c = some o
  clear : Clear L H
theorem StAt.at {f : Addr} {fo : Obj} {L : Pins} (S : StAt X σ H L) (hf : H f = some (PinO fo)) : CellsAt X σ f fo ((f, fo) :: L) := by
  obtain ⟨⟨pins, s, I, hg⟩, hc, cl⟩ := S
  have look : ∀ {b : Addr} {o : Obj}, ((f, fo) :: L).lookup b = some o → (b = f ∧ o = fo) ∨ (b ≠ f ∧ L.lookup b = some o) := fun {b o} e => by
    rw [List.lookup_cons] at e
    cases hb : b == f with
    | true =>
      rw [hb] at e
      cases e
      exact .inl ⟨eq_of_beq hb, rfl⟩
    | false =>
      rw [hb] at e
      exact .inr ⟨fun z => (by rw [z, beq_self_eq_true] at hb; cases hb), e⟩
  refine ⟨by rw [List.lookup_cons, beq_self_eq_true], ⟨pins, H, s, I, fun b o e => ?_⟩, fun y c e => ?_⟩
  · rcases look e with ⟨rfl, rfl⟩ | ⟨_, e⟩
    · exact (I.hok _ _ hf).1
    · exact hg b o e
  · obtain ⟨o, ho⟩ := hc y c e
    rw [List.lookup_cons]
    cases hb : c == f with
    | true => exact ⟨_, rfl⟩
    | false => exact ⟨o, ho⟩
theorem pinned_cons {f : Addr} {fo : Obj} {L : Pins} (cl : Clear L H) (hf : H f = some (PinO fo)) : Pinned ((f, fo) :: L) (pin L H) := fun b o e => by
  rw [List.lookup_cons] at e
  cases hb : b == f with
  | true =>
    rw [hb] at e
    cases e
    rw [eq_of_beq hb]
    exact pin_some cl hf
  | false =>
    rw [hb] at e
    exact pin_at e
variable {k : Nat} {f : Addr} {fd : FuncData} {ps : List Str} {sp : Sp} {x : Str} {p pos : Pos} {e : Expr} {es : List Expr} {t : TA}
def tCallP (X : Cx) (sp : Sp) (t : TA) : TE := fun σ H Q => t σ H fun vs H1 => ∀ L, StAt X σ H1 L → sp vs (pin L H1) (fun v H2 => Q v (unp L H2)) E0
theorem pe_callp (F : FnOk X.prog X.w X.K X.mg X.base CX0 k f fd ps sp) (hr : Room k X.A) (hg : Gl X x) (hm : X.mg x = some (.ref f)) (hk : PySem.W.keepIn X.K (.ref f) = true) (hb : Binds X.K fd ps []) (hfn : ∀ y, X.fn y = true)
    (ha : PA X (e :: es) t) (hdb : (x == ("__debug__" : Str)) = false := by decide) (he : starEach (e :: es) X.env = (false, eval e X.env) :: starEach es X.env := by rfl) (hpl : (backTo pos (starEach es X.env)).any (·.1) = false := by rfl) :
    PE X (.Call (.Name x p) (e :: es) [] pos) (tCallP X sp t) := by
  refine ⟨fun pins s σ H Q I h => ?_⟩
  refine wpAny_Call_Name_kw (ld_glob I hg hm ?_ hdb)
  refine PySem.W.callWith_K (h₀ := X.base) I.ok.mod.kin hk (thn (ha.run pos pins s σ H _ I h) fun us s1 ⟨vs, H1, I1, r, q⟩ => ⟨I1.kIn, ?_⟩) he hpl
  have hget : ∀ b o, (cellsOf s1.heap X.env.cells X.env.cells).lookup b = some o → s1.heap.get? b = some o ∧ ∃ y, X.env.cells.lookup y = some b := fun b o z => cellsOf_get z
  have hcl : Clear (cellsOf s1.heap X.env.cells X.env.cells) H1 := fun b o z => by
    obtain ⟨_, y, hy⟩ := hget b o z
    exact I1.freeC y b hy
  have hst : StAt X σ H1 (cellsOf s1.heap X.env.cells X.env.cells) := ⟨⟨pins, s1, I1, fun b o z => (hget b o z).1⟩, fun y c z => by
    obtain ⟨v, o, ho, _⟩ := I1.cell y c z
    exact cellsOf_has (PySem.mem_of_lookup z) z ho, hcl⟩
  have new : ∀ b o, (cellsOf s1.heap X.env.cells X.env.cells).lookup b = some o → X.s_0.heap.objs.size ≤ b := fun b o z => by
    obtain ⟨_, y, hy⟩ := hget b o z
    exact I1.ok.cab y b (hfn y) hy
  generalize cellsOf s1.heap X.env.cells X.env.cells = L at hget hcl hst new
  have he1 : ∀ b o, L.lookup b = some o → s1.heap.get? b = some o := fun b o z => (hget b o z).1
  have e0 : Env0 X.prog X.w X.K X.mg X.base X.A X.stack s1 (pin L H1) := env_pin I1.env0 hcl he1 (fun b o z hb => by
    obtain ⟨_, y, hy⟩ := hget b o z
    rcases List.mem_cons.mp (I1.stkSub b hb) with e | hb
    · exact I1.cne y b hy e
    · obtain ⟨_, o', ho', _⟩ := I1.ok.funs.mem hb
      exact Nat.lt_irrefl _ (Nat.lt_of_lt_of_le (Heap.lt_size ho') (new b o z))) fun b o z => Heap.get?_none_of_le (Nat.le_trans I1.ok.bsz (new b o z))
  have hq := q L hst
  have r2 : us.length = ps.length := by
    rw [← r.length]
    exact F.len _ _ _ _ hq
  have bd := hb s1 us I1.kIn (by rw [List.append_nil]; exact r2)
  rw [List.append_nil] at bd
  refine wpAny_call (codeAny_mono (F.run X.A X.stack s1 (pin L H1) ⟨us, []⟩ us vs _ _ hr e0 bd r hq) fun r s' hq => ?_)
  cases r with
  | error e => exact (show False from hq).elim
  | ok fl =>
    cases fl with
    | ret u => exact I1.after (ce_out (Q := Q) hcl he1 hq)
    | next => exact False.elim hq
    | brk => exact False.elim hq
    | cont => exact False.elim hq
end
end Lp

set_option Elab.async false
set_option linter.all false
set_option maxRecDepth 100000
set_option maxHeartbeats 3200000
/-! a def that makes lambdas: its code, its table, the head; repr of an int without guards; small lemmas -/
namespace Lp
open PySem PySem.Spec PyProof.Rows L2 LamX
/-- repr(i), i an int: nothing need be known of what is being shown -/
def rShowI : List V → Hp → VK → Prop := fun xs H Q => ∃ i : Int, xs = [.int i] ∧ (PyData.int i).showable = true ∧ Q (.str (PyData.shown (.int i))) H
theorem cr_reprI {X : Cx} : CallR X (.builtin "repr") rShowI := by
  intro pins s σ H xs us Q I r h
  obtain ⟨i, rfl, h1, q⟩ := h
  obtain ⟨t, rfl⟩ : ∃ t, us = [Value.int i t] := by
    cases r with
    | cons a b =>
      cases b
      obtain ⟨t, rfl⟩ := a
      exact ⟨t, rfl⟩
  exact P.repr_of_int (of_decide_eq_true h1) ⟨.str (PyData.shown (.int i)), H, I.tok _, ⟨_, rfl⟩, q⟩
/-- the code of a def, as the frag tells it -/
theorem tab_code {K : PySem.W.Frag} {x q : Str} {f c P : Addr} {oc kV doc pm cdv ct : Value} {od an : Option Addr} {osl : Array (Option Value)} {st : Stmt} (a : PySem.W.nsIn K mainGlobals x = some (some (.ref f)))
    (l : K.lookup f = some ⟨oc, od, .func (PySem.W.fnOf x q (defArgs st) (defBody st) (defScope st) .none kV doc pm an cdv ct), osl⟩) (t : PySem.W.tabIn K x = some (c, P)) : cdv = .ref c := by
  unfold PySem.W.tabIn at t
  rw [a] at t
  dsimp only at t
  rw [l] at t
  dsimp only at t
  split at t
  · rename_i c2
    split at t
    · split at t
      · cases t
        rfl
      · cases t
    · cases t
  · cases t
theorem tab_mk {K : PySem.W.Frag} {x q : Str} {f c P : Addr} {oc kV doc pm cdv ct : Value} {od an : Option Addr} {osl : Array (Option Value)} {st : Stmt} {oK : Value} {dK : Option Addr} {vs : Array Value} {sK : Array (Option Value)} (a : PySem.W.nsIn K mainGlobals x = some (some (.ref f)))
    (l : K.lookup f = some ⟨oc, od, .func (PySem.W.fnOf x q (defArgs st) (defBody st) (defScope st) .none kV doc pm an cdv ct), osl⟩) (e : cdv = .ref c) (k : K.lookup c = some ⟨oK, dK, .fields vs, sK⟩) (v : (vs[11]? : Option Value) = some (.ref P)) : PySem.W.tabIn K x = some (c, P) := by
  subst e
  unfold PySem.W.tabIn
  rw [a]
  dsimp only
  rw [l]
  dsimp only
  show (match K.lookup c with
    | some ⟨_, _, .fields vs, _⟩ => (match (vs[11]? : Option Value) with
      | some (.ref P) => some (c, P)
      | _ => none)
    | _ => none) = _
  rw [k]
  dsimp only
  rw [v]
section
variable {P : Program} {w : World} {K : PySem.W.Frag} {mg : Str → Option Value} {base : Heap}
/-- a def whose code is known -/
structure FunC (K : PySem.W.Frag) (x : Str) (st : Stmt) (f : Addr) (fd : FuncData) (c : Addr) : Prop where
  ex : ∃ (oc : Value) (od : Option Addr) (kV doc pm : Value) (an : Option Addr) (ct : Value) (osl : Array (Option Value)),
    fd = PySem.W.fnOf x x (defArgs st) (defBody st) (defScope st) .none kV doc pm an (.ref c) ct ∧ K.lookup f = some ⟨oc, od, .func fd, osl⟩ ∧ PySem.W.codeIn K (.ref c) x = true
theorem FunC.ok {x : Str} {st : Stmt} {f c : Addr} {fd : FuncData} {N ps : List Str} {k : Nat} {sp : Sp} (F : FunC K x st f fd c) (S : FnScope N ps (defScope st)) (len : ∀ vs H Q E, sp vs H Q E → vs.length = ps.length)
    (hbody : ∀ (A : Around) (outer : List Env) (s : Shared) (H : Hp) (vs : List V) (Q : VK) (E : XK), Room k (A.deeper (envOfC x (defScope st) s.heap.objs.size f (.ref c))) → sp vs H Q E →
      ∃ t, PSs (cxOf CX0 P w K mg base N x (defScope st) f (.ref c) A outer s H E).nox (defBody st) t ∧ t { nx := fun _ H' => Q .non H', rt := Q } (start N vs) H) : FnOk P w K mg base CX0 (k + 1) f fd ps sp := by
  obtain ⟨oc, od, kV, doc, pm, an, ct, osl, rfl, lk, hcd⟩ := F.ex
  refine fn_of lk hcd S len fun A outer s H vs Q E hr hsp => ?_
  obtain ⟨t, h, q⟩ := hbody A outer s H vs Q E hr hsp
  exact ⟨t, h.nox, q⟩
theorem FunC.of {x : Str} {st : Stmt} {f c Pt : Addr} {oc : Value} {od an : Option Addr} {osl : Array (Option Value)} {kV doc pm cdv ct : Value} (a : PySem.W.nsIn K mainGlobals x = some (some (.ref f)))
    (l : K.lookup f = some ⟨oc, od, .func (PySem.W.fnOf x x (defArgs st) (defBody st) (defScope st) .none kV doc pm an cdv ct), osl⟩) (cd : PySem.W.codeIn K cdv x = true) (t : PySem.W.tabIn K x = some (c, Pt)) :
    FunC K x st f (PySem.W.fnOf x x (defArgs st) (defBody st) (defScope st) .none kV doc pm an cdv ct) c := by
  have e := tab_code a l t
  subst e
  exact ⟨oc, od, kV, doc, pm, an, ct, osl, rfl, l, cd⟩
end
theorem same_pin {L : Pins} {H H' : Hp} (hp : Pinned L H) (s : ∀ b o, unp L H b = some o → H' b = some o) : ∀ b o, H b = some o → pin L H' b = some o := fun b o e => by
  cases hb : L.lookup b with
  | some u =>
    rw [pin_at hb, ← hp b u hb, e]
  | none =>
    rw [pin_off hb]
    refine s b o ?_
    rw [unp_off hb, e]
/-- the head: a law with one def that makes lambdas -/
theorem walkT {l : PySem.W.OpenLaw} {n k : Nat} {q : Program} {loose : List Str} {XP : (Str → Option Value) → Heap → Prop} {YP : World → Heap → Prop} {d : DefRec} {K : Params → PySem.W.Frag} {cx : World → CXT} {x y : Str}
    (hn : l.most = some n) (hn2 : n ≤ sizeLine) (hdf : d.params.defaults = []) (hr : Room k callerA) (hY : ∀ (w : World) (h : Heap), YP w h → (K w.params).In h) (hrec : ((recsOf q).find? fun e => e.name == y).isSome = true)
    (F : ∀ (w : World) (mg : Str → Option Value) (fa : Addr) (h : Heap), (K w.params).In h → h.Ns mainGlobals mg → mg d.name = some (.ref fa) → XP mg h →
      ∃ (fd : FuncData) (c Pt : Addr) (sp : Sp), PySem.W.tabIn (K w.params) y = some (c, Pt) ∧ (K w.params).lookup Pt = none ∧ (∀ (s : Shared) (u : Value), BindsTo s fd ⟨[u], []⟩ [(x, u)]) ∧
        (∀ (H : Hp) (a : Addr) (ns : List Int), ns.length ≤ n → H Pt = some (.tbl #[]) → SqL (K w.params) H a (ns.map V.int) → sp [.ref a] H (fun v _ => v = .bl true) fun _ _ _ => False) ∧
        ∀ base : Heap, (K w.params).In base → base.Ns mainGlobals mg → TabB base mg c Pt → FnOk l.prog w (K w.params) mg base (cx w) k fa fd [x] sp)
    (hcx : ∀ (w : World) (H : Hp) (s : Shared) (e : Value) (s' : Shared), cx w [] H s (fun _ _ _ => False) e s' → False) :
    PySem.W.WalkO q loose XP YP l.row.toRowW d [] (fun f vs => PySem.call f vs) := by
  refine Att.attach_callB hn hdf fun w s₀ s₁ mg mb fa o pm cd doc a vs ns G Y ho hd hcd hmg hobj hints hlen hbits hg => ?_
  have KX := hY w _ Y
  obtain ⟨fd, c, Pt, sp, ht, nP, hb, hsp, hF⟩ := F w mg fa _ KX G.T.g hmg G.X
  obtain ⟨dd, hdd⟩ := Option.isSome_iff_exists.mp hrec
  obtain ⟨hC, hP⟩ := PySem.W.tab_of G.T KX hdd ht
  exact law_callTs (cs := [(c, Pt)]) KX G.T.g G.T.b G.T.builtins G.T.nolimit hg (fun p hp => by rw [List.mem_singleton.mp hp]; exact hP) (fun p hp => by rw [List.mem_singleton.mp hp]; exact nP) (fun p hp => by rw [List.mem_singleton.mp hp]; exact hC) G.T.bmain hobj hints (Nat.le_trans hlen hn2) hr
    (fun base h1 h2 h3 => hF base h1 h2 (h3 _ (List.mem_singleton.mpr rfl))) hb (fun H hH hS => hsp H a ns hlen (hH _ (List.mem_singleton.mpr rfl)) hS) fun H e s' => hcx w H s₁ e s'
end Lp

set_option Elab.async false
set_option linter.all false
set_option maxRecDepth 100000
set_option maxHeartbeats 4000000
/-! sorted(texts, key=lambda x: len(x)) -/
namespace Lp
open PySem PySem.Spec PyProof.Rows L2 LamX
theorem ld_own {X : Cx} {pins : List (Addr × Obj)} {σ : L2.St} {H : Hp} {s : Shared} {E : Value → Shared → Prop} {i : Nat} {x : Str} {v : V} {pos : Pos} {Q : Value → Shared → Prop} (I : Inv X pins σ H s) (hN : X.N[i]? = some x) (hv : Vis X.env.scope x) (e : σ[i]? = some (some v))
    (h : ∀ u, RelV v u → Q u s) (hd : (x == ("__debug__" : Str)) = false := by decide) (hcd : (x == ("__classdict__" : Str)) = false := by decide) : wpAny (model X.prog X.w) X.A (eval (.Name x pos) X.env) Q E s := by
  obtain ⟨m, hn, hl⟩ := I.loc
  obtain ⟨u, r, l⟩ := hl i x v hN e hv
  have fin := h u r
  rcases l with ⟨hk, hm⟩ | ⟨hk, c, hc, hcell⟩
  · exact wpAny_Name (wpAny_loadName_local I.ok.kind hk hn hm fin) hd
  · rcases hk with hk | hk
    · exact wpAny_Name (wpAny_loadName_cell I.ok.kind hk hc hcell fin) hd
    · exact wpAny_Name (wpAny_loadName_free I.ok.kind hk hc hcell fin hcd) hd
theorem each_strs : ∀ {us : List Value} {l : List Str}, StrsAre us l → PySem.W.EachIs (fun (v : Value) (z : Str) => ∃ t, v = .str z t) us l
  | _, _, .nil => .nil
  | _, _, .cons x t h => .cons ⟨t, rfl⟩ (each_strs h)
theorem strs_each : ∀ {us : List Value} {l : List Str}, PySem.W.EachIs (fun (v : Value) (z : Str) => ∃ t, v = .str z t) us l → Vals (l.map V.str) us
  | _, _, .nil => .nil
  | _, _, .cons ⟨t, e⟩ h => .cons ⟨t, e⟩ (strs_each h)
/-- the body len(x) -/
abbrev bLen (x : Str) (p1 p2 p3 : Pos) : Expr := .Call (.Name "len" p1) [.Name x p2] [] p3
section
variable {P : Program} {w : World} {K : PySem.W.Frag} {mg : Str → Option Value} {base : Heap}
theorem key_lam {A : Around} {outer : List Env} {s : Shared} {H : Hp} {f c' : Addr} {q x : Str} {params : Arguments} {scope : Scope} {p1 p2 p3 : Pos} {pm ctv : Value} {z : Str} {t : Tok} (S : FnScope [x] [x] scope) (len : mg "len" = none) (hg : scope.names.lookup ("len" : Str) = some NameKind.globalImplicit) (hxl : scope.names.lookup x = some NameKind.local) (hxd : (x == ("__debug__" : Str)) = false) (hxc : (x == ("__classdict__" : Str)) = false)
    (hbind : ∀ (cv u : Value), bindArgs (PySem.W.kla_fn "<lambda>" q params (bLen x p1 p2 p3) scope [] pm cv ctv) ⟨[u], []⟩ = pure [(x, u)])
    (hf : H f = some (PinO (PySem.W.kla_obj "<lambda>" q params (bLen x p1 p2 p3) scope [] pm c' ctv))) (hc : H c' = some (CodeO c' q)) (room : Room 1 A) (e0 : Env0 P w K mg base A outer s H) (hz : z.length ≤ sizeLine) :
    wpAny (model P w) A (call (.ref f) [.str z t]) (PySem.W.KeyPure (.int z.length) s) (fun _ _ => False) s := by
  have limit : s.heap.NoLimit := e0.mod.nolimit.keeps fun b o e => (e0.bs b o e).1
  obtain ⟨⟨oc, ds, tt, hoc, hdc, hvc⟩, _, _⟩ := e0.hok c' _ hc
  have hof := (e0.hok f _ hf).1
  refine wpAny_call ?_
  refine PySem.W.kla_callFunE room.depth hof rfl S.co S.gen rfl ⟨c', oc, ds, tt, rfl, hoc, hdc, hvc⟩ ?_
  rw [hbind]
  have kinds : ∀ y ∈ [(x, Value.str z t)], scope.names.lookup y.1 = some .local ∨ (scope.names.lookup y.1 = some .cell ∧ ((cellsFrom (s.heap.objs.size + 1) scope.names []).lookup y.1).isSome = true) := fun y hy => by
    rw [List.mem_singleton.mp hy]
    exact .inl hxl
  refine wpAny_pure (wpAny_newFunctionEnv_cells S.kind kinds fun env he s1 xx => ?_)
  subst he
  refine ⟨limit.keeps xx.toInCall.keep, ?_⟩
  have J0 : Inv (cxOf CX0 P w K mg base [x] q scope f (.ref c') A outer s H (fun _ _ _ => False)) [] (start [x] [.str z]) H s1 := inv_start S room.hd e0 rfl (.cons ⟨_, rfl⟩ .nil) xx
  obtain ⟨h1, tk, rfl, hk⟩ := xx.done
  refine PySem.W.kla_codeExpr ?_
  refine wpAny_Call_Name_kw (ld_blt (u := .builtin "len") J0 hg len PySem.boot_len ?_)
  refine PyProof.Rows.callWith_builtin1 (Calls.spliced_cons (ld_own (i := 0) J0 rfl (.inl hxl) rfl (fun u r => Calls.spliced_nil ?_) hxd hxc)) rfl rfl
  obtain ⟨t1, rfl⟩ := r
  have hn := line63
  refine len_str (by omega) ?_
  exact ⟨_, _, rfl, fun b o e => hk b o e, .int _ _⟩
end
/-- how texts lie behind sorted(.., key=lambda x: len(x)) -/
abbrev leLen : Str → Str → Bool := PySem.W.dataLe false fun z => .int z.length
/-- what is asked of the lambda's text -/
structure LenLam (x : Str) (params : Arguments) (scope : Scope) : Prop where
  S : FnScope [x] [x] scope
  hg : scope.names.lookup ("len" : Str) = some NameKind.globalImplicit
  hx : scope.names.lookup x = some NameKind.local
  d : (x == ("__debug__" : Str)) = false
  c : (x == ("__classdict__" : Str)) = false
  b : ∀ (q : Str) (e : Expr) (pm cv ctv u : Value), bindArgs (PySem.W.kla_fn "<lambda>" q params e scope [] pm cv ctv) ⟨[u], []⟩ = pure [(x, u)]
def rSortLen (K : PySem.W.Frag) (q : Str) (params : Arguments) (scope : Scope) (body : Expr) : List V → List V → Hp → VK → Prop := fun vs zs H Q => ∃ (a f c' : Addr) (l : List Str) (pm ctv : Value), vs = [V.ref a] ∧ zs = [V.ref f] ∧
  H f = some (PinO (PySem.W.kla_obj "<lambda>" q params body scope [] pm c' ctv)) ∧ H c' = some (CodeO c' q) ∧ SqL K H a (l.map V.str) ∧ l.length ≤ 5000 ∧ (∀ z ∈ l, z.length ≤ sizeLine) ∧
  ∀ p, H p = none → Q (.ref p) (upd H p (.lst ((l.mergeSort leLen).map V.str)))
theorem cr_sortedLen {X : Cx} {q x : Str} {params : Arguments} {scope : Scope} {p1 p2 p3 : Pos} (B : LenLam x params scope) (len : X.mg "len" = none) (room : Room 3 X.A) : CallRK X (.builtin "sorted") [Str.ofString "key"] (rSortLen X.K q params scope (bLen x p1 p2 p3)) := by
  intro pins s σ H vs zs us ws Q I r rz h
  obtain ⟨a, f, c', l, pm, ctv, rfl, rfl, hf, hc, hs, hl, hz, qq⟩ := h
  obtain rfl := Vals.ref1 r
  obtain ⟨w1, rfl, e1⟩ := vals1 rz
  obtain rfl : w1 = Value.ref f := e1
  obtain ⟨its, rv, hL, _⟩ := I.list hs
  have e := each_strs rv.strs
  have room2 : Room 1 X.A.in1.in1 := room.in1.in1
  refine PySem.W.sorted_key_data (b := false) (fun z : Str => .int z.length) hL.isList e (PySem.W.AllAlike.of fun _ _ => by simp [PySem.W.alike]) ?_ (Nat.le_trans hl (by decide)) (fun z _ => ?_)
    (PyProof.Rows.ksk_s1 _ _) (fun _ => PyProof.Rows.ksk_l1 _ _) (fun _ => PyProof.Rows.ksk_t1 _ _) (fun v z hv hm h tk kp => ?_) fun out c h' tk kp fresh hD hlen eo => ?_
  · exact PySem.W.Sortable.others fun _ => ⟨(fun z => by cases z), (fun _ z => by cases z)⟩
  · have hd : (PyData.int z.length).depth = 0 := by simp [PyData.depth]
    have := room.units
    omega
  · obtain ⟨t, rfl⟩ := hv
    have I' : Inv X pins σ H { s with heap := h, toks := tk } := I.kept kp
    have e0 := I'.env0
    exact key_lam B.S len B.hg B.hx B.d B.c (fun cv u => B.b _ _ _ _ _ _) hf hc room2 ⟨e0.frames, e0.mod, e0.bs, e0.bsz, e0.funs, e0.frf, e0.hok, e0.bare⟩ (hz z hm)
  · have hv := strs_each eo
    refine ⟨.ref _, upd H (s.heap.objs.size + 1) (.lst ((l.mergeSort leLen).map V.str)), I.laid (t' := tk) kp (Nat.le_succ _) ⟨?_, out, c, hv, hD⟩, rfl, qq _ (I.hok.fresh (Nat.le_succ _))⟩
    rw [List.length_map, List.length_mergeSort]
    exact Nat.le_trans hl (by decide)
end Lp

set_option Elab.async false
set_option linter.all false
set_option maxRecDepth 100000
set_option maxHeartbeats 4000000
/-! sorted(d, key=len) of a dict whose keys are texts -/
namespace K4
open PySem PySem.Spec PyProof.Rows L2 Tx Tg Tm
def rSortDLen : V → Hp → VK → Prop := fun x H Q => ∃ (a : Addr) (kvs : List (Key × V)) (l : List Str), x = V.ref a ∧ Rd H a (.dK kvs) ∧ kvs.map (·.1) = l.map Sum.inr ∧ l.length ≤ 5000 ∧ (∀ z ∈ l, z.length ≤ sizeLine) ∧
  ∀ p, H p = none → Q (.ref p) (upd H p (.lst ((l.mergeSort Lp.leLen).map V.str)))
def tSortDLen (t : TA) : TE := fun σ H Q => t σ H fun vs H1 => ∃ x, vs = [x] ∧ rSortDLen x H1 Q
theorem sortDLen {X : Cx} (hcalm : X.calm = true) (room : Room 3 X.A) {pins : List (Addr × Obj)} {s : Shared} {σ : L2.St} {H : Hp} {x : V} {u : Value} {Q : VK} (I : Inv X pins σ H s) (r : RelV x u) (h : rSortDLen x H Q) :
    wpAny (model X.prog X.w) X.A (call (.builtin "sorted") [u] [(Str.ofString "key", .builtin "len")]) (EP X pins σ Q) X.xe s := by
  obtain ⟨a, kvs, ks, rfl, hd, hks, hlen, hz, q⟩ := h
  obtain rfl : u = Value.ref a := r
  obtain ⟨zz, lo, vs2, rel, dd⟩ := dk_rd I.hok hd
  obtain ⟨ep, hat⟩ := dd.dictAt
  have hkeys : vs2.map (·.1) = ks.map Sum.inr := rel.keys.symm.trans hks
  have hl : vs2.length = ks.length := by
    have e := congrArg List.length hkeys
    rw [List.length_map, List.length_map] at e
    exact e
  have room2 : Room 1 X.A.in1.in1 := room.in1.in1
  have hL : ks.length ≤ sizeLine := Nat.le_trans hlen (by decide)
  refine PyProof.Rows.call_function_entry_kw PyProof.Rows.kind_sorted PyProof.Rows.plain_sorted PyProof.Rows.entry_sorted (PyProof.Rows.ksk_s1 _ _) ?_
  unfold Builtin.«sorted»
  refine wpAny_bind (m := checkCount "sorted" 1 1 _) (wpAny_pure ?_)
  refine wpAny_bind (PySem.W.kdu_collect (A := X.A.in1) (PySem.W.kdl_dict (knd := mixKind X.prog X.w) (kvs := vs2) (ep := ep) lo) (I.ok.hd hcalm) hat (by rw [hl]; exact hL) fun h' tk acc hk hacc => ?_)
  have hal : acc.toList.length = ks.length := by rw [Array.length_toList, hacc.1, hl]
  have hS : StrsAre acc.toList ks := strs_at hal fun j v e => by
    obtain ⟨k, x, e1, e2⟩ := hacc.2 j v (by rw [← Array.getElem?_toList]; exact e)
    have e3 : (vs2.map (·.1))[j]? = some k := by rw [List.getElem?_map, e1]; all_goals rfl
    rw [hkeys, List.getElem?_map] at e3
    cases e4 : ks[j]? with
    | none => rw [e4] at e3; cases e3
    | some y =>
      rw [e4] at e3
      have e5 : Sum.inr y = k := Option.some.inj e3
      subst e5
      obtain ⟨t, ev⟩ := Value.isStrOf_shape (x := y) (v := v) e2
      exact ⟨y, t, rfl, ev⟩
  have I1 : Inv X pins σ H { s with heap := h', toks := tk } := I.kept hk
  refine wpAny_bind (wpAny_newList ?_ (by rw [hal]; exact hL))
  have hoL : (h'.push (seqObj "list" acc.toList.toArray 0)).get? h'.objs.size = some (seqObj "list" acc.toList.toArray 0) := Heap.get?_push_size _ rfl
  show wpAny _ _ _ _ _ { s with heap := h'.push (seqObj "list" acc.toList.toArray 0), toks := tk }
  have e := each_strs hS
  refine wpAny_bind (wpAny_holding (wpAny_call_entry_kw PyProof.Rows.slot_list_sort ⟨_, hoL, rfl⟩ PyProof.Rows.entry_list_sort ?body (PyProof.Rows.ksk_l1 _ _)))
  case body =>
    show wpAny _ _ (Builtin.«list.sort» ⟨[.ref h'.objs.size], [(Str.ofString "key", .builtin "len")]⟩) _ _ _
    rw [PyProof.Rows.ksk_t4]
    refine PySem.W.keyH_tree (kz := ks.map fun z => PyData.int z.length) (s := { s with heap := h'.push (seqObj "list" acc.toList.toArray 0), toks := tk }) (A := X.A.in1.in1) hoL (by rw [List.length_map]; exact e.length.symm) (by rw [e.length]; exact hL)
      (PySem.W.AllAlike.of fun _ _ => by simp [PySem.W.alike]) ?_ (fun d hd => ?_) (PySem.W.keyH_turns (s := { s with heap := h'.push (seqObj "list" acc.toList.toArray 0), toks := tk }) e fun v z hv hm h2 tk2 kp => ?_) fun h2 tk2 out c kp hD ko => ?_
    · exact PySem.W.Sortable.others fun _ => ⟨(fun z => by cases z), (fun _ z => by cases z)⟩
    · obtain ⟨z, _, rfl⟩ := List.mem_map.mp hd
      have hd : (PyData.int z.length).depth = 0 := by simp [PyData.depth]
      have := room.units
      rw [hd]
      show X.A.units + 1 + 1 + 0 < _
      omega
    · obtain ⟨t, rfl⟩ := hv
      have up : ∀ b o, h'.get? b = some o → h2.get? b = some o := fun b o q => kp b o (Nat.ne_of_lt (Heap.lt_size q)) (Heap.get?_push_of_some _ q)
      have I' : Inv X pins σ H { s with heap := h2, toks := tk2 } := I1.kept (t' := tk2) up
      have hzl := hz z hm
      have hn := line63
      refine len_str (by omega) ?_
      exact ⟨_, _, rfl, fun b o e => e, .int _ _⟩
    · have up : ∀ b o, h'.get? b = some o → h2.get? b = some o := fun b o q => kp b o (Nat.ne_of_lt (Heap.lt_size q)) (Heap.get?_push_of_some _ q)
      have eo := PySem.W.keyedOut_each (fun z : Str => PyData.int z.length) ko e
      have hv := strs_each eo
      refine ⟨_, rfl, wpAny_pure ⟨_, rfl, .ref h'.objs.size, upd H h'.objs.size (.lst ((ks.mergeSort Lp.leLen).map V.str)), I1.laid (t' := tk2) up (Nat.le_refl _) ⟨?_, out, c, hv, hD⟩, rfl, q _ (I1.hok.fresh (Nat.le_refl _))⟩⟩
      rw [List.length_map, List.length_mergeSort]
      exact hL
theorem pe_sortDLen {X : Cx} {e : Expr} {t : TA} {p p2 kp pos : Pos} (hcalm : X.calm = true) (hgS : Gl X "sorted") (hmS : X.mg "sorted" = none) (hgL : Gl X "len") (hmL : X.mg "len" = none) (room : Room 3 X.A) (ha : PA X [e] t) (he : backTo pos (starEach (e :: []) X.env) = (false, eval e X.env) :: backTo pos (starEach [] X.env) := by rfl)
    (hpl : (backTo pos (starEach (e :: []) X.env)).any (·.1) = false := by rfl) : PE X (.Call (.Name "sorted" p) [e] [⟨some (Str.ofString "key"), .Name "len" p2, kp⟩] pos) (tSortDLen t) := by
  refine ⟨fun pins s σ H Q I h => ?_⟩
  refine wpAny_Call_Name_kw (ld_blt I hgS hmS (u := .builtin "sorted") (by decide +kernel) ?_)
  refine PyProof.Rows.callWith_kw ?_ he hpl (by rfl) (by rfl)
  refine thn (ha.run pos pins s σ H _ I h) fun us s1 ⟨vs, H1, I1, r1, x, hx, q1⟩ => ?_
  · subst hx
    obtain ⟨u, rfl, ru⟩ := vals1 r1
    show wpAny _ _ (evalAll ((do let v ← eval (.Name "len" p2) X.env; standAt pos; pure v) :: [])) _ _ s1
    refine wpAny_evalAll_cons (wpAny_bind (ld_blt I1 hgL hmL (u := .builtin "len") (by decide +kernel) (wpAny_bind (wpAny_standAt (wpAny_pure ?_)))))
    refine wpAny_evalAll_nil ?_
    exact sortDLen hcalm room I1 ru q1
end K4

set_option Elab.async false
set_option linter.all false
set_option maxRecDepth 100000
set_option maxHeartbeats 4000000
/-! list.extend(tuple) -/
namespace L2
open PySem PySem.Spec PyProof PyProof.Rows
/-- where a list and a tuple lie -/
def LT (l b : Addr) (xs ys : Array Value) (n m : Nat) (od : Option Addr) (os : Array (Option Value)) (s : Shared) : Prop :=
  s.heap.get? l = some { cls := .type "list", data := .seq xs n } ∧ s.heap.get? b = some { cls := .type "tuple", dict := od, data := .seq ys m, slots := os }
theorem extend_tup {l b : Addr} {xs ys : Array Value} {n m : Nat} {od : Option Addr} {os : Array (Option Value)} (few : Builtin.List.listTooLong (xs.size + ys.size) = false) (h1 : xs.size ≤ sizeLine) (h2 : xs.size + ys.size ≤ sizeLine + 1) :
    Meets (Builtin.«list.extend» ⟨[.ref l, .ref b], []⟩) (fun _ R s => LT l b xs ys n m od os s ∧ R (.ok (.ret .none)) { s with heap := s.heap.update l (Obj.mapSeq (· ++ ys)) }) := by
  refine .of_wp fun prog w A R s ⟨⟨hl, hb⟩, h⟩ => ?_
  cases s with
  | mk hp ge dr tk op =>
    have hs0 : ¬(!xs.isEmpty && Builtin.List.listTooLong (xs.size + ys.size)) = true := by
      rw [few, Bool.and_false]
      exact Bool.false_ne_true
    have both : (xs ++ ys).size ≤ sizeLine + 1 := by
      rw [Array.size_append]
      exact h2
    have i1 := AutoSeq1.idx_int
    have i2 := AutoSeq1.sub_tuple_list
    have i3 := AutoSeq1.sub_tuple_tuple
    have i4 := AutoSeq1.sub_list_list
    have i5 := AutoSeq1.sub_list_tuple
    wp_walk using (wpAny_updateSeq hl rfl (hz := h1) (_hz' := both)), AutoSeq1.wpAny_loadPart' hl, AutoSeq1.wpAny_loadPart' hb
    exact ⟨_, rfl, h⟩
section
variable {X : Cx}
def rExtT (K : PySem.W.Frag) : V → List V → Hp → VK → Prop := fun x vs H Q => ∃ l b xs zs, x = .ref l ∧ vs = [.ref b] ∧ H l = some (.lst xs) ∧ SqT K H b zs ∧ xs.length + zs.length ≤ sizeLine ∧ Q .non (upd H l (.lst (xs ++ zs)))
theorem mt_extendT : MtM X "list.extend" (rExtT X.K) := by
  intro pins s σ H x vs v us Q I rx rv h
  obtain ⟨l, b, xs, zs, rfl, rfl, hH, hB, hz, q⟩ := h
  cases rx
  obtain ⟨u, rfl, ru⟩ := rv.one
  cases ru
  obtain ⟨z, its, n, r, hl, e⟩ := I.lstM hH
  obtain ⟨its2, r2, ⟨o, e2, hc, n2, hd⟩, _⟩ := I.tuple hB
  have hl2 := r2.length
  obtain ⟨oc, od, odt, os⟩ := o
  obtain rfl : oc = .type "tuple" := hc
  obtain rfl : odt = .seq its2.toArray n2 := hd
  have hsz : its.toArray.size + its2.toArray.size ≤ sizeLine := by rw [List.size_toArray, List.size_toArray]; omega
  have long1 : its.toArray.size ≤ sizeLine := by rw [List.size_toArray]; omega
  refine call_meets F.slot_list_extend ⟨_, e, rfl⟩ F.entry_list_extend (F.args_list_extend_2 _ _) (extend_tup (notLongL hsz) long1 (Nat.le_succ_of_le hsz)) ⟨⟨e, e2⟩, ?_⟩
  refine ⟨.non, _, I.lset (its' := its ++ its2) hH e (by simp) (r.append r2) ?_, rfl, q⟩
  rw [List.length_append]
  omega
end
end L2

set_option Elab.async false
set_option linter.all false
set_option maxRecDepth 100000
set_option maxHeartbeats 6400000
namespace K4
open PySem L2 Tx Tg Tm
/-! ### a text's halves, and all parts of a bracket -/
section
variable {P : Program} {w : World} {K : PySem.W.Frag} {mg : Str → Option Value} {base : Heap} {fL fC : Addr} {dL dC : FuncData}
abbrev nCut : List Str := ["pattern", "end"]
theorem scCut : FnScope nCut ["pattern"] (defScope sCut) := ⟨rfl, rfl, rfl, by decide +kernel, rfl, by decide +kernel, by decide +kernel⟩
abbrev hvs (z : Str) : List V := [.str (tx (Ly.hv (cds z)).1), .str (tx (Ly.hv (cds z)).2)]
def spCut : Sp := fun vs H Q _ => ∃ (z : Str), vs = [.str z] ∧ 2 ≤ z.length ∧ z.length ≤ 1000 ∧ ∀ p H', Same H H' → H' p = some (.tup (hvs z)) → Q (.ref p) H'
theorem ok_cut {f : Addr} {fd : FuncData} (F : Fun K "cut_in_halves" "cut_in_halves" sCut f fd) (T : Txt K mg) (DL : Df K mg "leading_factors" sLF ["pattern"] fL dL) : FnOk P w K mg base CX0 2 f fd ["pattern"] spCut := by
  have GL := ok_lf (P := P) (w := w) (base := base) DL.F T
  refine F.ok scCut (fun vs H Q E h => ?_) (fun cdv A outer s H vs Q E hr h => ?_)
  · obtain ⟨z, rfl, _⟩ := h
    rfl
  · obtain ⟨z, rfl, h2, hz, q⟩ := h
    have hzs : z.length ≤ sizeLine := Nat.le_trans hz (by decide)
    refine ⟨_, (pss_cons (ps_set (i := 1) scCut.nd rfl (Or.inl rfl) (pe_ix ix_tup (pe_call GL (hr.mono (by decide)) (by rfl) DL.m DL.F.kp DL.b .nil pass0 (pa_cons (pe_slice sl_str (pv 0) (po_some pe_int) po_none) pa_nil)) (pe_un un_neg pe_int) (fun _ _ => rfl)))
    (pss_one (ps_ret (pe_tup (pa_cons (pe_slice sl_str (pv 0) po_none (po_some (pe_op op_sub (pe_callB call_len_str (by rfl) T.len PySem.boot_len (pa_cons (pv 0) pa_nil)) (pe_callB call_len_str (by rfl) T.len PySem.boot_len (pa_cons (pv 1) pa_nil))))) (pa_cons (pv 1) pa_nil)))))), ?_⟩
    refine ⟨_, rfl, ?_⟩
    have e1 : cds (cutS z (some 1) none) = (cds z).tail := by
      have := cut_fr (z := z) 1
      rw [List.drop_one] at this
      exact this
    have l1 : (cutS z (some 1) none).length = z.length - 1 := by
      rw [← cds_len, e1, List.length_tail, cds_len]
    have h2' : 2 ≤ (cds z).length := by rw [cds_len]; exact h2
    have hv := Ly.hv_all h2'
    refine ⟨1, rfl, z, rfl, hzs, cutS z (some 1) none, rfl, by omega, fun p H1 s1 e1' => ?_⟩
    have elast : txs (lfz (cutS z (some 1) none)) = txs ((Ly.lfac (cds z).tail).dropLast.map tx) ++ [V.str (tx (Ly.hv (cds z)).2)] := by
      have := List.getLast?_eq_some_iff.mp (Ly.hv_last h2')
      obtain ⟨pre, hp⟩ := this
      unfold lfz
      rw [e1, hp, List.dropLast_concat, List.map_append]
      show List.map V.str _ = _
      rw [List.map_append]
      rfl
    rw [elast] at e1'
    refine ⟨1, rfl, p, _, _, _, rfl, rfl, SqT.of e1', atI_last _ _, ?_⟩
    dsimp only [tSeq, gName]
    have l2 : (tx (Ly.hv (cds z)).2).length = (Ly.hv (cds z)).2.length := tx_len _
    have hn := hv.n
    have hb0 := hv.b0
    rw [cds_len] at hn
    refine ⟨_, rfl, ?_⟩
    dsimp only [tNoPart]
    refine ⟨_, rfl, z, rfl, hzs, _, rfl, _, rfl, by rw [l2]; exact Nat.le_trans (show _ ≤ 1000 by omega) (by decide), _, _, rfl, rfl, _, rfl, z, rfl, hzs, _, rfl, ?_⟩
    have e2 : cutS z none (some ((z.length : Int) - ((tx (Ly.hv (cds z)).2).length : Int))) = tx (Ly.hv (cds z)).1 := by
      rw [l2, show ((z.length : Int) - ((Ly.hv (cds z)).2.length : Int)) = ((z.length - (Ly.hv (cds z)).2.length : Nat) : Int) by omega]
      refine cds_ext ?_
      rw [cut_to]
      show (cds z).take _ = (Ly.hv (cds z)).1
      rw [← cds_len]
      rfl
    rw [e2]
    refine ⟨by show 2 ≤ sizeLine; decide, fun r nr => ?_⟩
    exact q r _ (s1.trans (same_upd nr)) upd_same
abbrev nParts : List Str := ["pattern", "parts", "todo", "part"]
theorem scParts : FnScope nParts ["pattern"] (defScope sParts) := ⟨rfl, rfl, rfl, by decide +kernel, rfl, by decide +kernel, by decide +kernel⟩
/-- what the parts are -/
structure Pts (R : List Nat → Prop) (z : Str) (L : List Str) : Prop where
  all : ∀ x ∈ L, R (cds x)
  me : z ∈ L
  half : ∀ x ∈ L, 2 ≤ x.length → tx (Ly.hv (cds x)).1 ∈ L ∧ tx (Ly.hv (cds x)).2 ∈ L
  few : L.length ≤ 2 * z.length
  nd : L.Nodup
  up : L.Pairwise fun a b => a.length ≤ b.length
def kvT (ks : List Str) : List (Key × V) := ks.map fun k => ((Sum.inr k : Key), V.bl true)
theorem kvT_keys (ks : List Str) : (kvT ks).map (·.1) = ks.map Sum.inr := by
  unfold kvT
  rw [List.map_map]
  rfl
theorem kvT_some (x : Str) : ∀ ks : List Str, (valV (kvT ks) (Sum.inr x : Key)).isSome = decide (x ∈ ks)
  | [] => rfl
  | k :: ks => by
    show (valV (((Sum.inr k : Key), V.bl true) :: kvT ks) (Sum.inr x : Key)).isSome = _
    by_cases h : k = x
    · rw [valV_pos (by rw [h]), decide_eq_true (by rw [h]; exact List.mem_cons_self)]
      rfl
    · rw [valV_neg (fun e => h (Sum.inr.inj e)), kvT_some x ks]
      exact decide_eq_decide.mpr ⟨List.mem_cons_of_mem _, fun q => (List.mem_cons.mp q).resolve_left fun e => h e.symm⟩
theorem kvT_put {x : Str} {ks : List Str} (h : x ∉ ks) : putK (kvT ks) (Sum.inr x : Key) (V.bl true) = kvT (ks ++ [x]) := by
  rw [Lc.putK_app (by
    rw [kvT_keys]
    exact fun q => by
      obtain ⟨y, hy, e⟩ := List.mem_map.mp q
      exact h (Sum.inr.inj e ▸ hy))]
  unfold kvT
  rw [List.map_append]
  rfl
def mea (l : List Str) : Nat := (l.map fun x => 2 * x.length - 1).sum
theorem mea_app (l k : List Str) : mea (l ++ k) = mea l + mea k := by
  unfold mea
  rw [List.map_append, List.sum_append]
/-- what holds while there is something to do -/
structure PI (R : List Nat → Prop) (z : Str) (ks td : List Str) : Prop where
  all : ∀ x, x ∈ ks ∨ x ∈ td → R (cds x)
  me : z ∈ ks ∨ z ∈ td
  half : ∀ x ∈ ks, 2 ≤ x.length → (tx (Ly.hv (cds x)).1 ∈ ks ∨ tx (Ly.hv (cds x)).1 ∈ td) ∧ (tx (Ly.hv (cds x)).2 ∈ ks ∨ tx (Ly.hv (cds x)).2 ∈ td)
  nd : ks.Nodup
  few : ks.length + mea td ≤ 2 * z.length
theorem mem_snoc {x y : Str} {l : List Str} : y ∈ l ++ [x] ↔ y ∈ l ∨ y = x := by
  rw [List.mem_append, List.mem_singleton]
theorem PI.old {R : List Nat → Prop} {z x : Str} {ks td : List Str} (h : PI R z ks (td ++ [x])) (hx : x ∈ ks) : PI R z ks td := by
  have m : ∀ {y : Str}, y ∈ ks ∨ y ∈ td ++ [x] → y ∈ ks ∨ y ∈ td := fun {y} q => q.elim .inl fun q => (mem_snoc.mp q).elim .inr fun e => .inl (e ▸ hx)
  refine ⟨fun y hy => h.all y (hy.imp id fun q => mem_snoc.mpr (.inl q)), m h.me, fun y hy h2 => ⟨m (h.half y hy h2).1, m (h.half y hy h2).2⟩, h.nd, ?_⟩
  have := h.few
  rw [mea_app] at this
  omega
theorem PI.new {R : List Nat → Prop} {z x : Str} {ks td : List Str} (h : PI R z ks (td ++ [x])) (hx : x ∉ ks) (ts : List Str) (h0 : 0 < x.length) (ht : ∀ y ∈ ts, R (cds y)) (h2 : 2 ≤ x.length → tx (Ly.hv (cds x)).1 ∈ ts ∧ tx (Ly.hv (cds x)).2 ∈ ts) (hm : mea ts + 1 ≤ 2 * x.length - 1) : PI R z (ks ++ [x]) (td ++ ts) := by
  have m : ∀ {y : Str}, y ∈ ks ∨ y ∈ td ++ [x] → y ∈ ks ++ [x] ∨ y ∈ td ++ ts := fun {y} q => q.elim (fun q => .inl (mem_snoc.mpr (.inl q))) fun q => (mem_snoc.mp q).elim (fun q => .inr (List.mem_append_left _ q)) fun e => .inl (mem_snoc.mpr (.inr e))
  refine ⟨fun y hy => ?_, m h.me, fun y hy hy2 => ?_, ?_, ?_⟩
  · rcases hy with q | q
    · rcases mem_snoc.mp q with q | rfl
      · exact h.all y (.inl q)
      · exact h.all _ (.inr (mem_snoc.mpr (.inr rfl)))
    · rcases List.mem_append.mp q with q | q
      · exact h.all y (.inr (mem_snoc.mpr (.inl q)))
      · exact ht y q
  · rcases mem_snoc.mp hy with q | rfl
    · exact ⟨m (h.half y q hy2).1, m (h.half y q hy2).2⟩
    · exact ⟨.inr (List.mem_append_right _ (h2 hy2).1), .inr (List.mem_append_right _ (h2 hy2).2)⟩
  · exact List.nodup_append.mpr ⟨h.nd, List.nodup_cons.mpr ⟨List.not_mem_nil, List.nodup_nil⟩, fun a ha b hb e => hx (by rw [List.mem_singleton.mp hb] at e; exact e ▸ ha)⟩
  · have := h.few
    rw [mea_app] at this ⊢
    have e : mea [x] = 2 * x.length - 1 := by
      show (2 * x.length - 1) + 0 = _
      omega
    rw [List.length_append, List.length_singleton]
    omega
theorem le_len (a b : Str) : Lp.leLen a b = decide (a.length ≤ b.length) := by
  have e1 : Lp.leLen a b = !PySem.W.dataLt (.int b.length) (.int a.length) := rfl
  rw [e1, PySem.W.dataLt_int]
  by_cases h : a.length ≤ b.length
  · rw [decide_eq_true h, decide_eq_false (by omega)]
    rfl
  · rw [decide_eq_false h, decide_eq_true (by omega)]
    rfl
theorem PI.fin {R : List Nat → Prop} {z : Str} {ks : List Str} (h : PI R z ks []) : Pts R z (ks.mergeSort Lp.leLen) := by
  have P := List.mergeSort_perm ks Lp.leLen
  have m : ∀ {y : Str}, y ∈ ks ∨ y ∈ [] → y ∈ ks.mergeSort Lp.leLen := fun {y} q => P.mem_iff.mpr (q.elim id fun q => absurd q List.not_mem_nil)
  refine ⟨fun x hx => h.all x (.inl (P.mem_iff.mp hx)), m h.me, fun x hx h2 => ⟨m (h.half x (P.mem_iff.mp hx) h2).1, m (h.half x (P.mem_iff.mp hx) h2).2⟩, ?_, P.nodup_iff.mpr h.nd, ?_⟩
  · rw [P.length_eq]
    have := h.few
    omega
  · have := List.pairwise_mergeSort (le := Lp.leLen) (fun a b c => by
      simp only [le_len, decide_eq_true_eq]
      exact Nat.le_trans) (fun a b => by
      simp only [le_len, Bool.or_eq_true, decide_eq_true_eq]
      exact Nat.le_total _ _) ks
    exact this.imp fun h => by
      rw [le_len] at h
      exact of_decide_eq_true h
def spParts : Sp := fun vs H Q _ => ∃ (z : Str) (R : List Nat → Prop), vs = [.str z] ∧ z.length ≤ 100 ∧ R (cds z) ∧ (∀ l, R l → l ≠ [] ∧ l.length ≤ 100) ∧ (∀ l, R l → 2 ≤ l.length → R (Ly.hv l).1 ∧ R (Ly.hv l).2) ∧
  ∀ p H' L, Same H H' → H' p = some (.lst (txs L)) → Pts R z L → Q (.ref p) H'
theorem ok_parts {f : Addr} {fd : FuncData} (F : Fun K "bracket_parts" "bracket_parts" sParts f fd) (T : Txt K mg) (DC : Df K mg "cut_in_halves" sCut ["pattern"] fC dC) (GC : FnOk P w K mg base CX0 2 fC dC ["pattern"] spCut) : FnOk P w K mg base CX0 4 f fd ["pattern"] spParts := by
  refine F.ok scParts (fun vs H Q E h => ?_) (fun cdv A outer s H vs Q E hr h => ?_)
  · obtain ⟨z, R, rfl, _⟩ := h
    rfl
  · obtain ⟨z, R, rfl, hz, hR, R1, R2, q⟩ := h
    have hu := hu_of hr
    refine ⟨_, (pss_cons (ps_set (i := 1) scParts.nd rfl (Or.inl rfl) pe_dnewK)
    (pss_cons (ps_set (i := 2) scParts.nd rfl (Or.inl rfl) (pe_lst (pa_cons (pv 0) pa_nil)))
    (pss_cons (ps_while PassesOwn.never (pt_truth (pv 2) (by intro _; rfl))
      (pss_cons (ps_set (i := 3) scParts.nd rfl (Or.inl rfl) (pe_bm0 PySem.F.plainAttrs_list PySem.F.slot_list_pop PySem.F.type_list_pop mt_pop (pv 2)))
      (pss_one (ps_if (pt_cmp (pc_dnotin hu (pv 3) (pv 1))) (pss_cons (ps_dput hu (pv 1) (pv 3) pe_bl rfl)
        (pss_one (ps_if (pt_cmpR op_gt (pe_callB call_len_str (by rfl) T.len PySem.boot_len (pa_cons (pv 3) pa_nil)) pe_int (nomark _)) (pss_one (ps_expr (pe_bm PySem.F.plainAttrs_list PySem.F.slot_list_extend PySem.F.type_list_extend mt_extendT (pv 2) (pa_cons (pe_call GC (hr.mono (by decide)) (by rfl) DC.m DC.F.kp DC.b .nil pass0 (pa_cons (pv 3) pa_nil)) pa_nil)))) pss_nil))) pss_nil))))
    (pss_one (ps_ret (pe_sortDLen rfl (by rfl) T.sorted (by rfl) T.len (hr.mono (by decide)) (pa_cons (pv 1) pa_nil))))))), ?_⟩
    refine fun D nD => ?_
    have s1 := same_upd (o := .dK []) nD
    have e1 : (upd H D (.dK [])) D = some (.dK (kvT [])) := upd_same
    generalize upd H D (.dK []) = H1 at s1 e1 ⊢
    dsimp only [tSeq, gName]
    refine ⟨_, rfl, by show 1 ≤ sizeLine; decide, fun L nL => ?_⟩
    have nDL : D ≠ L := ne_of_none e1 nL
    have s2 := s1.trans (same_upd (o := .lst [V.str z]) nL)
    have e2 : (upd H1 L (.lst [V.str z])) L = some (.lst (txs [z])) := upd_same
    have e3 : (upd H1 L (.lst [V.str z])) D = some (.dK (kvT [])) := by
      rw [upd_ne nDL]
      exact e1
    have nL0 : H L = none := by
      cases hh : H L with
      | none => rfl
      | some o =>
        rw [s1 _ _ hh] at nL
        cases nL
    generalize upd H1 L (.lst [V.str z]) = H2 at s2 e2 e3 ⊢
    dsimp only [tSeq, gName]
    refine ⟨fun m σ H3 => ∃ (ks td : List Str) (u3 : Option V), σ = [some (.str z), some (.ref D), some (.ref L), u3] ∧ Same H H3 ∧ H3 D = some (.dK (kvT ks)) ∧ H3 L = some (.lst (txs td)) ∧ PI R z ks td ∧ m = mea td,
      ⟨_, [], [z], none, rfl, s2, e3, e2, ⟨fun x hx => hx.elim (fun q => absurd q List.not_mem_nil) (fun q => by rw [List.mem_singleton.mp q]; exact hR), .inr (List.mem_singleton.mpr rfl), fun x hx => (by cases hx), List.nodup_nil, (by show 0 + ((2 * z.length - 1) + 0) ≤ _; omega)⟩, rfl⟩, ?_⟩
    rintro m σ H3 ⟨ks, td, u3, rfl, s3, eD, eL, I, rfl⟩
    refine ⟨_, rfl, _, .inl ⟨_, SqL.of eL, rfl⟩, ?_⟩
    rcases List.eq_nil_or_concat td with rfl | ⟨td, x, rfl⟩
    · refine iteF ?_
      refine ⟨_, rfl, V.ref D, rfl, D, _, ks, rfl, .inl eD, kvT_keys ks, ?_, fun x hx => ?_, fun p np => ?_⟩
      · have := I.few
        omega
      · have := (R1 _ (I.all x (.inl hx))).2
        rw [cds_len] at this
        exact Nat.le_trans this (by decide)
      · exact q p _ _ (s3.trans (same_upd np)) upd_same I.fin
    · rw [List.concat_eq_append] at eL I ⊢
      have hRx := I.all x (.inr (mem_snoc.mpr (.inr rfl)))
      obtain ⟨hx0, hx1⟩ := R1 _ hRx
      rw [cds_len] at hx1
      have hxp : 0 < x.length := by
        rw [← cds_len]
        exact List.length_pos_iff.mpr hx0
      have hxs : x.length ≤ sizeLine := Nat.le_trans hx1 (by decide)
      have hfew := I.few
      have et : txs (td ++ [x]) = txs td ++ [V.str x] := List.map_append
      have hne : (!(txs (td ++ [x])).isEmpty) = true := by
        rw [et]
        cases txs td <;> rfl
      have em : mea (td ++ [x]) = mea td + (2 * x.length - 1) := by
        rw [mea_app]
        rfl
      rw [hne]
      refine iteT ?_
      refine ⟨_, fun _ _ z => z, ?_⟩
      refine ⟨_, rfl, .inl ⟨rfl, _, SqL.of eL⟩, L, _, V.str x, rfl, rfl, eL, ?_, ?_⟩
      · rw [et, List.length_append]
        show (txs td ++ [V.str x])[(txs td).length + 1 - 1]? = _
        rw [Nat.add_sub_cancel, List.getElem?_concat_length]
      have ed : (txs (td ++ [x])).dropLast = txs td := by
        rw [et]
        exact List.dropLast_concat
      rw [ed]
      have nDL3 : D ≠ L := nDL
      have s4 : Same H (upd H3 L (.lst (txs td))) := same_put s3 nL0
      have e4 : (upd H3 L (.lst (txs td))) L = some (.lst (txs td)) := upd_same
      have e5 : (upd H3 L (.lst (txs td))) D = some (.dK (kvT ks)) := by
        rw [upd_ne nDL]
        exact eD
      generalize upd H3 L (.lst (txs td)) = H4 at s4 e4 e5 ⊢
      dsimp only [tSeq, gName]
      refine ⟨_, rfl, _, rfl, D, _, rfl, DGet.k (k := (Sum.inr x : Key)) e5, ?_⟩
      rw [kvT_some]
      by_cases hk : x ∈ ks
      · rw [decide_eq_true hk]
        refine ⟨_, rfl, ?_⟩
        refine iteF ?_
        exact ⟨_, by omega, ks, td, _, rfl, s4, e5, e4, I.old hk, rfl⟩
      · rw [decide_eq_false hk]
        refine ⟨_, rfl, ?_⟩
        refine iteT ?_
        have kl : (kvT ks).length = ks.length := List.length_map ..
        have klt : (kvT ks).length < sizeLine := Nat.lt_of_le_of_lt (show _ ≤ 200 by omega) (by decide)
        refine ⟨_, rfl, _, rfl, D, _, rfl, DPut.k (k := (Sum.inr x : Key)) e5 klt, ?_⟩
        rw [kvT_put hk]
        have s6 := same_put (o := .dK (kvT (ks ++ [x]))) s4 nD
        have e6 : (upd H4 D (.dK (kvT (ks ++ [x])))) D = some (.dK (kvT (ks ++ [x]))) := upd_same
        have e7 : (upd H4 D (.dK (kvT (ks ++ [x])))) L = some (.lst (txs td)) := by
          rw [upd_ne nDL.symm]
          exact e4
        generalize upd H4 D (.dK (kvT (ks ++ [x]))) = H5 at s6 e6 e7 ⊢
        refine ⟨_, rfl, x, rfl, hxs, _, _, rfl, rfl, _, rfl, ?_⟩
        refine ite2 (fun hc => ?_) (fun hc => ?_)
        · have hc : 2 ≤ x.length := by have := of_decide_eq_true hc; omega
          have hc' : 2 ≤ (cds x).length := by rw [cds_len]; exact hc
          have hv := Ly.hv_all hc'
          have hn := hv.n
          rw [cds_len] at hn
          have a0 := hv.a0
          have b0 := hv.b0
          have tl : td.length ≤ mea td := by
            have pos : ∀ y ∈ td, 0 < y.length := fun y hy => by
              have := (R1 _ (I.all y (.inr (mem_snoc.mpr (.inl hy))))).1
              rw [← cds_len]
              exact List.length_pos_iff.mpr this
            clear I em eL et hne ed e4 e7 hfew
            induction td with
            | nil => exact Nat.le_refl _
            | cons y td ih =>
              have := ih fun w hw => pos w (List.mem_cons_of_mem _ hw)
              have h1 := pos y List.mem_cons_self
              show td.length + 1 ≤ (2 * y.length - 1) + mea td
              omega
          refine ⟨_, rfl, .inl ⟨rfl, _, SqL.of e7⟩, _, rfl, x, rfl, hc, by omega, fun p H6 s7 e8 => ?_⟩
          refine ⟨L, p, _, _, rfl, rfl, s7 _ _ e7, SqT.of e8, ?_, ?_⟩
          · rw [List.length_map]
            exact Nat.le_trans (show td.length + 2 ≤ 400 by omega) (by decide)
          · have ets : mea [tx (Ly.hv (cds x)).1, tx (Ly.hv (cds x)).2] = (2 * (Ly.hv (cds x)).1.length - 1) + (2 * (Ly.hv (cds x)).2.length - 1) := by
              show (2 * (tx (Ly.hv (cds x)).1).length - 1) + ((2 * (tx (Ly.hv (cds x)).2).length - 1) + 0) = _
              rw [tx_len, tx_len]
              omega
            have I2 := I.new hk [tx (Ly.hv (cds x)).1, tx (Ly.hv (cds x)).2] hxp (fun y hy => by
              rcases List.mem_cons.mp hy with rfl | hy
              · exact (R2 _ hRx hc').1
              · rw [List.mem_singleton.mp hy]
                exact (R2 _ hRx hc').2) (fun _ => ⟨List.mem_cons_self, List.mem_cons_of_mem _ List.mem_cons_self⟩) (by omega)
            refine ⟨_, ?_, ks ++ [x], td ++ [tx (Ly.hv (cds x)).1, tx (Ly.hv (cds x)).2], _, rfl, same_put (s6.trans s7) nL0, ?_, ?_, I2, rfl⟩
            · rw [mea_app, em, ets]
              omega
            · rw [upd_ne nDL]
              exact s7 _ _ e6
            · rw [upd_same, show txs (td ++ [tx (Ly.hv (cds x)).1, tx (Ly.hv (cds x)).2]) = txs td ++ hvs x from List.map_append]
        · have hc : x.length ≤ 1 := by
            rcases Nat.lt_or_ge 1 x.length with lt | ge
            · exact absurd (decide_eq_true (by omega)) hc
            · exact ge
          have I2 := I.new hk [] hxp (fun y hy => by cases hy) (fun h => absurd h (by omega)) (by show 0 + 1 ≤ _; omega)
          rw [List.append_nil] at I2
          exact ⟨_, by omega, ks ++ [x], td, _, rfl, s6, e6, e7, I2, rfl⟩
end
end K4

set_option Elab.async false
set_option linter.all false
set_option maxRecDepth 100000
set_option maxHeartbeats 6400000
namespace K4
open PySem L2 Tx Tg Tm
/-! ### texts that lead, as the package judges them -/
theorem leads_is (z : Str) : lawLead z = Ly.lead (cds z) := by
  have e0 : (z ≠ "") ↔ cds z ≠ [] := not_congr ⟨fun h => by rw [h]; rfl, fun h => cds_ext h⟩
  have e1 : ∀ i, endLess z i = decide (cds z < (cds z).drop (1 + i)) := fun i => by
    have := cut_fr (z := z) (1 + i)
    unfold endLess
    show decide (cds z < cds (cutS z (some (1 + (i : Int))) none)) = _
    rw [show (1 + (i : Int)) = ((1 + i : Nat) : Int) by omega, this]
  unfold lawLead leastB Ly.lead
  rw [decide_eq_decide.mpr e0, cds_len]
  congr 1
  rw [List.range'_eq_map_range, List.all_map, List.all_map]
  exact List.all_congr rfl fun i => e1 i
/-- what is_leading tells -/
def isLd (sg : Str) : PyData → Bool
  | .str z => has sg 400 (.str z) && lawLead z
  | _ => false
section
variable {P : Program} {w : World} {K : PySem.W.Frag} {mg : Str → Option Value} {base : Heap} {fE fI fH fL fC fP fB fA f1 : Addr} {dE dI dH dL dC dP dB dA d1 : FuncData}
def spPatV : Sp := fun vs H Q _ => ∃ (sg : Str) (v : V) (d : PyData), vs = [.str sg, v] ∧ Signs sg ∧ Val H v d ∧ Ok d ∧ ∀ H', Same H H' → Q (.bl (has sg 400 d)) H'
abbrev nPatV : List Str := ["letters", "value"]
theorem scPatV : FnScope nPatV ["letters", "value"] (defScope sPattern) := ⟨rfl, rfl, rfl, by decide +kernel, rfl, by decide +kernel, by decide +kernel⟩
theorem ok_patV {f : Addr} {fd : FuncData} (F : Fun K "is_pattern" "is_pattern" sPattern f fd) (T : Txt K mg) (G : Low K mg fI fH fL fC fP dI dH dL dC dP) : FnOk P w K mg base CX0 4 f fd ["letters", "value"] spPatV := by
  have GC := ok_passL (P := P) (w := w) (base := base) G.DC.F T G.DH G.DL
  have GH := ok_has (P := P) (w := w) (base := base) G.DH.F T
  refine F.ok scPatV (fun vs H Q E h => ?_) (fun cdv A outer s H vs Q E hr h => ?_)
  · obtain ⟨sg, v, d, rfl, _⟩ := h
    rfl
  · obtain ⟨sg, v, d, rfl, hsg, hv, hd, q⟩ := h
    obtain ⟨tn, gP⟩ := T.mPat
    refine ⟨_, (pss_cons (ps_expr (pe_call GC (hr.mono (by decide)) (by rfl) G.DC.m G.DC.F.kp G.DC.b .nil pass0 (pa_cons (pv 0) pa_nil)))
    (pss_one (ps_ret (pe_call GH (hr.mono (by decide)) (by rfl) G.DH.m G.DH.F.kp G.DH.b .nil pass0 (pa_cons (pv 1) (pa_cons (pv 0) (pa_cons (pe_glob (v := .int 400) (by rfl) gP ⟨_, rfl⟩) pa_nil))))))), ?_⟩
    refine ⟨_, rfl, sg, rfl, hsg, fun H' s' => ?_⟩
    exact ⟨_, rfl, _, rfl, v, d, sg, 400, rfl, hv.same s', hd, q H' s'⟩
def spLead : Sp := fun vs H Q _ => ∃ (sg : Str) (v : V) (d : PyData), vs = [.str sg, v] ∧ Signs sg ∧ Val H v d ∧ Ok d ∧ ∀ H', Same H H' → Q (.bl (isLd sg d)) H'
abbrev nLead : List Str := ["letters", "value"]
theorem scLead : FnScope nLead ["letters", "value"] (defScope sIsLead) := ⟨rfl, rfl, rfl, by decide +kernel, rfl, by decide +kernel, by decide +kernel⟩
theorem ok_lead {f : Addr} {fd : FuncData} (F : Fun K "is_leading" "is_leading" sIsLead f fd) (T : Txt K mg) (G : Low K mg fI fH fL fC fP dI dH dL dC dP) (DE : Df K mg "is_least_end" sLeast ["pattern"] fE dE) : FnOk P w K mg base CX0 5 f fd ["letters", "value"] spLead := by
  have GP := ok_patV (P := P) (w := w) (base := base) G.DP.F T G
  have GE := ok_least (P := P) (w := w) (base := base) DE.F T
  refine F.ok scLead (fun vs H Q E h => ?_) (fun cdv A outer s H vs Q E hr h => ?_)
  · obtain ⟨sg, v, d, rfl, _⟩ := h
    rfl
  · obtain ⟨sg, v, d, rfl, hsg, hv, hd, q⟩ := h
    refine ⟨_, (pss_one (ps_ret (pe_and (pe_call GP (hr.mono (by decide)) (by rfl) G.DP.m G.DP.F.kp G.DP.b .nil pass0 (pa_cons (pv 0) (pa_cons (pv 1) pa_nil))) (pe_and (pe_cmpR op_ne (pv 1) pe_str (nomark _)) (pe_one (pe_call GE (hr.mono (by decide)) (by rfl) DE.m DE.F.kp DE.b .nil pass0 (pa_cons (pv 1) pa_nil))))))), ?_⟩
    refine ⟨_, rfl, _, rfl, sg, v, d, rfl, hsg, hv, hd, fun H1 s1 => ⟨_, rfl, ?_⟩⟩
    have q := fun H2 s2 => q H2 (s1.trans s2)
    cases hb : has sg 400 d with
    | false =>
      have e : isLd sg d = false := by
        cases d with
        | str z =>
          show (has sg 400 (.str z) && lawLead z) = false
          rw [hb]
          rfl
        | _ => rfl
      rw [e] at q
      exact iteF (q H1 (Same.refl H1))
    | true =>
      obtain ⟨z, rfl⟩ : ∃ z, d = .str z := by
        cases d with
        | str z => exact ⟨z, rfl⟩
        | _ => cases hb
      cases hv with
      | str z =>
      have e : isLd sg (.str z) = (decide (z ≠ "") && leastB z) := by
        show (has sg 400 (.str z) && lawLead z) = _
        rw [hb]
        rfl
      have hz : z.length ≤ 400 := by
        have hb : (decide (z.length ≤ 400) && only z sg) = true := hb
        rw [Bool.and_eq_true] at hb
        exact of_decide_eq_true hb.1
      rw [e] at q
      refine iteT ?_
      refine ⟨_, rfl, rfl, _, rfl, ?_⟩
      by_cases hz0 : z = ""
      · have e0 : (!decide (V.str z = V.str "")) = false := by
          rw [decide_eq_true (congrArg V.str hz0)]
          rfl
        rw [decide_eq_false (fun h => h hz0 : ¬ z ≠ ""), Bool.false_and] at q
        rw [e0]
        exact iteF (q _ (Same.refl H1))
      · have e0 : (!decide (V.str z = V.str "")) = true := by
          rw [decide_eq_false (fun h => hz0 (by injection h))]
          rfl
        rw [decide_eq_true (show z ≠ "" from hz0), Bool.true_and] at q
        rw [e0]
        refine iteT ?_
        exact ⟨_, rfl, z, rfl, by omega, fun H2 s2 => q H2 s2⟩
def spCLead : Sp := fun vs H Q _ => ∃ sg z : Str, vs = [.str sg, .str z] ∧ Signs sg ∧ Over sg z ∧ z.length ≤ 100 ∧ lawLead z = true ∧ ∀ H', Same H H' → Q .non H'
abbrev nCLead : List Str := ["letters", "pattern"]
theorem scCLead : FnScope nCLead ["letters", "pattern"] (defScope sCLead) := ⟨rfl, rfl, rfl, by decide +kernel, rfl, by decide +kernel, by decide +kernel⟩
theorem ok_clead {f : Addr} {fd : FuncData} (F : Fun K "check_leading" "check_leading" sCLead f fd) (T : Txt K mg) (G : Low K mg fI fH fL fC fP dI dH dL dC dP) (DC : Df K mg "check_pattern" sCPattern ["letters", "value"] fA dA) (DE : Df K mg "is_least_end" sLeast ["pattern"] fE dE) (DI : Df K mg "is_leading" sIsLead ["letters", "value"] f1 d1) :
    FnOk P w K mg base CX0 6 f fd ["letters", "pattern"] spCLead := by
  have GC := ok_ctextP (P := P) (w := w) (base := base) DC.F T G
  have GI := ok_lead (P := P) (w := w) (base := base) DI.F T G DE
  refine F.ok scCLead (fun vs H Q E h => ?_) (fun cdv A outer s H vs Q E hr h => ?_)
  · obtain ⟨sg, z, rfl, _⟩ := h
    rfl
  · obtain ⟨sg, z, rfl, hsg, hz, hl, hle, q⟩ := h
    refine ⟨_, (pss_cons (ps_expr (pe_call GC (hr.mono (by decide)) (by rfl) DC.m DC.F.kp DC.b .nil pass0 (pa_cons (pv 0) (pa_cons (pv 1) pa_nil))))
    (pss_one (ps_if (pt_not (pt_val (pe_call GI (hr.mono (by decide)) (by rfl) DI.m DI.F.kp DI.b .nil pass0 (pa_cons (pv 0) (pa_cons (pv 1) pa_nil))))) (pss_one ps_never) pss_nil))), ?_⟩
    refine ⟨_, rfl, _, rfl, sg, z, rfl, hsg, hz, hl, fun H1 s1 => ?_⟩
    refine ⟨_, rfl, _, rfl, sg, .str z, .str z, rfl, hsg, .str z, over_fine hsg hz (by omega), fun H2 s2 => ⟨_, rfl, ?_⟩⟩
    have e : isLd sg (.str z) = true := by
      show (has sg 400 (.str z) && lawLead z) = true
      rw [over_has hz (by omega), hle]
      rfl
    rw [e]
    exact iteF (q H2 (s1.trans s2))
def spFac : Sp := fun vs H Q _ => ∃ sg z : Str, vs = [.str sg, .str z] ∧ Signs sg ∧ Over sg z ∧ z.length ≤ 100 ∧ ∀ p H', Same H H' → H' p = some (.tup (txs (lfz z))) → Q (.ref p) H'
abbrev nFac : List Str := ["letters", "pattern"]
theorem scFac : FnScope nFac ["letters", "pattern"] (defScope sFac) := ⟨rfl, rfl, rfl, by decide +kernel, rfl, by decide +kernel, by decide +kernel⟩
theorem ok_fac {f : Addr} {fd : FuncData} (F : Fun K "factors" "factors" sFac f fd) (T : Txt K mg) (G : Low K mg fI fH fL fC fP dI dH dL dC dP) (DC : Df K mg "check_pattern" sCPattern ["letters", "value"] fA dA) (DL : Df K mg "leading_factors" sLF ["pattern"] f1 d1) :
    FnOk P w K mg base CX0 6 f fd ["letters", "pattern"] spFac := by
  have GC := ok_ctextP (P := P) (w := w) (base := base) DC.F T G
  have GL := ok_lf (P := P) (w := w) (base := base) DL.F T
  refine F.ok scFac (fun vs H Q E h => ?_) (fun cdv A outer s H vs Q E hr h => ?_)
  · obtain ⟨sg, z, rfl, _⟩ := h
    rfl
  · obtain ⟨sg, z, rfl, hsg, hz, hl, q⟩ := h
    refine ⟨_, (pss_cons (ps_expr (pe_call GC (hr.mono (by decide)) (by rfl) DC.m DC.F.kp DC.b .nil pass0 (pa_cons (pv 0) (pa_cons (pv 1) pa_nil))))
    (pss_one (ps_ret (pe_call GL (hr.mono (by decide)) (by rfl) DL.m DL.F.kp DL.b .nil pass0 (pa_cons (pv 1) pa_nil))))), ?_⟩
    refine ⟨_, rfl, _, rfl, sg, z, rfl, hsg, hz, hl, fun H1 s1 => ?_⟩
    exact ⟨_, rfl, z, rfl, by omega, fun p H2 s2 e2 => q p H2 (s1.trans s2) e2⟩
def spHalv : Sp := fun vs H Q _ => ∃ sg z : Str, vs = [.str sg, .str z] ∧ Signs sg ∧ Over sg z ∧ 2 ≤ z.length ∧ z.length ≤ 100 ∧ lawLead z = true ∧ ∀ p H', Same H H' → H' p = some (.tup (hvs z)) → Q (.ref p) H'
abbrev nHalv : List Str := ["letters", "pattern"]
theorem scHalv : FnScope nHalv ["letters", "pattern"] (defScope sHalv) := ⟨rfl, rfl, rfl, by decide +kernel, rfl, by decide +kernel, by decide +kernel⟩
theorem ok_halv {f : Addr} {fd : FuncData} (F : Fun K "halves" "halves" sHalv f fd) (T : Txt K mg) (DC : Df K mg "check_leading" sCLead ["letters", "pattern"] fA dA) (GC : FnOk P w K mg base CX0 6 fA dA ["letters", "pattern"] spCLead) (DL : Df K mg "cut_in_halves" sCut ["pattern"] f1 d1) (GL : FnOk P w K mg base CX0 2 f1 d1 ["pattern"] spCut) :
    FnOk P w K mg base CX0 7 f fd ["letters", "pattern"] spHalv := by
  refine F.ok scHalv (fun vs H Q E h => ?_) (fun cdv A outer s H vs Q E hr h => ?_)
  · obtain ⟨sg, z, rfl, _⟩ := h
    rfl
  · obtain ⟨sg, z, rfl, hsg, hz, h2, hl, hle, q⟩ := h
    refine ⟨_, (pss_cons (ps_expr (pe_call GC (hr.mono (by decide)) (by rfl) DC.m DC.F.kp DC.b .nil pass0 (pa_cons (pv 0) (pa_cons (pv 1) pa_nil))))
    (pss_cons (ps_if (pt_cmpR op_eq (pe_callB call_len_str (by rfl) T.len PySem.boot_len (pa_cons (pv 1) pa_nil)) pe_int (nomark _)) (pss_one ps_never) pss_nil)
    (pss_one (ps_ret (pe_call GL (hr.mono (by decide)) (by rfl) DL.m DL.F.kp DL.b .nil pass0 (pa_cons (pv 1) pa_nil)))))), ?_⟩
    refine ⟨_, rfl, _, rfl, sg, z, rfl, hsg, hz, hl, hle, fun H1 s1 => ?_⟩
    refine ⟨_, rfl, z, rfl, Nat.le_trans hl (by decide), rfl, _, rfl, ?_⟩
    refine ite2 (fun hc => ?_) (fun hc => ?_)
    · have hc := of_decide_eq_true hc
      injection hc with hc
      omega
    · exact ⟨_, rfl, z, rfl, h2, by omega, fun p H2 s2 e2 => q p H2 (s1.trans s2) e2⟩
def spPO (K : PySem.W.Frag) : Sp := fun vs H Q _ => ∃ (sg : Str) (n : Nat), vs = [.str sg, .int (n : Int)] ∧ Signs sg ∧ 1 ≤ n ∧ n ≤ 5 ∧ ∀ p H', Same H H' → H' p = some (.tup (txs (lineL sg n))) → Q (.ref p) H'
abbrev nPO : List Str := ["letters", "depth"]
theorem scPO : FnScope nPO ["letters", "depth"] (defScope sPO) := ⟨rfl, rfl, rfl, by decide +kernel, rfl, by decide +kernel, by decide +kernel⟩
theorem ok_po {f : Addr} {fd : FuncData} (F : Fun K "patterns_of" "patterns_of" sPO f fd) (T : Txt K mg) (G : Low K mg fI fH fL fC fP dI dH dL dC dP) (DB : Df K mg "check_between" sCBetween ["value", "least", "most"] fB dB) (DA : Df K mg "all_texts" sAll ["letters", "size"] fA dA) :
    FnOk P w K mg base CX0 5 f fd ["letters", "depth"] (spPO K) := by
  have GC := ok_passL (P := P) (w := w) (base := base) G.DC.F T G.DH G.DL
  have GB := ok_between (P := P) (w := w) (base := base) DB.F T G.DI
  have GA := ok_texts (P := P) (w := w) (base := base) DA.F T
  refine F.ok scPO (fun vs H Q E h => ?_) (fun cdv A outer s H vs Q E hr h => ?_)
  · obtain ⟨sg, n, rfl, _⟩ := h
    rfl
  · obtain ⟨sg, n, rfl, hsg, h1, hn, q⟩ := h
    obtain ⟨tn, gD⟩ := T.mDep
    refine ⟨_, (pss_cons (ps_expr (pe_call GC (hr.mono (by decide)) (by rfl) G.DC.m G.DC.F.kp G.DC.b .nil pass0 (pa_cons (pv 0) pa_nil)))
    (pss_cons (ps_expr (pe_call GB (hr.mono (by decide)) (by rfl) DB.m DB.F.kp DB.b .nil pass0 (pa_cons (pv 1) (pa_cons pe_int (pa_cons (pe_glob (v := .int 5) (by rfl) gD ⟨_, rfl⟩) pa_nil)))))
    (pss_one (ps_ret (pe_slice sl_tup (pe_call GA (hr.mono (by decide)) (by rfl) DA.m DA.F.kp DA.b .nil pass0 (pa_cons (pv 0) (pa_cons (pv 1) pa_nil))) (po_some pe_int) po_none))))), ?_⟩
    refine ⟨_, rfl, sg, rfl, hsg, fun H1 s1 => ?_⟩
    refine ⟨_, rfl, n, 1, 5, rfl, by omega, by omega, by omega, ?_⟩
    refine ⟨_, rfl, _, rfl, sg, n, rfl, hsg, hn, fun p H2 np s2 e2 => ?_⟩
    have el : (allT sg n).length = (lineL sg n).length + 1 := by
      show (lays sg n).1.length = _
      rw [lays_line]
      rfl
    refine ⟨1, rfl, p, _, rfl, SqT.of e2, ?_, fun p3 n3 => q p3 _ ((s1.trans s2).trans (same_upd n3)) ?_⟩
    · rintro ⟨h, _⟩
      rw [show (1 : Int) = ((1 : Nat) : Int) from rfl, HT.sIx_nat, List.length_map, el] at h
      omega
    · rw [upd_same]
      unfold cutV
      rw [show (1 : Int) = ((1 : Nat) : Int) from rfl, HT.sIx_nat, HT.sIx_none, List.length_map, el, Nat.min_eq_left (by omega), List.take_of_length_le (by rw [List.length_drop, List.length_map, el]; exact Nat.le_refl _), ← List.map_drop, line_drop]
end
end K4

set_option Elab.async false
set_option linter.all false
set_option maxRecDepth 100000
set_option maxHeartbeats 6400000
namespace K4
open PySem L2 Tx Tg Tm
/-! ### rows of brackets -/
theorem cntA_row (y : Str) (l : Row) : cntA y (rowOf l) = cntA y l := by
  show Bm.A (pl y) (Wm.joint [] l).reverse (Bm.e 0) = _
  rw [Bm.A_joint]
  rfl
theorem undo_un (l : Row) : undo l = Bm.un l := undo_eq l
theorem ru_jointC {sg : Str} {C : Nat} : ∀ (l : Row) (B : Nat) (r : Row), Ru sg B r → Ru sg C l → Ru sg (B + l.length * C) (Wm.joint r l)
  | [], B, r, h, _ => by
    rw [List.length_nil, Nat.zero_mul]
    exact h
  | p :: l, B, r, h, k => by
    obtain ⟨⟨c, hc, ec⟩, hn⟩ := k p List.mem_cons_self
    have hp : Ru sg (B + C) (Wm.push p r) := by
      have : p = (one c, p.2) := by rw [← ec]
      rw [this]
      exact h.push hc hn
    have := ru_jointC l (B + C) _ hp fun q hq => k q (List.mem_cons_of_mem _ hq)
    rw [List.length_cons, Nat.succ_mul, show B + (l.length * C + C) = B + C + l.length * C by omega]
    exact this
theorem ru_rowOf {sg : Str} {C : Nat} {l : Row} (h : Ru sg C l) : Ru sg (l.length * C) (rowOf l) := by
  have := ru_jointC l 0 [] (fun p hp => by cases hp) h
  rw [Nat.zero_add] at this
  exact this.rev
theorem Ru.wide {sg : Str} {B C : Nat} {l : Row} (h : Ru sg B l) (hc : B ≤ C) : Ru sg C l := fun p hp => ⟨(h p hp).1, Nat.le_trans (h p hp).2 hc⟩
theorem Ru.app {sg : Str} {B : Nat} {l k : Row} (h : Ru sg B l) (hk : Ru sg B k) : Ru sg B (l ++ k) := fun p hp => (List.mem_append.mp hp).elim (h p) (hk p)
theorem Ru.undo {sg : Str} {B : Nat} {l : Row} (h : Ru sg B l) : Ru sg B (undo l) := fun p hp => by
  rw [undo_eq] at hp
  obtain ⟨q, hq, rfl⟩ := List.mem_map.mp hp
  obtain ⟨a, b⟩ := h q (List.mem_reverse.mp hq)
  exact ⟨a, by show (-q.2).natAbs ≤ B; rw [Int.natAbs_neg]; exact b⟩
/-- the bracket's row -/
def brN : Nat → List Nat → Row
  | 0, _ => []
  | n + 1, l => if l.length ≤ 1 then [(tx l, 1)] else brackL (brN n (Ly.hv l).1) (brN n (Ly.hv l).2)
def brk (l : List Nat) : Row := brN l.length l
theorem brN_fuel : ∀ (n m : Nat) (l : List Nat), 1 ≤ l.length → l.length ≤ n → l.length ≤ m → brN n l = brN m l
  | 0, _, l, h, h1, _ => absurd h1 (by omega)
  | _ + 1, 0, l, h, _, h2 => absurd h2 (by omega)
  | n + 1, m + 1, l, h, h1, h2 => by
    unfold brN
    by_cases q : l.length ≤ 1
    · rw [if_pos q, if_pos q]
    · have H := Ly.hv_all (l := l) (by omega)
      have := H.n
      have := H.a0
      have := H.b0
      rw [if_neg q, if_neg q, brN_fuel n m _ (by omega) (by omega) (by omega), brN_fuel n m _ (by omega) (by omega) (by omega)]
theorem brk_one {l : List Nat} (h : l.length = 1) : brk l = [(tx l, 1)] := by
  unfold brk
  rw [h]
  show (if l.length ≤ 1 then _ else _) = _
  rw [if_pos (by omega)]
theorem brk_cut {l : List Nat} (h : 2 ≤ l.length) : brk l = brackL (brk (Ly.hv l).1) (brk (Ly.hv l).2) := by
  have H := Ly.hv_all h
  have := H.n
  have := H.a0
  have := H.b0
  obtain ⟨n, hn⟩ : ∃ n, l.length = n + 1 := ⟨l.length - 1, by omega⟩
  unfold brk
  rw [hn]
  show (if l.length ≤ 1 then _ else _) = _
  rw [if_neg (by omega), brN_fuel n _ (Ly.hv l).1 (by omega) (by omega) (Nat.le_refl _), brN_fuel n _ (Ly.hv l).2 (by omega) (by omega) (Nat.le_refl _)]
/-- texts whose brackets are told -/
structure Rz (sg : Str) (l : List Nat) : Prop where
  ne : l ≠ []
  short : l.length ≤ 5
  ok : Ly.okz 6 l = true
  ov : ∀ c ∈ l, c ∈ cds sg
theorem Rz.pos {sg : Str} {l : List Nat} (h : Rz sg l) : 1 ≤ l.length := List.length_pos_iff.mpr h.ne
theorem Rz.half {sg : Str} {l : List Nat} (h : Rz sg l) (h2 : 2 ≤ l.length) : Rz sg (Ly.hv l).1 ∧ Rz sg (Ly.hv l).2 := by
  have H := Ly.hv_all h2
  obtain ⟨o1, o2, _⟩ := Ly.okz_hv h.ok h2
  have := H.n
  have hs := h.short
  refine ⟨⟨H.a, by omega, o1, fun c hc => h.ov c ?_⟩, ⟨H.b, by omega, o2, fun c hc => h.ov c ?_⟩⟩
  · rw [← H.j]
    exact List.mem_append_left _ hc
  · rw [← H.j]
    exact List.mem_append_right _ hc
theorem rz_ind {sg : Str} {P : List Nat → Prop} (h1 : ∀ l, Rz sg l → l.length = 1 → P l) (h2 : ∀ l, Rz sg l → 2 ≤ l.length → P (Ly.hv l).1 → P (Ly.hv l).2 → P l) : ∀ l, Rz sg l → P l := by
  have go : ∀ n (l : List Nat), l.length ≤ n → Rz sg l → P l := by
    intro n
    induction n with
    | zero => exact fun l hl h => absurd h.pos (by omega)
    | succ n ih =>
      intro l hl h
      by_cases q : l.length ≤ 1
      · exact h1 l h (by have := h.pos; omega)
      · have H := Ly.hv_all (l := l) (by omega)
        have := H.n
        have := H.a0
        have := H.b0
        obtain ⟨r1, r2⟩ := h.half (by omega)
        exact h2 l h (by omega) (ih _ (by omega) r1) (ih _ (by omega) r2)
  exact fun l h => go l.length l (Nat.le_refl _) h
def gLen : Nat → Nat
  | 1 => 1
  | 2 => 4
  | 3 => 10
  | 4 => 22
  | _ => 46
def gBig : Nat → Nat
  | 1 => 1
  | 2 => 4
  | 3 => 40
  | 4 => 880
  | _ => 40480
theorem brackL_len (l k : Row) : (brackL l k).length ≤ 2 * (l.length + k.length) := by
  have := rowOf_len (l ++ k ++ undo l ++ undo k)
  rw [List.length_append, List.length_append, List.length_append, undo_len, undo_len] at this
  show (rowOf _).length ≤ _
  omega
theorem g_ok : ∀ a ∈ List.range 6, ∀ b ∈ List.range 6, 0 < a → 0 < b → a + b ≤ 5 → 2 * (gLen a + gLen b) ≤ gLen (a + b) ∧ gLen (a + b) * max (gBig a) (gBig b) ≤ gBig (a + b) := by decide +kernel
theorem g_top : ∀ n ∈ List.range 6, gLen n ≤ 46 ∧ gBig n ≤ 40480 := by decide +kernel
theorem brk_len {sg : Str} : ∀ l, Rz sg l → (brk l).length ≤ gLen l.length := rz_ind (fun l _ h => by
  rw [brk_one h, h]
  exact Nat.le_refl _) fun l h h2 a b => by
  have H := Ly.hv_all h2
  have hn := H.n
  have h0 := H.a0
  have h3 := H.b0
  have hs := h.short
  have := (g_ok (Ly.hv l).1.length (List.mem_range.mpr (by omega)) (Ly.hv l).2.length (List.mem_range.mpr (by omega)) h0 h3 (by omega)).1
  rw [hn] at this
  rw [brk_cut h2]
  have := brackL_len (brk (Ly.hv l).1) (brk (Ly.hv l).2)
  omega
theorem brk_46 {sg : Str} {l : List Nat} (h : Rz sg l) : (brk l).length ≤ 46 := by
  have h1 := brk_len l h
  have h2 := (g_top l.length (List.mem_range.mpr (by have := h.short; omega))).1
  omega
theorem brk_ruN {sg : Str} : ∀ l, Rz sg l → Ru sg (gBig l.length) (brk l) := rz_ind (fun l r h => by
  rw [brk_one h, h]
  intro p hp
  rw [List.mem_singleton.mp hp]
  obtain ⟨c, rfl⟩ := List.length_eq_one_iff.mp h
  exact ⟨⟨c, r.ov c (List.mem_singleton.mpr rfl), rfl⟩, Nat.le_refl _⟩) fun l h h2 a b => by
  have H := Ly.hv_all h2
  have hn := H.n
  have h0 := H.a0
  have h3 := H.b0
  have hs := h.short
  obtain ⟨g1, g2⟩ := g_ok (Ly.hv l).1.length (List.mem_range.mpr (by omega)) (Ly.hv l).2.length (List.mem_range.mpr (by omega)) h0 h3 (by omega)
  obtain ⟨r1, r2⟩ := h.half h2
  have l1 := brk_len _ r1
  have l2 := brk_len _ r2
  rw [hn] at g1 g2
  rw [brk_cut h2]
  have a' := a.wide (Nat.le_max_left (gBig (Ly.hv l).1.length) (gBig (Ly.hv l).2.length))
  have b' := b.wide (Nat.le_max_right (gBig (Ly.hv l).1.length) (gBig (Ly.hv l).2.length))
  have r := ru_rowOf (((a'.app b').app a'.undo).app b'.undo)
  refine r.wide (Nat.le_trans (Nat.mul_le_mul_right _ ?_) g2)
  rw [List.length_append, List.length_append, List.length_append, undo_len, undo_len]
  omega
theorem brk_ru {sg : Str} {l : List Nat} (h : Rz sg l) : Ru sg 40480 (brk l) := (brk_ruN l h).wide (g_top l.length (List.mem_range.mpr (by have := h.short; omega))).2
theorem brk_rl {sg : Str} {l : List Nat} (h : Rz sg l) : Rl (brk l) := ⟨fun p hp => ⟨((brk_ru h) p hp).1.imp fun c e => e.2, Nat.le_trans ((brk_ru h) p hp).2 (by decide)⟩, Nat.le_trans (brk_46 h) (by decide)⟩
theorem brk_pl {sg : Str} (hsg : Signs sg) {l : List Nat} (h : Rz sg l) : Pl (brk l) := (brk_ru h).pl fun c hc => by
  have := sg_range hsg c hc
  omega
theorem row_row (l : Row) : rowOf (rowOf l) = rowOf l := by
  unfold rowOf
  rw [Wm.joint_self (Wm.red_joint (r := ([] : Row)) trivial)]
theorem brk_self {sg : Str} {l : List Nat} (h : Rz sg l) : rowOf (brk l) = brk l := by
  by_cases q : l.length ≤ 1
  · rw [brk_one (by have := h.pos; omega)]
    rfl
  · rw [brk_cut (by omega)]
    exact row_row _
theorem brack_br (l k : Row) : ∀ p : List Str, Bk.ct (brackL l k) p = Bk.ct (Bk.br l k) p := fun p => by
  have e : l ++ k ++ undo l ++ undo k = Bk.br l k := by
    rw [undo_un, undo_un]
    rfl
  show Bk.ct (rowOf (l ++ k ++ undo l ++ undo k)) p = _
  rw [e]
  exact Bk.ct_joint _ p
/-- what is counted in it -/
theorem brk_br {sg : Str} : ∀ l, Rz sg l → Bk.Br one l (brk l) := rz_ind (fun l _ h => by
  rw [brk_one h]
  obtain ⟨c, rfl⟩ := List.length_eq_one_iff.mp h
  exact Bk.br_one (fun a b e => one_inj e) c) fun l h h2 a b => by
  have H := Ly.hv_all h2
  have e := Bk.br_join H.a H.b (Ly.hv_swap (Ly.okz_lead h.ok) h2) a b
  rw [H.j] at e
  rw [brk_cut h2]
  exact ⟨fun p h0 h1 => (brack_br _ _ p).trans (e.no p h0 h1), fun p h0 h1 => (brack_br _ _ _).trans (e.le p h0 h1)⟩
theorem cnt_ct (y : Str) (l : Row) : cntA y l y.length = Bk.ct l (pl y) := by
  show Bm.A (pl y) l (Bm.e 0) y.length = Bm.A (pl y) l (Bm.e 0) (pl y).length
  rw [pl_len]
end K4

set_option Elab.async false
set_option linter.all false
set_option maxRecDepth 100000
set_option maxHeartbeats 6400000
namespace K4
open PySem L2 Tx Tg Tm
/-! ### bracket_of -/
/-- rows stay where only a dict is written -/
theorem TupRow.putD {K : PySem.W.Frag} {H : Hp} {D a : Addr} {l : Row} {kvs : List (Key × V)} {o : HO} (hD : H D = some (.dK kvs)) (h : TupRow K H a l) : TupRow K (upd H D o) a l := by
  have nc : ∀ {q : Addr} {u : HO}, H q = some u → (∀ y, u ≠ .dK y) → q ≠ D := fun e n z => by
    rw [z, hD] at e
    exact n _ (Option.some.inj e).symm
  obtain ⟨ys, ha, hp⟩ := h
  refine ⟨ys, ?_, hp.mono fun y p ⟨t, e1, e2⟩ => ⟨t, e1, by rw [upd_ne (nc e2 fun _ z => by cases z)]; exact e2⟩⟩
  rcases ha with h | h
  · rcases h with h | ⟨o', h⟩
    · exact .inl (.inl (by rw [upd_ne (nc h fun _ z => by cases z)]; exact h))
    · exact .inl (.inr ⟨o', by rw [upd_ne (nc h fun _ z => by cases z)]; exact h⟩)
  · exact .inr h
/-- the rows of the first parts -/
def RowsAt (K : PySem.W.Frag) (H : Hp) (kvs : List (Key × V)) (L : List Str) : Prop := kvs.map (·.1) = L.map Sum.inr ∧ ∀ x ∈ L, ∃ p, valV kvs (Sum.inr x : Key) = some (.ref p) ∧ TupRow K H p (brk (cds x))
theorem rows_put {K : PySem.W.Frag} {H : Hp} {D p : Addr} {kvs : List (Key × V)} {L : List Str} {i : Nat} {x : Str} (hi : L[i]? = some x) (nd : L.Nodup) (hD : H D = some (.dK kvs)) (R : RowsAt K H kvs (L.take i)) (hp : TupRow K H p (brk (cds x))) :
    RowsAt K (upd H D (.dK (putK kvs (Sum.inr x : Key) (.ref p)))) (putK kvs (Sum.inr x : Key) (.ref p)) (L.take (i + 1)) := by
  have nx : x ∉ L.take i := fun h => by
    obtain ⟨j, hj⟩ := List.getElem?_of_mem h
    rw [List.getElem?_take] at hj
    split at hj
    · rename_i hlt
      have := (List.getElem?_inj (List.getElem?_eq_some_iff.mp hi).1 nd).mp (hi.trans hj.symm)
      omega
    · cases hj
  obtain ⟨R1, R2⟩ := R
  rw [List.take_add_one, hi]
  refine ⟨?_, fun y hy => ?_⟩
  · rw [Lc.putK_app (by
      rw [R1]
      exact fun q => by
        obtain ⟨w, hw, e⟩ := List.mem_map.mp q
        exact nx (Sum.inr.inj e ▸ hw)), List.map_append, List.map_append, R1]
    rfl
  · rw [valV_put]
    rcases List.mem_append.mp hy with hy | hy
    · obtain ⟨p', e1, e2⟩ := R2 y hy
      refine ⟨p', ?_, e2.putD hD⟩
      rw [if_neg fun e => nx (by
        have e := Sum.inr.inj e
        rw [← e]
        exact hy)]
      exact e1
    · obtain rfl : y = x := by simpa using hy
      exact ⟨p, if_pos rfl, hp.putD hD⟩
theorem Pts.before {R : List Nat → Prop} {z x y : Str} {L : List Str} {i : Nat} (h : Pts R z L) (hi : L[i]? = some x) (hy : y ∈ L) (hl : y.length < x.length) : y ∈ L.take i := by
  obtain ⟨j, hj⟩ := List.getElem?_of_mem hy
  obtain ⟨j1, j2⟩ := List.getElem?_eq_some_iff.mp hj
  obtain ⟨i1, i2⟩ := List.getElem?_eq_some_iff.mp hi
  rcases Nat.lt_or_ge j i with lt | ge
  · exact List.mem_of_getElem? (i := j) (by rw [List.getElem?_take, if_pos lt]; exact hj)
  · rcases Nat.eq_or_lt_of_le ge with e | lt
    · subst e
      rw [hi] at hj
      cases hj
      omega
    · have := List.pairwise_iff_getElem.mp h.up i j i1 j1 lt
      rw [i2, j2] at this
      omega
section
variable {P : Program} {w : World} {K : PySem.W.Frag} {mg : Str → Option Value} {base : Heap} {CM CW fMI fWI fC fP fH fB : Addr} {dMI dWI dC dP dH dB : FuncData}
abbrev nBO : List Str := ["letters", "pattern", "runs", "part", "one", "other"]
theorem scBO : FnScope nBO ["letters", "pattern"] (defScope sBO) := ⟨rfl, rfl, rfl, by decide +kernel, rfl, by decide +kernel, by decide +kernel⟩
def spBO (K : PySem.W.Frag) (CW : Addr) : Sp := fun vs H Q _ => ∃ sg z : Str, vs = [.str sg, .str z] ∧ Signs sg ∧ Rz sg (cds z) ∧ ∀ x H', Same H H' → WordAt K CW H' x sg (brk (cds z)) → Q (.ref x) H'
theorem ok_bo {f : Addr} {fd : FuncData} (F : Fun K "bracket_of" "bracket_of" sBO f fd) (T : Txt K mg) (G : Makes4 P w K mg base CM CW fMI fWI dMI dWI) (DC : Df K mg "check_leading" sCLead ["letters", "pattern"] fC dC) (GC : FnOk P w K mg base CX0 6 fC dC ["letters", "pattern"] spCLead)
    (DH : Df K mg "cut_in_halves" sCut ["pattern"] fH dH) (GH : FnOk P w K mg base CX0 2 fH dH ["pattern"] spCut) (DP : Df K mg "bracket_parts" sParts ["pattern"] fP dP) (DB : Df K mg "bracket_runs" sBRuns ["one", "other"] fB dB) (GB : FnOk P w K mg base CX0 2 fB dB ["one", "other"] (spRow2 K 100000 brackL)) :
    FnOk P w K mg base CX0 7 f fd ["letters", "pattern"] (spBO K CW) := by
  have GP := ok_parts (P := P) (w := w) (base := base) DP.F T DH GH
  refine F.ok scBO (fun vs H Q E h => ?_) (fun cdv A outer s H vs Q E hr h => ?_)
  · obtain ⟨sg, z, rfl, _⟩ := h
    rfl
  · obtain ⟨sg, z, rfl, hsg, hz, q⟩ := h
    have hu := hu_of hr
    obtain ⟨tf, gF⟩ := T.mFar
    have hz5 : z.length ≤ 5 := by
      have := hz.short
      rwa [cds_len] at this
    have hov : Over sg z := fun c hc => hz.ov c hc
    refine ⟨_, (pss_cons (ps_expr (pe_call GC (hr.mono (by decide)) (by rfl) DC.m DC.F.kp DC.b .nil pass0 (pa_cons (pv 0) (pa_cons (pv 1) pa_nil))))
    (pss_cons (ps_set (i := 2) scBO.nd rfl (Or.inl rfl) pe_dnewK)
    (pss_cons (ps_for PassesOwn.never rfl (pi_list (pe_call GP (hr.mono (by decide)) (by rfl) DP.m DP.F.kp DP.b .nil pass0 (pa_cons (pv 1) pa_nil))) (pg_name (i := 3) scBO.nd rfl (Or.inl rfl))
      (pss_cons (ps_if (pt_cmpR op_eq (pe_callB call_len_str (by rfl) T.len PySem.boot_len (pa_cons (pv 3) pa_nil)) pe_int (nomark _)) (pss_one (ps_dput hu (pv 2) (pv 3) (pe_tup (pa_cons (pe_tup (pa_cons (pv 3) (pa_cons pe_int pa_nil))) pa_nil)) rfl)) (pss_cons (ps_asg (pe_call GH (hr.mono (by decide)) (by rfl) DH.m DH.F.kp DH.b .nil pass0 (pa_cons (pv 3) pa_nil)) (pg_tup rfl (pgs_cons (pg_name (i := 4) scBO.nd rfl (Or.inl rfl)) (pgs_cons (pg_name (i := 5) scBO.nd rfl (Or.inl rfl)) pgs_nil))))
        (pss_one (ps_dput hu (pv 2) (pv 3) (pe_call GB (hr.mono (by decide)) (by rfl) DB.m DB.F.kp DB.b .nil pass0 (pa_cons (pe_dget hu (pv 2) (pv 4) (fun _ _ => rfl)) (pa_cons (pe_dget hu (pv 2) (pv 5) (fun _ _ => rfl)) pa_nil))) rfl))))
      (pss_one (ps_if (pt_cmpR op_gt (pe_callB call_len_seq (by rfl) T.len PySem.boot_len (pa_cons (pe_dget hu (pv 2) (pv 3) (fun _ _ => rfl)) pa_nil)) (pe_glob (v := .int 2000) (by rfl) gF ⟨_, rfl⟩) (nomark _)) (pss_one ps_never) pss_nil))))
    (pss_one (ps_ret (pe_make G.mW G.gWI (hr.mono (by decide)) (by rfl) G.W.gW G.bWI .nil pass0 (pa_cons (pv 0) (pa_cons (pe_dget hu (pv 2) (pv 1) (fun _ _ => rfl)) pa_nil)))))))), ?_⟩
    refine ⟨_, rfl, _, rfl, sg, z, rfl, hsg, hov, by omega, by rw [leads_is]; exact Ly.okz_lead hz.ok, fun H1 s1 => ?_⟩
    dsimp only [tSeq, gName]
    refine fun D nD => ?_
    have nD0 : H D = none := by
      cases hh : H D with
      | none => rfl
      | some o =>
        rw [s1 _ _ hh] at nD
        cases nD
    have s2 := s1.trans (same_upd (o := .dK []) nD)
    have e2 : (upd H1 D (.dK [])) D = some (.dK []) := upd_same
    generalize upd H1 D (.dK []) = H2 at s2 e2 ⊢
    dsimp only [tSeq, gName]
    refine ⟨_, rfl, z, Rz sg, rfl, by omega, hz, fun l h => ⟨h.ne, by have := h.short; omega⟩, fun l h h2 => h.half h2, fun pL H3 L s3 eL PT => ?_⟩
    refine ⟨pL, rfl, ⟨_, SqL.of eL⟩, ?_⟩
    have s13 : Same H H3 := s2.trans s3
    have e3 := s3 _ _ e2
    refine for_list (xs := txs L) (fun i σ H4 => ∃ (kvs : List (Key × V)) (u3 u4 u5 : Option V), σ = [some (.str sg), some (.str z), some (.ref D), u3, u4, u5] ∧ Same H H4 ∧ H4 D = some (.dK kvs) ∧ H4 pL = some (.lst (txs L)) ∧ RowsAt K H4 kvs (L.take i))
      ⟨[], none, none, none, rfl, s13, e3, eL, rfl, fun x hx => by rw [List.take_zero] at hx; cases hx⟩ (fun i σ H4 _ q => by obtain ⟨_, _, _, _, _, _, _, q, _⟩ := q; exact SqL.of q) ?_ ?_
    · rintro i v σ H4 hv ⟨kvs, u3, u4, u5, rfl, s4, e4, eL4, R4⟩
      rw [List.getElem?_map] at hv
      obtain ⟨x, hx, rfl⟩ := Option.map_eq_some_iff.mp hv
      have hxm : x ∈ L := List.mem_of_getElem? hx
      have hRx := PT.all x hxm
      have hx5 : x.length ≤ 5 := by
        have := hRx.short
        rwa [cds_len] at this
      have kl : kvs.length ≤ 10 := by
        have e := congrArg List.length R4.1
        rw [List.length_map, List.length_map, List.length_take] at e
        have := PT.few
        omega
      have klt : kvs.length < sizeLine := Nat.lt_of_le_of_lt kl (by decide)
      have nDp : pL ≠ D := fun e => by
        rw [e, e4] at eL4
        cases eL4
      dsimp only [gName]
      refine two (fun σ H6 => ∃ (kvs : List (Key × V)) (u4 u5 : Option V), σ = [some (.str sg), some (.str z), some (.ref D), some (.str x), u4, u5] ∧ Same H H6 ∧ H6 D = some (.dK kvs) ∧ H6 pL = some (.lst (txs L)) ∧ RowsAt K H6 kvs (L.take (i + 1))) ?_ fun fin => ?_
      · rintro σ H6 ⟨kv6, u4, u5, rfl, s6, e6, eL6, R6⟩
        obtain ⟨p, ep, hp⟩ := R6.2 x (by
          rw [List.take_add_one, hx]
          exact List.mem_append_right _ (List.mem_singleton.mpr rfl))
        obtain ⟨ys, hys, hyp⟩ := id hp
        have hyl : ys.length ≤ 46 := by
          rw [hyp.length]
          exact brk_46 hRx
        refine ⟨_, rfl, _, rfl, D, .ref p, rfl, ?_, p, ys, rfl, .inr hys, _, _, rfl, rfl, _, rfl, ?_⟩
        · rw [← ep]
          exact DGet.k (k := (Sum.inr x : Key)) e6
        · have : decide ((2000 : Int) < (ys.length : Int)) = false := decide_eq_false (by omega)
          rw [this]
          exact iteF ⟨kv6, _, _, _, rfl, s6, e6, eL6, R6⟩
      · have hxs : x.length ≤ sizeLine := Nat.le_trans hx5 (by decide)
        refine ⟨_, rfl, x, rfl, hxs, rfl, _, rfl, ?_⟩
        refine ite2 (fun hc => ?_) (fun hc => ?_)
        · have hc := of_decide_eq_true hc
          have hx1 : x.length = 1 := by
            injection hc with hc
            omega
          refine ⟨_, rfl, by show 2 ≤ sizeLine; decide, fun t1 n1 => ?_⟩
          have s5 := same_upd (o := .tup [V.str x, V.int 1]) n1
          have e5 : (upd H4 t1 (.tup [V.str x, V.int 1])) t1 = some (.tup [V.str x, V.int 1]) := upd_same
          generalize upd H4 t1 (.tup [V.str x, V.int 1]) = H5 at s5 e5 ⊢
          refine ⟨by show 1 ≤ sizeLine; decide, fun t2 n2 => ?_⟩
          have s6 := s5.trans (same_upd (o := .tup [V.ref t1]) n2)
          have e6 : (upd H5 t2 (.tup [V.ref t1])) t2 = some (.tup [V.ref t1]) := upd_same
          have e5' := same_upd (o := .tup [V.ref t1]) n2 _ _ e5
          generalize upd H5 t2 (.tup [V.ref t1]) = H6 at s6 e6 e5' ⊢
          have R6 : RowsAt K H6 kvs (L.take i) := ⟨R4.1, fun y hy => by
            obtain ⟨p, a, b⟩ := R4.2 y hy
            exact ⟨p, a, b.same s6⟩⟩
          have hp : TupRow K H6 t2 (brk (cds x)) := by
            rw [brk_one (by rw [cds_len]; exact hx1), tx_cds]
            exact ⟨_, SqT.of e6, .cons ⟨t1, rfl, e5'⟩ .nil⟩
          have eD6 := s6 _ _ e4
          refine ⟨_, rfl, _, rfl, D, _, rfl, DPut.k (k := (Sum.inr x : Key)) eD6 klt, ?_⟩
          refine fin _ _ ⟨_, _, _, rfl, same_put (s4.trans s6) nD0, upd_same, ?_, rows_put hx PT.nd eD6 R6 hp⟩
          rw [upd_ne nDp]
          exact s6 _ _ eL4
        · have hc : ¬ V.int (x.length : Int) = V.int 1 := fun q => hc (decide_eq_true q)
          have hx2 : 2 ≤ x.length := by
            have := hRx.pos
            rw [cds_len] at this
            rcases Nat.lt_or_ge 1 x.length with lt | ge
            · exact lt
            · exact absurd (by rw [show x.length = 1 by omega]; rfl) hc
          have hx2' : 2 ≤ (cds x).length := by rw [cds_len]; exact hx2
          have HV := Ly.hv_all hx2'
          have hn := HV.n
          have ha0 := HV.a0
          have hb0 := HV.b0
          rw [cds_len] at hn
          obtain ⟨m1, m2⟩ := PT.half x hxm hx2
          obtain ⟨r1, r2⟩ := hRx.half hx2'
          refine ⟨_, rfl, x, rfl, hx2, by omega, fun p5 H5 s5 e5 => ?_⟩
          refine ⟨p5, _, rfl, SqT.of e5, rfl, _, _, rfl, _, _, rfl, rfl, ?_⟩
          have R5 : RowsAt K H5 kvs (L.take i) := ⟨R4.1, fun y hy => by
            obtain ⟨p, a, b⟩ := R4.2 y hy
            exact ⟨p, a, b.same s5⟩⟩
          have e5D := s5 _ _ e4
          obtain ⟨p1, v1, h1⟩ := R5.2 _ (PT.before hx m1 (by rw [tx_len]; omega))
          obtain ⟨p2, v2, h2⟩ := R5.2 _ (PT.before hx m2 (by rw [tx_len]; omega))
          rw [cds_tx] at h1 h2
          refine ⟨_, rfl, _, rfl, D, .ref p1, rfl, ?_, _, rfl, _, rfl, D, .ref p2, rfl, ?_, p1, p2, _, _, rfl, h1, h2, ?_, ?_, brk_pl hsg r1, brk_pl hsg r2, fun p6 H6 s6 hp6 => ?_⟩
          · rw [← v1]
            exact DGet.k (k := (Sum.inr (tx (Ly.hv (cds x)).1) : Key)) e5D
          · rw [← v2]
            exact DGet.k (k := (Sum.inr (tx (Ly.hv (cds x)).2) : Key)) e5D
          · have := brk_46 r1
            omega
          · have := brk_46 r2
            omega
          · have R6 : RowsAt K H6 kvs (L.take i) := ⟨R5.1, fun y hy => by
              obtain ⟨p, a, b⟩ := R5.2 y hy
              exact ⟨p, a, b.same s6⟩⟩
            have eD6 := s6 _ _ e5D
            rw [← brk_cut hx2'] at hp6
            refine ⟨_, rfl, _, rfl, D, _, rfl, DPut.k (k := (Sum.inr x : Key)) eD6 klt, ?_⟩
            refine fin _ _ ⟨_, _, _, rfl, same_put ((s4.trans s5).trans s6) nD0, upd_same, ?_, rows_put hx PT.nd eD6 R6 hp6⟩
            rw [upd_ne nDp]
            exact s6 _ _ (s5 _ _ eL4)
    · rintro σ H4 ⟨kvs, u3, u4, u5, rfl, s4, e4, eL4, R4⟩
      have ez : L.take (txs L).length = L := List.take_of_length_le (by rw [List.length_map]; exact Nat.le_refl _)
      rw [ez] at R4
      obtain ⟨p, ep, hp⟩ := R4.2 z PT.me
      refine ⟨_, rfl, _, rfl, _, rfl, D, .ref p, rfl, ?_, ?_⟩
      · rw [← ep]
        exact DGet.k (k := (Sum.inr z : Key)) e4
      · refine row_word G hsg hp (brk_ru hz) (by decide +kernel) (by have := brk_46 hz; omega) fun x H' s' h => ?_
        rw [brk_self hz] at h
        exact q x H' (s4.trans s') h
end
end K4

set_option Elab.async false
set_option linter.all false
set_option maxRecDepth 100000
set_option maxHeartbeats 2000000
/-! Several except clauses, some with a name -/
namespace L2
open PySem PySem.Spec PyProof.Rows
/-- a clause: its class, the slot of its name (or none), its suite -/
abbrev Cls1 := Value × Option Nat × (Addr → Value → Option Addr → TS)
/-- the ends of a suite with a name in slot i -/
def endsN (D : Ends) (i : Nat) : Ends := { nx := fun σ' H' => D.nx (σ'.set i none) H', rt := D.rt, bk := fun σ' H' => D.bk (σ'.set i none) H', ct := fun σ' H' => D.ct (σ'.set i none) H' }
def suiteN (c : Cls1) (a : Addr) (cls : Value) (d : Option Addr) (D : Ends) (σ : L2.St) (H : Hp) : Prop :=
  match c.2.1 with
  | none => c.2.2 a cls d D σ H
  | some i => c.2.2 a cls d (endsN D i) (σ.set i (some (.ref a))) H
/-- what the clauses wish of an exception of the body, one after the other -/
def wManyN (K : PySem.W.Frag) (Wout : WX) (D : Ends) : List Cls1 → WX
  | [] => Wout
  | c :: r => fun cls d σ H => ∃ b, PySem.W.exmOne K cls c.1 = some b ∧ (b = true → ∀ a, H a = none → suiteN c a cls d D σ H) ∧ (b = false → wManyN K Wout D r cls d σ H)
inductive HdsN (X : Cx) : List ExceptHandler → List Cls1 → Prop
  | nil : HdsN X [] []
  | cons {x : Str} {c : Value} {ts : Addr → Value → Option Addr → TS} {b₀ : Stmt} {suite : List Stmt} {np pos' : Pos} {hds : List ExceptHandler} {l : List Cls1} (hc : Names X x c)
      (hsu : ∀ (a : Addr) (oe : Obj) (cls : Value) (d : Option Addr) (pn : List (Addr × Obj)), Zc cls d oe → (∃ vs, oe.data = .fields vs) → PSs (X.suite a ((a, oe) :: pn)) (b₀ :: suite) (ts a cls d)) (r : HdsN X hds l) :
      HdsN X (.ExceptHandler (some (.Name x np)) none (b₀ :: suite) pos' :: hds) ((c, none, ts) :: l)
  | consN {x n : Str} {c : Value} {i : Nat} {ts : Addr → Value → Option Addr → TS} {b₀ : Stmt} {suite : List Stmt} {np pos' : Pos} {hds : List ExceptHandler} {l : List Cls1} (hc : Names X x c) (hN : X.N.Nodup) (hi : X.N[i]? = some n) (hln : X.env.kindOf n = some .local)
      (hsu : ∀ (a : Addr) (oe : Obj) (cls : Value) (d : Option Addr) (pn : List (Addr × Obj)), Zc cls d oe → (∃ vs, oe.data = .fields vs) → PSs (X.suite a ((a, oe) :: pn)) (b₀ :: suite) (ts a cls d)) (r : HdsN X hds l) :
      HdsN X (.ExceptHandler (some (.Name x np)) (some n) (b₀ :: suite) pos' :: hds) ((c, some i, ts) :: l)
/-! what a frame holds that has caught something -/
section
variable {X : Cx} {pins : List (Addr × Obj)} {σ : L2.St} {H : Hp} {ground : Heap} {x : Addr} {cls : Value} {d : Option Addr} {from_ z : Shared}
/-- the state goes on as one of X, and as one of an except suite that holds the exception at x -/
theorem held_here (top : X.stack = X.env :: X.outer) (fr : X.env.frame = some X.env.locals) (I : Inv X pins σ H from_) (below : ∀ b o, from_.heap.get? b = some o → b ∉ frs X.stack → ground.get? b = some o)
    (fly : HandSPX.FlyingZ ground (X.env :: X.outer) x (Zc cls d) z.heap) (grew : from_.heap.UpToSlots z.heap) (sameOs : z.os = from_.os) (noGen : AllBare z.gens) (hid : H x = none) :
    ∃ o, Zc cls d o ∧ (∃ vs, o.data = .fields vs) ∧ z.heap.get? x = some o ∧ Inv X pins σ H z ∧ Inv (X.suite x ((x, o) :: (X.pn ++ pins))) [] σ H z := by
  have J : Inv X pins σ H z := I.landed below fly.1 grew sameOs noGen
  obtain ⟨o, vs, at_x, kind, flds⟩ := fly.there
  have apart : x ∉ frs (X.env :: X.outer) := by
    intro mem
    obtain ⟨_, o2, at2, nof⟩ := fly.2.2.1.mem mem
    cases at_x.symm.trans at2
    exact nof _ flds
  have notTop : x ≠ X.env.locals := by
    intro eq
    exact apart (List.mem_filterMap.mpr ⟨X.env, List.mem_cons_self, by rw [fr, eq]⟩)
  have notOuter : x ∉ X.fs := by
    intro mem
    obtain ⟨en, inn, eq⟩ := List.mem_filterMap.mp mem
    exact apart (List.mem_filterMap.mpr ⟨en, List.mem_cons_of_mem _ inn, eq⟩)
  exact ⟨o, kind, ⟨vs, flds⟩, at_x, J, J.suite at_x flds hid notTop notOuter⟩
/-- a suite's end is the try's -/
theorem suite_over {q : Addr × Obj} {D : Ends} {f : Flow} (ok : X.Ok) (h : SP (X.suite x (q :: (X.pn ++ pins))) [] D f z) : SP X pins D f z := by
  cases f with
  | ret u => exact let ⟨v, σ2, H2, K2, r2, g2⟩ := h; ⟨v, σ2, H2, K2.unsuite ok, r2, g2⟩
  | next => exact let ⟨σ2, H2, K2, g2⟩ := h; ⟨σ2, H2, K2.unsuite ok, g2⟩
  | brk => exact let ⟨σ2, H2, K2, g2⟩ := h; ⟨σ2, H2, K2.unsuite ok, g2⟩
  | cont => exact let ⟨σ2, H2, K2, g2⟩ := h; ⟨σ2, H2, K2.unsuite ok, g2⟩
/-- .. with a name, that goes -/
theorem suite_overN {q : Addr × Obj} {D : Ends} {f : Flow} {i : Nat} {n : Str} {p : Pos} (ok : X.Ok) (nd : X.N.Nodup) (at_i : X.N[i]? = some n) (isLocal : X.env.kindOf n = some .local) (h : SP (X.suite x (q :: (X.pn ++ pins))) [] (endsN D i) f z) :
    wpAny (model X.prog X.w) X.A (do bindName X.env n .none; unbindBehindTheSuite X.env n p) (fun _ z2 => SP X pins D f z2) X.xe z := by
  cases f with
  | ret u => exact let ⟨v, σ2, H2, K2, r2, g2⟩ := h; gone_ok (K2.unsuite ok) nd at_i isLocal fun z2 K3 => ⟨v, _, H2, K3, r2, g2⟩
  | next => exact let ⟨σ2, H2, K2, g2⟩ := h; gone_ok (K2.unsuite ok) nd at_i isLocal fun z2 K3 => ⟨_, H2, K3, g2⟩
  | brk => exact let ⟨σ2, H2, K2, g2⟩ := h; gone_ok (K2.unsuite ok) nd at_i isLocal fun z2 K3 => ⟨_, H2, K3, g2⟩
  | cont => exact let ⟨σ2, H2, K2, g2⟩ := h; gone_ok (K2.unsuite ok) nd at_i isLocal fun z2 K3 => ⟨_, H2, K3, g2⟩
/-- no clause took it: on it goes -/
theorem on_and_up {W : WX} (top : X.stack = X.env :: X.outer) (fr : X.env.frame = some X.env.locals) (tk : Takes X W) (I : Inv X pins σ H from_) (below : ∀ b o, from_.heap.get? b = some o → b ∉ frs X.stack → ground.get? b = some o)
    (fly : HandSPX.FlyingZ ground (X.env :: X.outer) x (Zc cls d) z.heap) (grew : from_.heap.UpToSlots z.heap) (sameOs : z.os = from_.os) (noGen : AllBare z.gens) (hid : H x = none) (wish : W cls d σ H) {S : Flow → Shared → Prop} :
    wpAny (model X.prog X.w) X.A (handleBy (.ref x) X.env []) S X.xe z := by
  refine wpAny_handleBy_nil ?_
  obtain ⟨_, _, _, o, vs, tb, otb, ts, at_x, _, flds, one, _⟩ := id fly
  have throws : wpAny (model X.prog X.w) X.A (setFlight (.ref x) X.env.frame) (fun _ z2 => wpAny (model X.prog X.w) X.A (throw (.ref x) : Sem Flow) S X.xe z2) X.xe z := by
    rw [fr]
    refine HandSPX.setFlight_upZ fly fun hh held more => wpAny_throw (tk _ _ ⟨x, ground, from_, pins, σ, H, cls, d, rfl, I, below, grew.trans more, .inr (.inr ?_), hid, sameOs, noGen, wish⟩)
    rw [top]
    exact held
  unfold PySem.passOn
  refine wpAny_bind (wpAny_field at_x flds one ?_)
  rw [if_neg (by simp : ¬ ((Value.ref tb == Value.none) = true))]
  first | exact wpAny_bind throws | exact wpAny_bind (wpAny_pure (wpAny_bind throws))
/-- the clauses, asked in their order -/
theorem clauses_go {W : WX} {D : Ends} (top : X.stack = X.env :: X.outer) (fr : X.env.frame = some X.env.locals) (tk : Takes X W) (I : Inv X pins σ H from_) (below : ∀ b o, from_.heap.get? b = some o → b ∉ frs X.stack → ground.get? b = some o)
    (fly : HandSPX.FlyingZ ground (X.env :: X.outer) x (Zc cls d) z.heap) (grew : from_.heap.UpToSlots z.heap) (sameOs : z.os = from_.os) (noGen : AllBare z.gens) (hid : H x = none) :
    ∀ {hds : List ExceptHandler} {l : List Cls1}, HdsN X hds l → wManyN X.K W D l cls d σ H → wpAny (model X.prog X.w) X.A (handleBy (.ref x) X.env hds) (SP X pins D) X.xe z := by
  obtain ⟨o, kind, flds, at_x, J, S⟩ := held_here top fr I below fly grew sameOs noGen hid
  have its : PySem.W.Looks (model X.prog X.w) z.heap (typeOf (.ref x)) cls := fun A Q E s k q => wpAny_typeOf_ref (k _ _ at_x) (by rw [kind.1]; exact q)
  have read : ∀ {y : Str} {c : Value} {p : Pos} {Q : Value → Shared → Prop} {E : Value → Shared → Prop}, Names X y c → Q c z → wpAny (model X.prog X.w) (X.A.mark (some (.ref x))) (eval (.Name y p) X.env) Q E z := by
    intro y c p Q E nm q
    rcases nm with ⟨gl, ndb, mine | ⟨none', boot, nn⟩⟩
    · exact ld_glob (X := X.suite x ((x, o) :: (X.pn ++ pins))) S gl mine q ndb
    · exact ld_blt (X := X.suite x ((x, o) :: (X.pn ++ pins))) S gl none' boot q nn ndb
  intro hds l hh
  induction hh with
  | nil => exact fun w => on_and_up top fr tk I below fly grew sameOs noGen hid w
  | cons nm su _ ih =>
    rintro ⟨b, asked, yes, no⟩
    refine wpAny_handleBy_cons (codeAny_handlers_test (read nm ((PySem.W.exm_one (M := model X.prog X.w) J.kIn its asked).here ?_))) (by intro q; cases q)
    cases b with
    | false => exact ih (no rfl)
    | true =>
      refine codeAny_handlers_suite (HandSPX.lands_againZ fly fun h2 fly2 more => ?_)
      obtain ⟨o2, kind2, flds2, _, _, S2⟩ := held_here (z := { z with heap := h2 }) top fr I below fly2 (grew.trans more) sameOs noGen hid
      exact wpAny_mono ((su x o2 cls d (X.pn ++ pins) kind2 flds2).run [] _ _ H _ S2 (yes rfl x hid)) (fun f z3 g => suite_over I.ok g) fun _ _ g => g.elim
  | consN nm nd at_i isLocal su _ ih =>
    rintro ⟨b, asked, yes, no⟩
    refine wpAny_handleBy_cons (codeAny_handlers_test (read nm ((PySem.W.exm_one (M := model X.prog X.w) J.kIn its asked).here ?_))) (by intro q; cases q)
    cases b with
    | false => exact ih (no rfl)
    | true =>
      refine codeAny_handlers_suite_as (HandSPX.lands_againZ fly fun h2 fly2 more => ?_)
      obtain ⟨o2, kind2, flds2, _, _, S2⟩ := held_here (z := { z with heap := h2 }) top fr I below fly2 (grew.trans more) sameOs noGen hid
      refine store_ok (X := X.suite x ((x, o2) :: (X.pn ++ pins))) (v := .ref x) S2 nd at_i (.inl isLocal) rfl (fun z3 S3 => ?_) (.inr isLocal)
      exact wpAny_mono ((su x o2 cls d (X.pn ++ pins) kind2 flds2).run [] z3 _ H _ S3 (yes rfl x hid)) (fun f z4 g => suite_overN I.ok nd at_i isLocal g) fun _ _ g => g.elim
end
section
variable {X : Cx} {body : List Stmt} {first : ExceptHandler} {rest : List ExceptHandler} {l : List Cls1} {pos : Pos} {tb : WX → TS} {Wout : WX}
theorem ps_try_manyN (top : X.stack = X.env :: X.outer) (fr : X.env.frame = some X.env.locals) (tk : Takes X Wout)
    (inner : ∀ (W : WX) (pn : List (Addr × Obj)) (xe : Value → Shared → Prop), Takes (X.tr pn xe) W → PassesOwn (model X.prog X.w) X.A X.env xe → PSs (X.tr pn xe) body (tb W))
    (hh : HdsN X (first :: rest) l) : PS X (.Try body (first :: rest) [] [] pos) (fun D σ H => tb (wManyN X.K Wout D l) D σ H) := by
  constructor
  intro pins s σ H D I h
  have frames : X.A.frames = some (X.env :: X.outer) := by rw [I.ok.frames, top]
  have catches : Takes (X.tr (X.pn ++ pins) fun e z => wpAny (model X.prog X.w) X.A (noteFrame e X.env) (fun _ z2 => wpAny (model X.prog X.w) X.A (setFlight e none) (fun _ z3 => wpAny (model X.prog X.w) X.A (handleBy e X.env (first :: rest)) (SP X pins D) X.xe z3) X.xe z2) X.xe z) (wManyN X.K Wout D l) := by
    rintro u z ⟨x, ground, from_, pins2, σ2, H2, cls, d, rfl, K2, below, grew, sky, hid, sameOs, noGen, wish⟩
    have K3 : Inv X pins σ2 H2 from_ := K2.ofTry I.ok
    have sky2 : Sky ground (X.env :: X.outer) x (Zc cls d) X.env.locals z.heap := by
      rw [← top]
      exact sky
    exact Sky.land Zc.steady frames fr sky2 fun h2 fly more => clauses_go (z := { z with heap := h2 }) top fr tk K3 below fly (grew.trans more) sameOs noGen hid hh wish
  refine wpAny_Try_except (wpAny_mono ((inner _ (X.pn ++ pins) _ catches PassesOwn.looking).run [] s σ H D (I.toTry _) h) (fun f z g => ?_) fun _ _ g => g)
  have back : SP X pins D f z := by
    cases f with
    | ret u => exact let ⟨v, σ2, H2, K2, r2, g2⟩ := g; ⟨v, σ2, H2, K2.ofTry I.ok, r2, g2⟩
    | next => exact let ⟨σ2, H2, K2, g2⟩ := g; ⟨σ2, H2, K2.ofTry I.ok, g2⟩
    | brk => exact let ⟨σ2, H2, K2, g2⟩ := g; ⟨σ2, H2, K2.ofTry I.ok, g2⟩
    | cont => exact let ⟨σ2, H2, K2, g2⟩ := g; ⟨σ2, H2, K2.ofTry I.ok, g2⟩
  cases f with
  | next => exact wpAny_execs_nil back
  | ret u => exact back
  | brk => exact back
  | cont => exact back
end
/-- what is never reached needs no reading -/
theorem pss_dead {X : Cx} {b : List Stmt} : PSs X b (fun _ _ _ => False) := ⟨fun _ _ _ _ _ _ h => h.elim⟩
theorem ps_dead {X : Cx} {b : Stmt} : PS X b (fun _ _ _ => False) := ⟨fun _ _ _ _ _ _ h => h.elim⟩
theorem pe_dead {X : Cx} {e : Expr} : PE X e (fun _ _ _ => False) := ⟨fun _ _ _ _ _ _ h => h.elim⟩
end L2

set_option Elab.async false
set_option linter.all false
set_option maxRecDepth 100000
set_option maxHeartbeats 2000000
/-! An own exception over any built-in one, whose __init__ says super().__init__(message) and self.field = parameter: made, and its field read -/
namespace PySem
namespace EBX
open PySem.W PySem.Calls PyProof.Rows PySem.HandSPX
open Builtin Builtin.ObjectAttr
/-- what is asked of the built-in class -/
structure BaseF (B newId i : String) (bmB : List Value) : Prop where
  F : ExcBaseFacts B newId i bmB
  KF : KxsFacts B i
  obj : bmB.contains (.type "object") = true
  pass : ∀ self, refuseLoop self "__setattr__" bmB = pure ()
  along : ∀ K, alongIn K "__init__" bmB = some (some (.builtin i))
abbrev bmIndex : List Value := [.type "IndexError", .type "LookupError", .type "Exception", .type "BaseException", .type "object"]
abbrev bmOver : List Value := [.type "OverflowError", .type "ArithmeticError", .type "Exception", .type "BaseException", .type "object"]
theorem b_IndexError : BaseF "IndexError" "IndexError.__new__" "IndexError.__init__" bmIndex := ⟨F.excBase_IndexError, kxs_IndexError, by decide +kernel, F.store_IndexError.passes, fun K => by kernel_rfl⟩
theorem b_OverflowError : BaseF "OverflowError" "OverflowError.__new__" "OverflowError.__init__" bmOver := ⟨F.excBase_OverflowError, kxs_OverflowError, by decide +kernel, F.store_OverflowError.passes, fun K => by kernel_rfl⟩
/-- the text of __init__ -/
structure Tx where
  (qual par fld : Str)
  msg : Expr
  params : Arguments
  scope : Scope
  (p0 p1 p2 p3 p4 p5 p6 p7 p8 : Pos)
def Tx.body (T : Tx) : List Stmt := [.Expr (.Call (.Attribute (.Call (.Name "super" T.p0) [] [] T.p1) "__init__" T.p2) [T.msg] [] T.p3) T.p4, .Assign [.Attribute (.Name "self" T.p5) T.fld T.p6] (.Name T.par T.p7) T.p8]
abbrev Tx.fn (T : Tx) (doc pm cdv ct : Value) (an : Option Addr) (cc : Addr) : FuncData := ksFn "__init__" T.qual T.params T.body T.scope .none .none doc pm an cdv ct cc
abbrev Tx.env (T : Tx) (L f : Addr) (cd : Value) (cc : Addr) : Env := ksEnv T.qual T.scope L f cd cc
abbrev Tx.sup (T : Tx) : Expr := .Call (.Name "super" T.p0) [] [] T.p1
abbrev Tx.call (T : Tx) : Expr := .Call (.Attribute T.sup "__init__" T.p2) [T.msg] [] T.p3
/-- what stands in the text -/
structure TxOk (T : Tx) : Prop where
  ev : ∀ (L f : Addr) (cd : Value) (cc : Addr), ∃ pl : Sem Bool, eval T.call (T.env L f cd cc) = (do
      let ov ← attributeBase T.sup "__init__" (T.env L f cd cc) (eval T.sup (T.env L f cd cc))
      standAt T.p2.atName
      let (fv, first) ← holding [ov] (getMethod ov "__init__" pl)
      callWith T.p3 fv first (backTo T.p3 (starEach [T.msg] (T.env L f cd cc))) [])
  star : ∀ (L f : Addr) (cd : Value) (cc : Addr), starEach [T.msg] (T.env L f cd cc) = (false, eval T.msg (T.env L f cd cc)) :: starEach [] (T.env L f cd cc)
  int : ∀ (L f : Addr) (cd : Value) (cc : Addr), interactive (T.env L f cd cc) = false
  sw1 : ∀ (L f : Addr) (cd : Value) (cc : Addr), swapsWith T.call none T.p4.line (T.env L f cd cc) = pure false
  sw2 : ∀ (L f : Addr) (cd : Value) (cc : Addr), swapsWith (.Name T.par T.p7) (some (.Attribute (.Name "self" T.p5) T.fld T.p6)) T.p8.line (T.env L f cd cc) = pure false
  self : T.scope.names.lookup ("self" : Str) = some .local
  par : T.scope.names.lookup T.par = some .local
  sup : T.scope.names.lookup ("super" : Str) = some .globalImplicit
  cls : T.scope.names.lookup ("__class__" : Str) = some .free
  noc : ∀ y ∈ T.scope.names, y.2 ≠ .cell
  co : T.scope.isCoroutine = false
  gen : T.scope.isGenerator = false
  kind : T.scope.kind = .function
  head : (T.params.posonlyargs ++ T.params.args).head?.map (·.arg) = some "self"
  bind : ∀ (s : Shared) (doc pm cdv ct : Value) (an : Option Addr) (cc : Addr) (a b : Value), BindsTo s (T.fn doc pm cdv ct an cc) ⟨[a, b], []⟩ [("self", a), (T.par, b)]
  ne : T.par ≠ "self"
  dbg : (T.par == ("__debug__" : Str)) = false
/-- the message has a value, whatever the parameter (Ok) is -/
def MsgOk (T : Tx) (Ok : Value → Prop) : Prop := ∀ (prog : Program) (w : World) (A : Around) (E : Value → Shared → Prop) (env : Env) (s : Shared) (m : Str → Option Value) (v : Value) (Q : Value → Shared → Prop),
  env.scope = T.scope → s.heap.Ns env.locals m → m T.par = some v → Ok v → (∀ u t, Q u { s with toks := t }) → wpAny (model prog w) A (eval T.msg env) Q E s
/-- what K tells of such a class -/
structure OwnC (prog : Program) (K : Frag) (mg : Str → Option Value) (T : Tx) (C fI : Addr) (B newId : String) (bmB : List Value) : Prop where
  cls : ∃ nm q N bs sn sub ab col dd k0 k1 k2 k3 k5, K.lookup C = some (excClassObj nm q C N bs bmB true sn sub ab col dd k0 k1 k2 k3 k5 newId)
  sa : findIn K (.ref C) "__setattr__" = some (some (.builtin "object.__setattr__"))
  ga : findIn K (.ref C) "__getattribute__" = some (some (.builtin "BaseException.__getattribute__"))
  gg : findIn K (.ref C) "__getattr__" = some none
  noN : findIn K (.ref C) T.fld = some none
  iC : findIn K (.ref C) "__init__" = some (some (.ref fI))
  tC : typeIn K (.ref fI) = some (.type "function")
  kC : keepIn K (.ref C) = true
  exC : subIn K (.ref C) (.type "BaseException") = some true
  suB : subIn K (.ref C) (.type B) = some true
  tyC : typeIn K (.ref C) = some (.type "type")
  hdC : hasDictIn K C = true
  noP : nsIn K cStatics "thirdparty.any" = some none
  msup : mg "super" = none
  fn : ∃ (oc doc pm ct : Value) (od an : Option Addr) (cda cc : Addr) (osl : Array (Option Value)) (cl : Value) (cld : Option Addr) (csl : Array (Option Value)) (ccl : Value) (cdd : Option Addr) (vs : Array Value) (ccs : Array (Option Value)) (file : Str) (tf : Tok),
    K.lookup fI = some ⟨oc, od, .func (T.fn doc pm (.ref cda) ct an cc), osl⟩ ∧ codeIn K (.ref cda) T.qual = true ∧ K.lookup cc = some ⟨cl, cld, .cell (some (.ref C)), csl⟩ ∧
    K.lookup cda = some ⟨ccl, cdd, .fields vs, ccs⟩ ∧ vs[2]? = some (.str file tf) ∧ ((prog.main.file : Str) == file) = true
  top : (prog.main.scope.names.lookup ("super" : Str)).isSome = false
section
variable {prog : Program} {w : World} {M : Model} {A : Around} {E : Value → Shared → Prop} {h : Heap} {g : Array GenState} {d : Drawn} {t : Nat} {os : OsState} {B i newId : String} {bmB : List Value}
theorem call_mw (FB : ExcBaseFacts B newId i bmB) {nm q : Str} {C N : Addr} {bs : List Value} {hdct : Bool} {sn : List Str} {sub : List Value} {ab : Bool} {col : Option Bool} {dd : Option Addr} {k0 k1 k2 k3 k5 : Option Value} {bound e old : Addr} {more : List Value} {Q : Value → Shared → Prop}
    (hC : h.get? C = some (excClassObj nm q C N bs bmB hdct sn sub ab col dd k0 k1 k2 k3 k5 newId)) (he : h.get? e = some (excO C old)) (hb : h.get? bound = some (kxs_mw i e)) (few : more.length ≤ sizeLine)
    (then_ : ∀ h' new, (∀ b o, b ≠ e → h.get? b = some o → h'.get? b = some o) → h'.get? e = some (excO C new) → Q .none ⟨h', g, d, t, os⟩) :
    wpAny (model prog w) A (call (.ref bound) more) Q E ⟨h, g, d, t, os⟩ := by
  have wrapped : (Value.type "method-wrapper" == Value.type "method" || Value.type "method-wrapper" == Value.type "builtin_function_or_method" || Value.type "method-wrapper" == Value.type "method-wrapper") = true := by decide
  have laid : wpAny (model prog w) _ (Builtin.«BaseException.__init__» ⟨.ref e :: more, []⟩) _ _ ⟨h, g, d, t, os⟩ :=
    exc_init_tree (A := (A.under (.builtin i ⟨.ref e :: more, []⟩))) (E := fun er s' => wants Q E (.error er) s') (P := fun fin s' => match fin with | .done f => wants Q E (.ok f) s' | .again c' => c'.quiet = true ∧ codeAny (model prog w) A c' (wants Q E) s')
      (cls := .ref C) (t0 := old) (dv := none) (c2 := .none) (c3 := .none) (b4 := .bool false) he few fun h' k e' _ => then_ h' h.objs.size k e'
  refine wpAny_call (codeAny_of_tree (show wpAny _ A.in1 (callAny (.ref bound) ⟨more, []⟩) _ _ _ from ?_))
  unfold callAny
  refine wpAny_bind (wpAny_load hb ?_)
  simp only [kxs_mw, wrapped, if_true]
  refine KFB.if_so (by decide) (wpAny_bind (check_bound_init FB.toExcCallFacts hC he rfl (wpAny_bind (wpAny_pure (wpAny_pure ⟨plainId_quiet FB.init.plain _, codeAny_builtin FB.initEntry ?_⟩)))))
  exact laid
end
section
variable {prog : Program} {w : World} {A : Around} {E : Value → Shared → Prop} {R : Result → Shared → Prop} {hp : Heap} {g : Array GenState} {d : Drawn} {t : Nat} {os : OsState} {B i newId : String} {bmB : List Value}
/-- the store is let pass by all classes above -/
theorem lets_pass (BF : BaseF B newId i bmB) (self C : Value) {c : Addr} (e : C = .ref c) : refuseLoop self "__setattr__" (C :: bmB) = pure () := by
  rw [e, refuseLoop_ref]
  exact BF.pass self
/-- self.name = v, where self has no dict as yet: it gets one -/
theorem osa_b (BF : BaseF B newId i bmB) {K : Frag} {name : Str} {tk : Tok} {v : Value} {x C : Addr} {vals : Array Value} {cd : ClassData}
    (inK : K.In hp) (at_x : hp.get? x = some { cls := .ref C, data := .fields vals }) (cls : clsIn K C = some cd) (order : cd.mro = .ref C :: bmB) (dicts : cd.hasDict = true) (none' : findIn K (.ref C) name = some none)
    (then_ : ∀ (h2 : Heap) (tk2 : Nat) (dx : Addr), (∀ b o, b ≠ x → hp.get? b = some o → h2.get? b = some o) → hp.objs.size ≤ dx → dx ≠ x →
      h2.get? x = some { cls := .ref C, dict := some dx, data := .fields vals } → h2.Ns1 dx (fun y => if y = name then some v else none) → R (.ok (.ret .none)) ⟨h2, g, d, tk2, os⟩) :
    codeAny (model prog w) A (.call (.builtin "object.__setattr__") ⟨[.ref x, .str name tk, v], []⟩) R ⟨hp, g, d, t, os⟩ := by
  have inst : InstAt hp x { cls := .ref C, data := .fields vals } C none := ⟨at_x, rfl, rfl, trivial⟩
  have apart : x ≠ hp.objs.size := fun z => absurd (Heap.lt_size at_x) (by rw [z]; exact Nat.lt_irrefl _)
  have above : (Value.ref C :: bmB).contains (.type "object") = true := by rw [List.contains_cons, BF.obj, Bool.or_true]
  have isObj : Looks (model prog w) hp (isInstance (.ref x) (.type "object")) true := by
    refine inst.type.andThen (looks_mroIn inK ?_)
    unfold mroIn
    rw [cls, Option.bind_some, order, if_neg (show ¬ (List.isEmpty (Value.ref C :: bmB) = true) from Bool.false_ne_true), above]
  have mros : Looks (model prog w) hp (mroOf (.ref C)) cd.mro := (looks_clsIn inK cls).andThen .now
  have its : Looks (model prog w) hp (classData C) cd := looks_clsIn inK cls
  have noTaker : Looks (model prog w) hp (storeTaker? none) none := .now
  have FO := F.store_object
  refine codeAny_call_builtin FO.slot.plain FO.entry (@check_slot (model prog w) _ _ ⟨hp, g, d, t, os⟩ "object.__setattr__" "object" "__setattr__" (.ref x) [.str name tk, v] [] _ FO.kind FO.split isObj (FO.args (.ref x) (.str name tk) v) ?_)
  rw [osa_eq, refuse_eq]
  refine wpAny_bind (wpAny_bind (inst.type.at (wpAny_bind (mros.at ?_))))
  rw [order, lets_pass BF _ _ rfl]
  refine wpAny_pure (wpAny_bind (inst.type.at (wpAny_bind ((looks_findIn inK none').at (wpAny_bind (noTaker.at ?_))))))
  show wpAny _ _ (storeInOwnDict (.ref x) (.ref C) (.str name tk) name v false) _ _ ⟨hp, g, d, t, os⟩
  obtain ⟨_, _, _, _, _, has, _, _, _, _, _⟩ := cd
  obtain rfl : has = true := dicts
  unfold storeInOwnDict
  unfold ownDictForStores
  repeat (first | with_reducible refine its.at ?_ | with_reducible refine HandSPX.store_in_new ?_ ?_ | with_reducible refine wpAny_loadPart_at at_x ?_ | wp_step)
  all_goals first
    | (exact ⟨_, #[], _, (Heap.get?_update_ne _ _ _ _ apart.symm).trans (Heap.get?_push_at rfl rfl), rfl, fun _ hz => absurd hz (by simp), fun _ => rfl⟩)
    | (intro h2 tk2 nsp keeps
       have old := Heap.get?_push_of_some (h := hp) { cls := .type "dict", data := .dict #[] } at_x
       refine then_ h2 tk2 hp.objs.size (fun b o nb at_b => ?_) (Nat.le_refl _) apart.symm ((keeps.2 x apart).trans (Heap.get?_update_self _ old rfl)) nsp
       have lt : b ≠ hp.objs.size := fun z => absurd (Heap.lt_size at_b) (by rw [z]; exact Nat.lt_irrefl _)
       exact (keeps.2 b lt).trans ((Heap.get?_update_ne _ _ _ _ nb).trans (Heap.get?_push_of_some _ at_b)))
end
/-- what __init__ leaves of a fresh exception at x -/
structure InitEnd (h h' : Heap) (x C dx t1 : Addr) (fld : Str) (v : Value) : Prop where
  keep : ∀ b o, b ≠ x → h.get? b = some o → h'.get? b = some o
  obj : h'.get? x = some { cls := .ref C, dict := some dx, data := .fields #[.ref t1, .none, .none, .none, .bool false, .none] }
  dbig : h.objs.size ≤ dx
  dne : dx ≠ x
  ns : h'.Ns1 dx (fun y => if y = fld then some v else none)
section
variable {prog : Program} {w : World} {A : Around} {E : Value → Shared → Prop} {R : Result → Shared → Prop} {s : Shared} {K : Frag} {mg : Str → Option Value} {T : Tx} {C fI : Addr} {B i newId : String} {bmB : List Value} {Ok : Value → Prop}
theorem ns_keep {h h' : Heap} {L : Addr} {m : Str → Option Value} (n : h.Ns L m) (k : ∀ o, h.get? L = some o → h'.get? L = some o) : h'.Ns L m := by
  obtain ⟨oL, es, ep, hL, r⟩ := n
  exact ⟨oL, es, ep, k _ hL, r⟩
theorem own_init (BF : BaseF B newId i bmB) (TO : TxOk T) (MO : MsgOk T Ok) (O : OwnC prog K mg T C fI B newId bmB) {x t0 : Addr} {v : Value} (hv : Ok v) (X : K.In s.heap) (hlim : s.heap.NoLimit) (hg : s.heap.Ns mainGlobals mg)
    (hb : ∃ mb, s.heap.Ns builtinsNs mb ∧ ∀ x : Str, x ≠ "__name__" → mb x = bootBuiltins x) (hx : s.heap.get? x = some (excO C t0)) (hnx : K.lookup x = none) (hroom : A.depth < recursionLimit)
    (hq : ∀ h' tk dx t1, InitEnd s.heap h' x C dx t1 T.fld v → R (.ok (.ret .none)) { s with heap := h', toks := tk }) :
    codeAny (model prog w) A (.call (.ref fI) ⟨[.ref x, v], []⟩) R s := by
  obtain ⟨oc, doc, pm, ct, od, an, cda, cc, osl, cl, cld, csl, ccl, cdd, vs, ccs, file, tf, ho, hcd, hcell, hcode, hvs, hfile⟩ := O.fn
  obtain ⟨nm, q, N, bs, sn, sub, ab, col, dd, k0, k1, k2, k3, k5, hC⟩ := O.cls
  have hcl : clsIn K C = some { name := nm, bases := bs, mro := .ref C :: bmB, ns := N, qualname := q, hasDict := true, slotNames := sn, subclasses := sub, abstract := ab, collection := col, hasDel := false } := by unfold clsIn; rw [hC] <;> rfl
  obtain ⟨ar, har, hself⟩ : ∃ ar, (T.params.posonlyargs ++ T.params.args).head? = some ar ∧ ar.arg = "self" := by
    have z := TO.head
    cases e : (T.params.posonlyargs ++ T.params.args).head? with
    | none => rw [e] at z; cases z
    | some ar => rw [e] at z; exact ⟨ar, rfl, Option.some.inj z⟩
  refine ks_codeAny_call_defAt (fd := T.fn doc pm (.ref cda) ct an cc) (body := T.body) (binds := [("self", .ref x), (T.par, v)]) hroom (X _ _ ho) rfl hlim (codeRec_of X hcd) rfl (TO.bind _ _ _ _ _ _ _ _ _) TO.noc
    (fun y hy => ?_) (fun h₁ hns hk₁ => ?_) TO.co TO.gen TO.kind
  · rcases List.mem_cons.mp hy with rfl | hy
    · exact TO.self
    · rw [List.mem_singleton.mp hy]
      exact TO.par
  have hns : h₁.Ns s.heap.objs.size (fun y => ([(T.par, v), (("self" : Str), Value.ref x)] : List (Str × Value)).lookup y) := hns
  have lself : ([(T.par, v), (("self" : Str), Value.ref x)] : List (Str × Value)).lookup ("self" : Str) = some (.ref x) := by
    have z : (("self" : Str) == T.par) = false := by simpa using fun e : ("self" : Str) = T.par => TO.ne e.symm
    simp [List.lookup, z]
  have lpar : ([(T.par, v), (("self" : Str), Value.ref x)] : List (Str × Value)).lookup T.par = some v := by simp [List.lookup]
  have X₁ : K.In h₁ := X.keeps hk₁
  have hx₁ := hk₁ _ _ hx
  obtain ⟨mb, hb1, hb2⟩ := hb
  obtain ⟨hp, g, d, t, os⟩ := s
  show _root_.PySem.wpAt _ _ _ (execs T.body (ksEnv T.qual T.scope hp.objs.size fI (.ref cda) cc)) _ _ ⟨h₁, g, d, _, os⟩
  obtain ⟨pl, hev⟩ := TO.ev hp.objs.size fI (.ref cda) cc
  refine ks_wpAt_execs_cons (ks_wpAt_Expr_any (ks_wpAt_MethodCall (pl := pl) ?_ hev) (TO.int _ _ _ _) (TO.sw1 _ _ _ _))
  refine ks_wpAt_super_base (env := ksEnv T.qual T.scope hp.objs.size fI (.ref cda) cc) TO.sup TO.cls (by decide) rfl (X₁ _ _ ho) rfl har rfl (X₁ _ _ hcode) rfl hvs hfile O.top ?_
  refine ks_loadName_global TO.kind TO.sup (loadGlobal_builtin (env := ksEnv T.qual T.scope hp.objs.size fI (.ref cda) cc) (hg.keeps hk₁) O.msup (hb1.keeps hk₁) ((hb2 _ (by decide)).trans PyProof.Rows.Boot.«super») ⟨rfl, ?_⟩)
  refine wpAny_loadName_free TO.kind TO.cls rfl ⟨_, X₁ _ _ hcell, rfl⟩ ?_
  rw [hself]
  refine wpAny_loadName_local TO.kind TO.self hns lself ?_
  have hC1 := X₁ _ _ hC
  refine ks_wpAny_isType_cls hC1 rfl ⟨rfl, ?_⟩
  refine ks_wpAny_call_super hC1 rfl hx₁ rfl (fun c e => by cases e) (looks_mroIn X₁ (by unfold mroIn; rw [hcl, Option.bind_some, if_neg (show ¬ (List.isEmpty (Value.ref C :: bmB) = true) from Bool.false_ne_true), List.contains_cons, beq_self_eq_true, Bool.true_or])) (fun h₂ e₂ k₂ => ?_)
  have X₂ : K.In h₂ := X₁.keeps k₂
  have hx₂ := k₂ _ _ hx₁
  have hxC : x ≠ C := fun e => by
    rw [e] at hx₁
    rw [hC1] at hx₁
    cases hx₁
  have I2 : InstAt h₂ x (excO C t0) C none := ⟨hx₂, rfl, rfl, trivial⟩
  refine kxs_getMethod BF.KF e₂ (looks_opaque X₂ O.noP) (l₀ := .ref C :: bmB) (l := bmB) (fun A Q E s k q => wpAny_bind ((looks_clsIn X₂ hcl) A _ E s k (wpAny_pure q))) (by simp [List.dropWhile_cons]) X₂ (BF.along K)
    (I2.type.andThen (looks_subIn X₂ O.suB)) hxC (by decide) ?_
  generalize hu : h₂.objs.size = u
  have hmw : (h₂.push (kxs_mw i x)).get? u = some (kxs_mw i x) := Heap.get?_push_at hu.symm rfl
  have k₃ : ∀ b o, h₂.get? b = some o → (h₂.push (kxs_mw i x)).get? b = some o := fun b o e => Heap.get?_push_of_some _ e
  generalize h₂.push (kxs_mw i x) = h₃ at hmw k₃ ⊢
  have kk : ∀ b o, h₁.get? b = some o → h₃.get? b = some o := fun b o e => k₃ b o (k₂ b o e)
  have ns₃ := ns_keep hns fun o e => kk _ o e
  show wpAny _ _ (callWith T.p3 (.ref u) [] (backTo T.p3 (starEach [T.msg] (T.env hp.objs.size fI (.ref cda) cc))) []) _ _ _
  rw [TO.star]
  refine kxs_callWith (i := i) (x := x) rfl (evalArgs_plain ?_)
  refine Calls.spliced_cons (MO prog w _ _ (ksEnv T.qual T.scope hp.objs.size fI (.ref cda) cc) _ _ v _ rfl ns₃ lpar hv fun um tm => ?_)
  refine Calls.spliced_nil ⟨hmw, ?_⟩
  refine call_mw BF.F (kk _ _ hC1) (kk _ _ hx₁) hmw (by rw [sizeLine_eq]; exact (by decide : 1 ≤ 16777216)) fun h₄ t1 k₄ e₄ => ?_
  have Lx : hp.objs.size ≠ x := Nat.ne_of_gt (Heap.lt_size (show hp.get? x = some _ from hx))
  have ns₄ := ns_keep ns₃ fun o e => k₄ _ o Lx e
  have X₄ : K.In h₄ := fun b o e => k₄ b o (fun z => by rw [z, hnx] at e; cases e) (kk _ _ (X₁ b o e))
  refine ks_wpAt_execs_cons (ks_wpAt_Assign_Attr ?_ (TO.sw2 _ _ _ _))
  have ldn : ∀ {A : Around} {E : Value → Shared → Prop} {y : Str} {p : Pos} {u : Value} {Q : Value → Shared → Prop} {s₄ : Shared}, s₄.heap = h₄ → T.scope.names.lookup y = some .local → ([(T.par, v), (("self" : Str), Value.ref x)] : List (Str × Value)).lookup y = some u → (y == ("__debug__" : Str)) = false → Q u s₄ →
      wpAny (model prog w) A (eval (.Name y p) (T.env hp.objs.size fI (.ref cda) cc)) Q E s₄ := fun {A E y p u Q s₄} hs hl hu hd hq =>
    wpAny_Name (wpAny_loadName_local (env := T.env hp.objs.size fI (.ref cda) cc) (m := fun y => ([(T.par, v), (("self" : Str), Value.ref x)] : List (Str × Value)).lookup y) TO.kind hl (by rw [hs]; exact ns₄) hu hq) hd
  refine wpAt_of_wpAny ?_
  refine ldn rfl TO.par lpar TO.dbg ?_
  refine ldn rfl TO.self lself (by decide) ?_
  refine set_plain X₄ (ox := excO C t1) (od := none) ⟨e₄, rfl, rfl, trivial⟩ O.sa ?_
  refine osa_b BF X₄ e₄ hcl rfl rfl O.noN fun h₅ tk₅ dx k₅ dn dne hx₅ hn₅ => ?_
  refine wpAt_of_wpAny (wpAny_execs_nil ?_)
  have sz : hp.objs.size ≤ h₄.objs.size := by
    obtain ⟨oL, es, ep, hL, r⟩ := ns₄
    exact Nat.le_of_lt (Heap.lt_size hL)
  exact hq h₅ tk₅ dx t1 ⟨fun b o hb e => k₅ b o hb (k₄ b o hb (kk _ _ (hk₁ b o e))), hx₅, Nat.le_trans sz dn, dne, hn₅⟩
end
end EBX
end PySem

set_option Elab.async false
set_option linter.all false
set_option maxRecDepth 100000
set_option maxHeartbeats 2000000
namespace PySem
namespace EBX
open PySem.W PySem.Calls PyProof.Rows PySem.HandSPX
/-- a made one -/
structure OwnMade (h h' : Heap) (e C d : Addr) (fld : Str) (v : Value) : Prop where
  keep : ∀ b o, h.get? b = some o → h'.get? b = some o
  new : h.objs.size ≤ e
  obj : ∃ oe vs, h'.get? e = some oe ∧ oe.cls = .ref C ∧ oe.dict = some d ∧ oe.data = .fields vs ∧ vs[1]? = some .none
  dbig : h.objs.size ≤ d
  dne : d ≠ e
  ns : h'.Ns1 d (fun y => if y = fld then some v else none)
theorem one_size (v : Value) : [v].length ≤ sizeLine := by
  rw [sizeLine_eq]
  exact (by decide : 1 ≤ 16777216)
section
variable {prog : Program} {w : World} {A : Around} {R : Result → Shared → Prop} {s : Shared} {K : Frag} {mg : Str → Option Value} {T : Tx} {C fI : Addr} {B i newId : String} {bmB : List Value} {Ok : Value → Prop}
theorem own_made (BF : BaseF B newId i bmB) (TO : TxOk T) (MO : MsgOk T Ok) (O : OwnC prog K mg T C fI B newId bmB) {v : Value} (hv : Ok v) (X : K.In s.heap) (hlim : s.heap.NoLimit) (hg : s.heap.Ns mainGlobals mg)
    (hb : ∃ mb, s.heap.Ns builtinsNs mb ∧ ∀ x : Str, x ≠ "__name__" → mb x = bootBuiltins x) (hroom : A.depth + 1 < recursionLimit)
    (hq : ∀ h' tk e d, OwnMade s.heap h' e C d T.fld v → R (.ok (.ret (.ref e))) { s with heap := h', toks := tk }) :
    codeAny (model prog w) A (.call (.ref C) ⟨[v], []⟩) R s := by
  obtain ⟨nm, q, N, bs, sn, sub, ab, col, dd, k0, k1, k2, k3, k5, hC⟩ := O.cls
  obtain ⟨hp, g, dr, tk, os⟩ := s
  have k : ∀ b o, hp.get? b = some o → ((hp.push (kdv_tup [v])).push (excO C hp.objs.size)).get? b = some o := fun b o e => Heap.get?_push_of_some _ (Heap.get?_push_of_some _ e)
  have hget : ((hp.push (kdv_tup [v])).push (excO C hp.objs.size)).get? (hp.objs.size + 1) = some (excO C hp.objs.size) := by heap_get
  have hnx : K.lookup (hp.objs.size + 1) = none := by
    cases e : K.lookup (hp.objs.size + 1) with
    | none => rfl
    | some o =>
      have z : hp.get? (hp.objs.size + 1) = some o := X _ _ e
      exact absurd (Nat.lt_of_succ_lt (Heap.lt_size z)) (Nat.lt_irrefl _)
  obtain ⟨mb, hb1, hb2⟩ := hb
  refine call_own BF.F (fun X => rfl) (X _ _ hC) (looks_findIn X O.iC) (fun self => bind_fn X self O.tC) (one_size v) ?_
  refine own_init (s := ⟨(hp.push (kdv_tup [v])).push (excO C hp.objs.size), g, dr, tk, os⟩) BF TO MO O hv (X.keeps k) (hlim.keeps k) (hg.keeps k) ⟨mb, hb1.keeps k, hb2⟩ hget hnx ?_ fun h' tk' dx t1 ⟨k', hx, dn, dne, hns⟩ => ?_
  · show A.depth + 1 < recursionLimit
    exact hroom
  · have old : ∀ b o, hp.get? b = some o → h'.get? b = some o := fun b o e => k' b o (Nat.ne_of_lt (Nat.lt_succ_of_lt (Heap.lt_size e))) (k b o e)
    have z : hp.objs.size + 1 + 1 ≤ dx := by
      first
        | (simpa only [Heap.size_push] using dn)
        | exact dn
        | (have q := dn; rw [Heap.size_push, Heap.size_push] at q; exact q)
    exact ⟨rfl, hq h' tk' (hp.objs.size + 1) dx ⟨old, Nat.le_succ _, ⟨_, _, hx, rfl, rfl, rfl, rfl⟩, Nat.le_trans (Nat.le_trans (Nat.le_succ _) (Nat.le_succ _)) z, dne, hns⟩⟩
end
/-- an error of the class at S is what «except S» names -/
theorem exm_same {K : Frag} {S D : Addr} {b : Bool} (h1 : subIn K (.ref S) (.type "BaseException") = some true) (h2 : isClsIn K D = true) (h3 : typeIn K (.ref D) = some (.type "type")) (h1' : subIn K (.ref D) (.type "BaseException") = some true) (h4 : subIn K (.ref S) (.ref D) = some b) :
    exmOne K (.ref S) (.ref D) = some b := by
  have e1 : (subIn K (.ref D) (.type "BaseException") == some true) = true := by rw [h1'] <;> rfl
  have e2 : ((clsIn K D).isSome && typeIn K (.ref D) == some (.type "type")) = true := by
    have h2' : (clsIn K D).isSome = true := h2
    rw [h2', h3] <;> rfl
  show (if (subIn K (.ref D) (.type "BaseException") == some true) = true then (if ((clsIn K D).isSome && typeIn K (.ref D) == some (.type "type")) = true then subIn K (.ref S) (.ref D) else none) else none) = some b
  rw [if_pos e1, if_pos e2]
  exact h4
end EBX
end PySem
namespace L2
open PySem PySem.Spec PyProof.Rows PySem.EBX
theorem relO_own {fld : Str} {v : V} {v' : Value} (r : RelV v v') (f : Str) : RelO (List.lookup f [(fld, v)]) (if f = fld then some v' else none) := by
  by_cases hw : f = fld
  · subst hw
    rw [if_pos rfl]
    have q : List.lookup f [(f, v)] = some v := by simp [List.lookup]
    rw [q]
    exact r
  · rw [if_neg hw]
    have qw : (f == fld) = false := by simpa using hw
    have q2 : List.lookup f [(fld, v)] = none := by simp [List.lookup, qw]
    rw [q2]
    trivial
section
variable {X : Cx} {C fI : Addr} {T : Tx} {B i newId : String} {bmB : List Value} {Ok : Value → Prop} {okV : V → Prop}
/-- C(e) -/
def tMkOwn (C : Addr) (fld : Str) (okV : V → Prop) (ta : TA) : St → Hp → XK → Prop := fun σ H Q => ta σ H fun vs H1 => ∃ v, vs = [v] ∧ okV v ∧ ∀ d, H1 d = none → Q (.ref C) (some d) (upd H1 d (.xd [(fld, v)]))
theorem pmk_ownI {x : Str} {a : Expr} {ta : TA} {p pos : Pos} {k : Nat} (BF : BaseF B newId i bmB) (TO : TxOk T) (MO : MsgOk T Ok) (O : OwnC X.prog X.K X.mg T C fI B newId bmB) (ok : ∀ v u, okV v → RelV v u → Ok u) (gC : X.mg x = some (.ref C)) (hr : Room k X.A) (ha : PA X [a] ta) (hg : Gl X x)
    (hd : (x == ("__debug__" : Str)) = false := by decide) (he : starEach (a :: []) X.env = (false, eval a X.env) :: starEach [] X.env := by rfl) (hpl : (backTo pos (starEach [] X.env)).any (·.1) = false := by rfl) :
    PMk X (.Call (.Name x p) [a] [] pos) (tMkOwn C T.fld okV ta) := by
  intro pins s σ H Q I h
  refine wpAny_Call_Name_kw (ld_glob I hg gC ?_ hd)
  refine PySem.W.callWith_K (h₀ := X.base) I.ok.mod.kin O.kC (thn (ha.run pos pins s σ H _ I h) fun us s1 hh => ?_) he hpl
  obtain ⟨vs, H1, I1, r1, v, ev, okv, q1⟩ := hh
  subst ev
  refine ⟨I1.kIn, ?_⟩
  cases r1 with
  | cons rv rn =>
    rename_i v' us'
    cases rn
    show wpAny _ _ (call (.ref C) [v']) _ _ _
    have hlim := I1.nolimit
    have hgl := I1.mod.glob.keeps I1.bk
    obtain ⟨mb, hb1, hb2⟩ := I1.mod.blt
    have hblt := hb1.keeps I1.bk
    obtain ⟨hp, g, dr, tk, os⟩ := s1
    refine wpAny_call (own_made BF TO MO O (ok _ _ okv rv) I1.kIn hlim hgl ⟨mb, hblt, hb2⟩ (by have := hr.dp; omega) fun h' tk' e d M => ?_)
    show MkP X pins σ Q (.ref e) ⟨h', g, dr, tk', os⟩
    obtain ⟨oe, fv, hoe, hc, hd, hdat, h1⟩ := M.obj
    have hns := M.ns
    obtain ⟨G', g1, g2⟩ := restrict h' fun b => decide (b ≠ e)
    have gk : ∀ b, b ≠ e → G'.get? b = h'.get? b := fun b hb => g1 b (decide_eq_true hb)
    have ge : G'.get? e = none := g2 e (by simp)
    have old : ∀ b o, hp.get? b = some o → G'.get? b = some o := fun b o q => (gk b (Nat.ne_of_lt (Nat.lt_of_lt_of_le (Heap.lt_size q) M.new))).trans (M.keep b o q)
    have ob : ObjOk X.prog X.w (upd H1 d (.xd [(T.fld, v)])) G' d (.xd [(T.fld, v)]) :=
      ⟨_, hns.at (fun o q => (gk d M.dne).trans q), fun f => relO_own rv f⟩
    have J : Inv X pins σ (upd H1 d (.xd [(T.fld, v)])) ⟨G', g, dr, tk', os⟩ := I1.laid (t' := tk') old M.dbig ob
    refine ⟨e, oe, fv, ⟨G', g, dr, tk', os⟩, _, .ref C, some d, rfl, J, fun b o q => ?_, ge, hoe, ⟨hc, hd⟩, hdat, h1, ?_, rfl, I1.bare, raises_own O.exC O.tyC, q1 d (I1.hok.fresh M.dbig)⟩
    · by_cases hb : b = e
      · have q' : G'.get? b = some o := q
        rw [hb, ge] at q'; cases q'
      · exact (gk b hb).symm.trans q
    · rw [upd_ne (Ne.symm M.dne)]
      exact I1.hok.fresh M.new
/-- n.fld, n the exception that the suite holds (at a; its class cls, its dict d) -/
def tByOwn (C : Addr) (fld : Str) (a : Addr) (cls : Value) (d : Option Addr) (te : TE) : TE := fun σ H Q => te σ H fun x H1 => x = .ref a ∧ cls = .ref C ∧ ∃ (dd : Addr) (v : V), d = some dd ∧ H1 dd = some (.xd [(fld, v)]) ∧ Q v H1
theorem pe_byOwn {P : Program} {a : Addr} {oe : Obj} {cls : Value} {d : Option Addr} {pn : List (Addr × Obj)} {e : Expr} {te : TE} {pos : Pos} (O : OwnC P X.K X.mg T C fI B newId bmB) (hz : Zc cls d oe) (hf : ∃ vs, oe.data = .fields vs) (he : PE (X.suite a ((a, oe) :: pn)) e te)
    (hb : attributeBase e T.fld X.env (eval e X.env) = eval e X.env := by rfl) :
    PE (X.suite a ((a, oe) :: pn)) (.Attribute e T.fld pos) (tByOwn C T.fld a cls d te) := by
  refine ⟨fun pins s σ H Q I h => ?_⟩
  refine attr_of hb (thn (he.run pins s σ H _ I h) fun u s1 hh => ?_)
  obtain ⟨x, H1, I1, rx, ex, ec, dd, v, ed, ea, q⟩ := hh
  subst ex
  obtain rfl : u = Value.ref a := rx
  subst ec
  subst ed
  obtain ⟨ha, _⟩ := I1.pin (a, oe) (List.mem_append_left _ List.mem_cons_self)
  obtain ⟨vs, hd⟩ := hf
  have hx : ObjOk X.prog X.w H1 s1.heap dd (.xd [(T.fld, v)]) := I1.hok dd _ ea
  obtain ⟨mA, hns, hr⟩ := hx
  obtain ⟨od, ho, hl⟩ := lookIn_ns hns
  have l : List.lookup T.fld [(T.fld, v)] = some v := by simp [List.lookup]
  obtain ⟨u, hu, ru⟩ := RelO.some_of (v := v) (o := mA T.fld) (by rw [← l]; exact hr T.fld)
  have J : PySem.W.InstAt s1.heap a oe C (some od) := ⟨ha, hz.1, by unfold PySem.W.notCls; rw [hd] <;> rfl, by rw [hz.2]; exact ho⟩
  exact HandSPX.exc_get I1.kIn J O.ga O.gg O.exC (PySem.W.findObj_own O.hdC O.noN rfl (by rw [hl, hu])) (handed_of ru) ⟨v, H1, I1.tok _, ru, q⟩
theorem pe_byOwnF {P : Program} {fld : Str} (hfld : T.fld = fld) {a : Addr} {oe : Obj} {cls : Value} {d : Option Addr} {pn : List (Addr × Obj)} {e : Expr} {te : TE} {pos : Pos} (O : OwnC P X.K X.mg T C fI B newId bmB) (hz : Zc cls d oe) (hf : ∃ vs, oe.data = .fields vs) (he : PE (X.suite a ((a, oe) :: pn)) e te)
    (hb : attributeBase e fld X.env (eval e X.env) = eval e X.env := by rfl) :
    PE (X.suite a ((a, oe) :: pn)) (.Attribute e fld pos) (tByOwn C fld a cls d te) := by
  subst hfld
  exact pe_byOwn O hz hf he hb
end
end L2

set_option Elab.async false
set_option linter.all false
set_option maxRecDepth 100000
set_option maxHeartbeats 2000000
/-! the def that calls a lambda in a try with several clauses, and tells by a word what came -/
namespace LamX
open PySem PySem.Spec PyProof.Rows L2
theorem takes_len {X : Cx} {W : WX} (tk : Takes X W) : Takes X (fun cls d σ H => σ.length = X.N.length → W cls d σ H) := fun u s' ⟨a, B, sI, pins, σ, H, cls, d, e, I, nb, up, sky, na, os, ag, w⟩ =>
  tk u s' ⟨a, B, sI, pins, σ, H, cls, d, e, I, nb, up, sky, na, os, ag, w I.len⟩
/-- try: a() except ..: ..; return last -/
def wMet (K : PySem.W.Frag) (n : Nat) (last : Str) (l : List Cls1) (Q : VK) : XK := fun cls d H' => ∀ σ : L2.St, σ.length = n → wManyN K (fun _ _ _ _ => False) { nx := fun _ H'' => Q (.str last) H'', rt := Q } l cls d σ H'
def TMet (K : PySem.W.Frag) (n : Nat) (last : Str) (l : List Cls1) : (XK → Hp → VK → Prop) → Hp → VK → Prop := fun tl H Q => tl (wMet K n last l Q) H (fun _ H' => Q (.str last) H')
theorem met_gives {X : Cx} {Ng : List Str} {x a q last : Str} {sg : Scope} {g : Addr} {cdg : Value} {j : Nat} {p1 p2 p3 p5 p6 p8 : Pos} {h₀ : ExceptHandler} {hds : List ExceptHandler} {l : List Cls1}
    (hh : ∀ (s : Shared) (H : Hp), HdsN (cxOf C8.CX0 X.prog X.w X.K X.mg X.base Ng x sg g cdg X.A X.stack s H C8.E0).nox (h₀ :: hds) l) (h0 : ∀ f : Addr, (L2.start Ng [V.ref f])[0]? = some (some (V.ref f))) :
    GivesTo X Ng x sg g cdg [.Try [.Expr (.Call (.Name a p1) [] [] p2) p3] (h₀ :: hds) [] [] p8, .Return (some (.Constant (.str last) j p5)) p6] a q (TMet X.K Ng.length last l) := by
  intro f c' s H Q tl act hc h
  refine ⟨_, pss_cons (ps_try_manyN (X := (cxOf C8.CX0 X.prog X.w X.K X.mg X.base Ng x sg g cdg X.A X.stack s H C8.E0).nox)
      (tb := fun W D σ H => ∃ Ech : XK, (∀ cls d σ' H', σ'.length = Ng.length → Ech cls d H' → W cls d σ' H') ∧ σ[0]? = some (some (.ref f)) ∧ H c' = some (CodeO c' q) ∧ tl Ech H (fun _ H' => D.nx σ H'))
      (Wout := fun _ _ _ _ => False) rfl rfl takes0 (fun W pn xe tk _ => ?_) (hh s H)) (pss_one (ps_ret pe_str)), ?_⟩
  · refine ⟨fun pins s' σ H' D I h' => ?_⟩
    obtain ⟨Ech, hW, h1, h2, h3⟩ := h'
    have hp := act _ pn xe Ech p1 p2 (takes_len tk) (fun cls d σ' H' hE hl => hW cls d σ' H' hl hE)
    have hq := pss_one (ps_expr (pos := p3) hp)
    exact hq.run pins s' σ H' D I ⟨h1, h2, h3⟩
  · exact ⟨wMet X.K Ng.length last l Q, fun cls d σ' H' hl h' => h' σ' hl, h0 f, hc, h⟩
end LamX

set_option Elab.async false
set_option linter.all false
set_option maxRecDepth 100000
set_option maxHeartbeats 2000000
namespace PySem
namespace EBX
open PySem.W PySem.Calls PyProof.Rows PySem.HandSPX
/-- the text of an __init__, by its statement -/
def txOf (qual par fld : Str) (params : Arguments) (scope : Scope) : List Stmt → Tx
  | [.Expr (.Call (.Attribute (.Call (.Name _ p0) [] [] p1) _ p2) [msg] [] p3) p4, .Assign [.Attribute (.Name _ p5) _ p6] (.Name _ p7) p8] => { qual, par, fld, msg, params, scope, p0, p1, p2, p3, p4, p5, p6, p7, p8 }
  | _ => { qual, par, fld, msg := .Constant .none 0 ⟨0, 0, 0, 0⟩, params, scope, p0 := ⟨0, 0, 0, 0⟩, p1 := ⟨0, 0, 0, 0⟩, p2 := ⟨0, 0, 0, 0⟩, p3 := ⟨0, 0, 0, 0⟩, p4 := ⟨0, 0, 0, 0⟩, p5 := ⟨0, 0, 0, 0⟩, p6 := ⟨0, 0, 0, 0⟩, p7 := ⟨0, 0, 0, 0⟩, p8 := ⟨0, 0, 0, 0⟩ }
theorem msg_const {T : Tx} {m : Str} {j : Nat} {p : Pos} (h : T.msg = .Constant (.str m) j p) : MsgOk T (fun _ => True) := fun prog w A E env s mm v Q he hn hm _ q => by
  rw [h]
  exact Calls.Constant_str (q _ _)
def isNum (v : Value) : Prop := ∃ (n : Int) (t : Tok), v = .int n t ∧ n.natAbs.log2 < 1920
theorem msg_num {T : Tx} {m : Str} {j : Nat} {p q r r2 : Pos} (h : T.msg = .JoinedStr [.Constant (.str m) j p, .FormattedValue (.Name T.par q) (-1) none r] r2) (hk : T.scope.kind = .function) (hl : T.scope.names.lookup T.par = some .local) (hd : (T.par == ("__debug__" : Str)) = false) (hm0 : m.length ≤ 1000) : MsgOk T isNum :=
  fun prog w A E env s mm v Q he hn hm ⟨n, t, hv, hz⟩ qq => by
  rw [h]
  subst hv
  refine wpAny_JoinedStr ?_
  have e0 : evalEach [.Constant (.str m) j p, .FormattedValue (.Name T.par q) (-1) none r] env = [eval (.Constant (.str m) j p) env, eval (.FormattedValue (.Name T.par q) (-1) none r) env] := by first | rfl | simp [evalEach]
  rw [e0]
  have ht := int_text_fits hz
  refine Calls.Constant_str ⟨m, _, rfl, ?_, ?_⟩
  · show (#[] ++ m.cps).size ≤ sizeLine
    have : (#[] ++ m.cps).size = m.length := by rw [Array.size_append]; exact Nat.zero_add _
    rw [this]
    exact Nat.le_trans hm0 (by rw [sizeLine_eq]; decide)
  · refine wpAny_FormattedValue_plain ?_
    refine wpAny_Name (wpAny_loadName_local (env := env) (m := mm) (by rw [he]; exact hk) (by show env.scope.names.lookup T.par = _; rw [he]; exact hl) hn hm ?_) hd
    have hl2 : ((Str.empty ++ m) ++ Str.ofString (toString n)).length ≤ sizeLine := by
      have e1 := int_text_length_le (k := 1920) (by decide) hz
      have e2 : (Str.ofString (toString n)).length ≤ 1921 := by rw [ofString_length]; exact e1
      have e3 : ((Str.empty ++ m) ++ Str.ofString (toString n)).length = m.length + (Str.ofString (toString n)).length := by
        show ((#[] ++ m.cps) ++ (Str.ofString (toString n)).cps).size = _
        rw [Array.size_append, Array.size_append]
        show 0 + _ + _ = _
        rw [Nat.zero_add]
        rfl
      rw [e3, sizeLine_eq]
      omega
    exact wpAny_formatField_int hz ⟨_, _, rfl, hl2, hl2, qq _ _⟩
/-- a class of errors without own __init__, over ValueError -/
structure ExP (K : Frag) (mg : Str → Option Value) (x : Str) (C : Addr) : Prop where
  g : mg x = some (.ref C)
  x : excIn K C [.type "ValueError", .type "Exception", .type "BaseException", .type "object"] "ValueError.__new__" = true
  k : keepIn K (.ref C) = true
  b : subIn K (.ref C) (.type "BaseException") = some true
  t : typeIn K (.ref C) = some (.type "type")
end EBX
end PySem

set_option Elab.async false
set_option linter.all false
set_option maxRecDepth 100000
set_option maxHeartbeats 6400000
namespace K4
open PySem L2 Tx Tg Tm PySem.EBX
/-! ### errors: the classes -/
abbrev sIsPrime : Stmt := top 24
abbrev sCPrime : Stmt := top 31
abbrev sCSome : Stmt := top 32
abbrev sFree : Stmt := top 64
abbrev sHowMany : Stmt := top 66
abbrev sMet : Stmt := top 73
abbrev sNumInit : Stmt := (clsBody (top 10)).getD 0 (.Pass ⟨0, 0, 0, 0⟩)
abbrev sManyInit : Stmt := (clsBody (top 11)).getD 0 (.Pass ⟨0, 0, 0, 0⟩)
def txNum : Tx := txOf "InvalidNumber.__init__" "value" "value" (defArgs sNumInit) (defScope sNumInit) (defBody sNumInit)
def txMany : Tx := txOf "TooMany.__init__" "limit" "limit" (defArgs sManyInit) (defScope sManyInit) (defBody sManyInit)
theorem tx_num : TxOk txNum := { ev := fun L f cd cc => ⟨_, rfl⟩, star := fun _ _ _ _ => rfl, int := fun _ _ _ _ => rfl, sw1 := fun _ _ _ _ => rfl, sw2 := fun _ _ _ _ => rfl, self := rfl, par := rfl, sup := rfl, cls := rfl, noc := by decide +kernel, co := rfl, gen := rfl, kind := rfl, head := rfl, bind := fun _ _ _ _ _ _ _ _ _ => .of_eq rfl, ne := by decide +kernel, dbg := by decide +kernel }
theorem tx_many : TxOk txMany := { ev := fun L f cd cc => ⟨_, rfl⟩, star := fun _ _ _ _ => rfl, int := fun _ _ _ _ => rfl, sw1 := fun _ _ _ _ => rfl, sw2 := fun _ _ _ _ => rfl, self := rfl, par := rfl, sup := rfl, cls := rfl, noc := by decide +kernel, co := rfl, gen := rfl, kind := rfl, head := rfl, bind := fun _ _ _ _ _ _ _ _ _ => .of_eq rfl, ne := by decide +kernel, dbg := by decide +kernel }
theorem ms_num : MsgOk txNum (fun _ => True) := msg_const (T := txNum) rfl
theorem ms_many : MsgOk txMany isNum := msg_num (T := txMany) (m := "the limit is ") rfl rfl rfl (by decide +kernel) (by decide +kernel)
/-- the five classes -/
structure Er (P : Program) (K : PySem.W.Frag) (mg : Str → Option Value) (CL CP CO CN CT fN fT : Addr) : Prop where
  L : ExP K mg "InvalidLetters" CL
  Pt : ExP K mg "InvalidPattern" CP
  O : ExP K mg "InvalidOperation" CO
  N : OwnC P K mg txNum CN fN "IndexError" "IndexError.__new__" bmIndex
  gN : mg "InvalidNumber" = some (.ref CN)
  M : OwnC P K mg txMany CT fT "OverflowError" "OverflowError.__new__" bmOver
  gM : mg "TooMany" = some (.ref CT)
def LetOr (d : PyData) : Prop := letters d = false ∨ ∃ sg, d = .str sg ∧ Signs sg
theorem LetOr.of {sg : Str} (h : Signs sg) : LetOr (.str sg) := .inr ⟨sg, rfl, h⟩
def EV (E : XK) (C : Addr) (fld : Str) (v : V) (H : Hp) : Prop := ∀ dx, H dx = none → E (.ref C) (some dx) (upd H dx (.xd [(fld, v)]))
section
variable {P : Program} {w : World} {K : PySem.W.Frag} {mg : Str → Option Value} {base : Heap} {CL CP CO CN CT fN fT fI fH fL fC fP : Addr} {dI dH dL dC dP : FuncData}
def spCheckX (C : Addr) : Sp := fun vs H Q E => ∃ (v : V) (d : PyData), vs = [v] ∧ Val H v d ∧ Ok d ∧ ∀ H', Same H H' → if letters d = true then Q .non H' else E (.ref C) none H'
theorem ok_checkX {f fH fL : Addr} {fd fdH fdL : FuncData} (F : Fun K "check_letters" "check_letters" sCheck f fd) (T : Txt K mg) (X : Er P K mg CL CP CO CN CT fN fT) (DH : Df K mg "has_only" sHas ["value", "signs", "most"] fH fdH) (DL : Df K mg "is_letters" sLetters ["value"] fL fdL) :
    FnOk P w K mg base (L2.CX P w) 3 f fd ["value"] (spCheckX CL) := by
  have GL := ok_letters (P := P) (w := w) (base := base) DL.F T DH
  refine F.okX scCheck (fun vs H Q E h => ?_) (fun cdv A outer s H vs Q E hr h => ?_)
  · obtain ⟨v, d, rfl, _⟩ := h
    rfl
  · obtain ⟨v, d, rfl, hv, hd, q⟩ := h
    refine ⟨_, (pss_one (ps_if (pt_not (pt_val (pe_call GL (hr.mono (by decide)) (by rfl) DL.m DL.F.kp DL.b .nil pass0 (pa_cons (pv 0) pa_nil)))) (pss_one (ps_raise rfl (takes_of rfl rfl rfl rfl) (pmk_own PySem.F.excBase_ValueError X.L.x X.L.g X.L.k (raises_own X.L.b X.L.t) (by exact rfl)))) pss_nil)), ?_⟩
    refine ⟨_, rfl, v, d, rfl, hv, hd, fun H1 s1 => ⟨_, rfl, ?_⟩⟩
    have q := q H1 s1
    cases hb : letters d with
    | true =>
      rw [hb] at q
      exact iteF q
    | false =>
      rw [hb] at q
      exact iteT q
def spPatX (C : Addr) : Sp := fun vs H Q E => ∃ (v u : V) (d e : PyData), vs = [v, u] ∧ Val H v d ∧ Ok d ∧ Val H u e ∧ Ok e ∧ LetOr d ∧ ∀ H', Same H H' → (letters d = false → E (.ref C) none H') ∧ ∀ sg, d = .str sg → Signs sg → Q (.bl (has sg 400 e)) H'
theorem ok_patX {f : Addr} {fd : FuncData} (F : Fun K "is_pattern" "is_pattern" sPattern f fd) (T : Txt K mg) (X : Er P K mg CL CP CO CN CT fN fT) (G : Low K mg fI fH fL fC fP dI dH dL dC dP) : FnOk P w K mg base (L2.CX P w) 4 f fd ["letters", "value"] (spPatX CL) := by
  have GC := ok_checkX (P := P) (w := w) (base := base) G.DC.F T X G.DH G.DL
  have GH := ok_has (P := P) (w := w) (base := base) G.DH.F T
  refine F.okX scPatV (fun vs H Q E h => ?_) (fun cdv A outer s H vs Q E hr h => ?_)
  · obtain ⟨v, u, d, e, rfl, _⟩ := h
    rfl
  · obtain ⟨v, u, d, e, rfl, hv, hd, hu, he, hl, q⟩ := h
    obtain ⟨tn, gP⟩ := T.mPat
    refine ⟨_, (pss_cons (ps_expr (pe_call GC hr (by rfl) G.DC.m G.DC.F.kp G.DC.b .nil (passes_call (takes_of rfl rfl rfl rfl) fun _ _ _ _ h => h) (pa_cons (pv 0) pa_nil)))
    (pss_one (ps_ret (pe_call GH (hr.mono (by decide)) (by rfl) G.DH.m G.DH.F.kp G.DH.b .nil pass0 (pa_cons (pv 1) (pa_cons (pv 0) (pa_cons (pe_glob (v := .int 400) (by rfl) gP ⟨_, rfl⟩) pa_nil))))))), ?_⟩
    refine ⟨_, rfl, v, d, rfl, hv, hd, fun H1 s1 => ?_⟩
    obtain ⟨q1, q2⟩ := q H1 s1
    rcases hl with hl | ⟨sg, rfl, hsg⟩
    · rw [hl, if_neg Bool.false_ne_true]
      exact q1 hl
    · rw [signs_letters hsg, if_pos rfl]
      cases hv
      exact ⟨_, rfl, _, rfl, u, e, sg, 400, rfl, hu.same s1, he, q2 sg rfl hsg⟩
def spCPX (CL CP : Addr) : Sp := fun vs H Q E => ∃ (v u : V) (d e : PyData), vs = [v, u] ∧ Val H v d ∧ Ok d ∧ Val H u e ∧ Ok e ∧ LetOr d ∧ ∀ H', Same H H' → (letters d = false → E (.ref CL) none H') ∧ ∀ sg, d = .str sg → Signs sg → if has sg 400 e = true then Q .non H' else E (.ref CP) none H'
theorem ok_cpX {f : Addr} {fd : FuncData} (F : Fun K "check_pattern" "check_pattern" sCPattern f fd) (T : Txt K mg) (X : Er P K mg CL CP CO CN CT fN fT) (G : Low K mg fI fH fL fC fP dI dH dL dC dP) : FnOk P w K mg base (L2.CX P w) 5 f fd ["letters", "value"] (spCPX CL CP) := by
  have GP := ok_patX (P := P) (w := w) (base := base) G.DP.F T X G
  refine F.okX scCTP (fun vs H Q E h => ?_) (fun cdv A outer s H vs Q E hr h => ?_)
  · obtain ⟨v, u, d, e, rfl, _⟩ := h
    rfl
  · obtain ⟨v, u, d, e, rfl, hv, hd, hu, he, hl, q⟩ := h
    refine ⟨_, (pss_one (ps_if (pt_not (pt_val (pe_call GP hr (by rfl) G.DP.m G.DP.F.kp G.DP.b .nil (passes_call (takes_of rfl rfl rfl rfl) fun _ _ _ _ h => h) (pa_cons (pv 0) (pa_cons (pv 1) pa_nil))))) (pss_one (ps_raise rfl (takes_of rfl rfl rfl rfl) (SkE.pmk_own1 PySem.F.excBase_ValueError X.Pt.x X.Pt.g X.Pt.k (raises_own X.Pt.b X.Pt.t) (by exact rfl) (pe_joined (.cons pe_str (.cons (pe_fmt (pv 0)) .nil)))))) pss_nil)), ?_⟩
    refine ⟨_, rfl, _, rfl, v, u, d, e, rfl, hv, hd, hu, he, hl, fun H1 s1 => ⟨(q H1 s1).1, fun sg hds hsg => ⟨_, rfl, ?_⟩⟩⟩
    have q5 := (q H1 s1).2 sg hds hsg
    subst hds
    cases hv
    cases hb : has sg 400 e with
    | true =>
      rw [hb] at q5
      exact iteF q5
    | false =>
      rw [hb] at q5
      refine iteT ?_
      have l3 : sg.length ≤ 3 := (sg_len hsg).2
      refine ⟨_, rfl, ?_, _, rfl, .inl ⟨sg, rfl, Nat.le_trans l3 (by decide), _, rfl, ?_, q5⟩⟩
      · decide +kernel
      · rw [str_len]
        exact Nat.le_trans (Nat.add_le_add (show _ ≤ 100 from by decide +kernel) l3) (by decide)
/-- an integer, or none -/
def spCBX (CN : Addr) : Sp := fun vs H Q E => ∃ (v : V) (d : PyData) (a b : Int), vs = [v, .int a, .int b] ∧ Val H v d ∧ ∀ H', Same H H' → (∀ n, v = .int n → isInt d = true → a ≤ n → n ≤ b → Q .non H') ∧ ((isInt d = false ∨ ∃ n, v = .int n ∧ (n < a ∨ b < n)) → EV E CN "value" v H')
theorem ok_cbX {f fI : Addr} {fd fdI : FuncData} (F : Fun K "check_between" "check_between" sCBetween f fd) (T : Txt K mg) (X : Er P K mg CL CP CO CN CT fN fT) (DI : Df K mg "is_integer" sInt ["value"] fI fdI) : FnOk P w K mg base (L2.CX P w) 2 f fd ["value", "least", "most"] (spCBX CN) := by
  have GI := ok_int (P := P) (w := w) (base := base) DI.F T
  refine F.okX scBetween (fun vs H Q E h => ?_) (fun cdv A outer s H vs Q E hr h => ?_)
  · obtain ⟨v, d, a, b, rfl, _⟩ := h
    rfl
  · obtain ⟨v, d, a, b, rfl, hv, q⟩ := h
    refine ⟨_, (pss_one (ps_if (PW.pt (pw_or (pt_not (pt_val (pe_call GI (hr.mono (by decide)) (by rfl) DI.m DI.F.kp DI.b .nil pass0 (pa_cons (pv 0) pa_nil)))) (pw_or (pt_cmpR op_lt (pv 0) (pv 1) (nomark _)) (pw_or1 (pt_cmpR op_gt (pv 0) (pv 2) (nomark _)))))) (pss_one (ps_raise rfl (takes_of rfl rfl rfl rfl) (pmk_ownI (okV := fun _ => True) b_IndexError tx_num ms_num X.N (fun _ _ _ _ => trivial) X.gN hr (pa_cons (pv 0) pa_nil) (by exact rfl)))) pss_nil)), ?_⟩
    refine ⟨_, rfl, v, d, rfl, hv, ⟨_, rfl, ?_⟩⟩
    obtain ⟨q1, q2⟩ := q H (Same.refl H)
    cases hb : isInt d with
    | false => exact iteT ⟨_, rfl, v, rfl, trivial, q2 (.inl hb)⟩
    | true =>
      cases hv with
      | int n =>
        refine iteF ⟨_, rfl, _, rfl, _, _, rfl, rfl, _, rfl, ?_⟩
        by_cases h1 : n < a
        · rw [decide_eq_true h1]
          exact iteT ⟨_, rfl, _, rfl, trivial, q2 (.inr ⟨n, rfl, .inl h1⟩)⟩
        · rw [decide_eq_false h1]
          refine iteF ⟨_, rfl, _, rfl, _, _, rfl, rfl, _, rfl, ?_⟩
          by_cases h2 : b < n
          · rw [decide_eq_true h2]
            exact iteT ⟨_, rfl, _, rfl, trivial, q2 (.inr ⟨n, rfl, .inr h2⟩)⟩
          · rw [decide_eq_false h2]
            exact iteF (q1 n rfl hb (by omega) (by omega))
      | _ => cases hb
def spIsPrime : Sp := fun vs H Q _ => ∃ (v : V) (d : PyData), vs = [v] ∧ Val H v d ∧ Q (.bl (prime d)) H
theorem scIsPrime : FnScope ["value"] ["value"] (defScope sIsPrime) := ⟨rfl, rfl, rfl, by decide +kernel, rfl, by decide +kernel, by decide +kernel⟩
theorem in_primes (n : Int) : inV (.int n) [.int 2, .int 3, .int 5, .int 7] = prime (.int n) := by
  show _ = decide (n = 2 ∨ n = 3 ∨ n = 5 ∨ n = 7)
  have e : inV (.int n) [.int 2, .int 3, .int 5, .int 7] = ((2 : Int) == n || ((3 : Int) == n || ((5 : Int) == n || ((7 : Int) == n || false)))) := rfl
  rw [e, Bool.eq_iff_iff]
  simp only [Bool.or_eq_true, beq_iff_eq, decide_eq_true_eq, Bool.false_eq_true, or_false]
  omega
theorem ok_isprime {f fI : Addr} {fd fdI : FuncData} (F : Fun K "is_prime" "is_prime" sIsPrime f fd) (T : Txt K mg) (hP : ∃ p, mg "PRIMES" = some (.ref p) ∧ ∀ H, SqT K H p [.int 2, .int 3, .int 5, .int 7]) (DI : Df K mg "is_integer" sInt ["value"] fI fdI) :
    FnOk P w K mg base CX0 2 f fd ["value"] spIsPrime := by
  have GI := ok_int (P := P) (w := w) (base := base) DI.F T
  refine F.ok scIsPrime (fun vs H Q E h => ?_) (fun cdv A outer s H vs Q E hr h => ?_)
  · obtain ⟨v, d, rfl, _⟩ := h
    rfl
  · obtain ⟨v, d, rfl, hv, q⟩ := h
    obtain ⟨pp, hp, hs⟩ := hP
    refine ⟨_, pss_one (ps_ret (pe_and (pe_call GI hr (by rfl) DI.m DI.F.kp DI.b .nil pass0 (pa_cons (pv 0) pa_nil))
      (pe_one (pe_cmpR op_in_seq (pv 0) (pe_glob (v := .ref pp) rfl hp rfl) (by rfl))))), ?_⟩
    refine ⟨_, rfl, v, d, rfl, hv, _, rfl, ?_⟩
    cases hv with
    | int n =>
      by_cases hb : isInt (.int n) = true
      · rw [hb]
        refine iteT ⟨_, rfl, pp, _, rfl, .inr (hs _), rfl, rfl, ?_⟩
        have e := in_primes n
        show Q (.bl (if false = true then _ else inV (.int n) _)) H
        rw [if_neg Bool.false_ne_true, e]
        exact q
      · have hb' : isInt (.int n) = false := by simpa using hb
        rw [hb']
        refine iteF ?_
        have e : prime (.int n) = false := by
          refine decide_eq_false fun z => hb (decide_eq_true ?_)
          have h7 : (7 : Nat) < 10 ^ 200 := by decide +kernel
          generalize (10 ^ 200 : Nat) = M at h7 ⊢
          omega
        rw [e] at q
        exact q
    | _ => exact iteF q
/-- no prime is refused -/
def spNoPrime (CN : Addr) : Sp := fun vs H _ E => ∃ (v : V) (d : PyData), vs = [v] ∧ Val H v d ∧ prime d = false ∧ v ≠ .non ∧ EV E CN "value" v H
theorem scCPrime : FnScope ["value"] ["value"] (defScope sCPrime) := ⟨rfl, rfl, rfl, by decide +kernel, rfl, by decide +kernel, by decide +kernel⟩
theorem scCSome : FnScope ["value"] ["value"] (defScope sCSome) := ⟨rfl, rfl, rfl, by decide +kernel, rfl, by decide +kernel, by decide +kernel⟩
theorem ok_noprime {f fI f1 : Addr} {fd fdI d1 : FuncData} (F : Fun K "check_prime" "check_prime" sCPrime f fd) (T : Txt K mg) (X : Er P K mg CL CP CO CN CT fN fT) (hP : ∃ p, mg "PRIMES" = some (.ref p) ∧ ∀ H, SqT K H p [.int 2, .int 3, .int 5, .int 7]) (DI : Df K mg "is_integer" sInt ["value"] fI fdI) (D1 : Df K mg "is_prime" sIsPrime ["value"] f1 d1) :
    FnOk P w K mg base (L2.CX P w) 3 f fd ["value"] (spNoPrime CN) := by
  have G1 := ok_isprime (P := P) (w := w) (base := base) D1.F T hP DI
  refine F.okX scCPrime (fun vs H Q E h => ?_) (fun cdv A outer s H vs Q E hr h => ?_)
  · obtain ⟨v, d, rfl, _⟩ := h
    rfl
  · obtain ⟨v, d, rfl, hv, hp, _, q⟩ := h
    refine ⟨_, (pss_one (ps_if (pt_not (pt_val (pe_call G1 (hr.mono (by decide)) (by rfl) D1.m D1.F.kp D1.b .nil pass0 (pa_cons (pv 0) pa_nil)))) (pss_one (ps_raise rfl (takes_of rfl rfl rfl rfl) (pmk_ownI (okV := fun _ => True) b_IndexError tx_num ms_num X.N (fun _ _ _ _ => trivial) X.gN hr (pa_cons (pv 0) pa_nil) (by exact rfl)))) pss_nil)), ?_⟩
    refine ⟨_, rfl, v, d, rfl, hv, ⟨_, rfl, ?_⟩⟩
    rw [hp]
    exact iteT ⟨_, rfl, v, rfl, trivial, q⟩
theorem ok_nosome {f fI f1 f2 : Addr} {fd fdI d1 d2 : FuncData} (F : Fun K "check_some_prime" "check_some_prime" sCSome f fd) (T : Txt K mg) (X : Er P K mg CL CP CO CN CT fN fT) (hP : ∃ p, mg "PRIMES" = some (.ref p) ∧ ∀ H, SqT K H p [.int 2, .int 3, .int 5, .int 7]) (DI : Df K mg "is_integer" sInt ["value"] fI fdI) (D1 : Df K mg "is_prime" sIsPrime ["value"] f1 d1) (D2 : Df K mg "check_prime" sCPrime ["value"] f2 d2) :
    FnOk P w K mg base (L2.CX P w) 4 f fd ["value"] (spNoPrime CN) := by
  have G2 := ok_noprime (P := P) (w := w) (base := base) D2.F T X hP DI D1
  refine F.okX scCSome (fun vs H Q E h => ?_) (fun cdv A outer s H vs Q E hr h => ?_)
  · obtain ⟨v, d, rfl, _⟩ := h
    rfl
  · obtain ⟨v, d, rfl, hv, hp, hn, q⟩ := h
    refine ⟨_, (pss_one (ps_if (pt_cmpR op_notN (pv 0) pe_non (nomark _)) (pss_one (ps_expr (pe_call G2 hr (by rfl) D2.m D2.F.kp D2.b .nil (passes_call (takes_of rfl rfl rfl rfl) fun _ _ _ _ h => h) (pa_cons (pv 0) pa_nil)))) pss_nil)), ?_⟩
    refine ⟨_, rfl, rfl, _, rfl, ?_⟩
    rw [decide_eq_false hn]
    exact iteT ⟨_, rfl, v, d, rfl, hv, hp, hn, q⟩
/-- check_leading -/
def spCLX (CL CP CO : Addr) : Sp := fun vs H Q E => ∃ (v u : V) (d e : PyData), vs = [v, u] ∧ Val H v d ∧ Ok d ∧ Val H u e ∧ Ok e ∧ LetOr d ∧ ∀ H', Same H H' → (letters d = false → E (.ref CL) none H') ∧
  ∀ sg, d = .str sg → Signs sg → if has sg 400 e = true then (if isLd sg e = true then Q .non H' else E (.ref CO) none H') else E (.ref CP) none H'
theorem ok_clX {f fA fE f1 : Addr} {fd dA dE d1 : FuncData} (F : Fun K "check_leading" "check_leading" sCLead f fd) (T : Txt K mg) (X : Er P K mg CL CP CO CN CT fN fT) (G : Low K mg fI fH fL fC fP dI dH dL dC dP) (DC : Df K mg "check_pattern" sCPattern ["letters", "value"] fA dA) (DE : Df K mg "is_least_end" sLeast ["pattern"] fE dE) (DI : Df K mg "is_leading" sIsLead ["letters", "value"] f1 d1) :
    FnOk P w K mg base (L2.CX P w) 6 f fd ["letters", "pattern"] (spCLX CL CP CO) := by
  have GC := ok_cpX (P := P) (w := w) (base := base) DC.F T X G
  have GI := ok_lead (P := P) (w := w) (base := base) DI.F T G DE
  refine F.okX scCLead (fun vs H Q E h => ?_) (fun cdv A outer s H vs Q E hr h => ?_)
  · obtain ⟨v, u, d, e, rfl, _⟩ := h
    rfl
  · obtain ⟨v, u, d, e, rfl, hv, hd, hu, he, hl, q⟩ := h
    refine ⟨_, (pss_cons (ps_expr (pe_call GC (hr.mono (by decide)) (by rfl) DC.m DC.F.kp DC.b .nil (passes_call (takes_of rfl rfl rfl rfl) fun _ _ _ _ h => h) (pa_cons (pv 0) (pa_cons (pv 1) pa_nil))))
    (pss_one (ps_if (pt_not (pt_val (pe_call GI (hr.mono (by decide)) (by rfl) DI.m DI.F.kp DI.b .nil pass0 (pa_cons (pv 0) (pa_cons (pv 1) pa_nil))))) (pss_one (ps_raise rfl (takes_of rfl rfl rfl rfl) (pmk_own PySem.F.excBase_ValueError X.O.x X.O.g X.O.k (raises_own X.O.b X.O.t) (by exact rfl)))) pss_nil))), ?_⟩
    refine ⟨_, rfl, _, rfl, v, u, d, e, rfl, hv, hd, hu, he, hl, fun H1 s1 => ⟨(q H1 s1).1, fun sg hds hsg => ?_⟩⟩
    have q2 := fun H2 (s2 : Same H1 H2) => (q H2 (s1.trans s2)).2 sg hds hsg
    cases hb : has sg 400 e with
    | false =>
      have q3 := q2 H1 (Same.refl H1)
      rw [hb, if_neg Bool.false_ne_true] at q3
      rw [if_neg Bool.false_ne_true]
      exact q3
    | true =>
      rw [if_pos rfl]
      subst hds
      cases hv
      refine ⟨_, rfl, _, rfl, sg, u, e, rfl, hsg, hu.same s1, he, fun H2 s2 => ⟨_, rfl, ?_⟩⟩
      have q3 := q2 H2 s2
      rw [hb, if_pos rfl] at q3
      cases hc : isLd sg e with
      | true =>
        rw [hc, if_pos rfl] at q3
        exact iteF q3
      | false =>
        rw [hc, if_neg Bool.false_ne_true] at q3
        exact iteT q3
/-- what is no pattern, or none of the letters, is refused -/
def spNoPat (CL CP : Addr) : Sp := fun vs H _ E => ∃ (v u : V) (d e : PyData), vs = [v, u] ∧ Val H v d ∧ Ok d ∧ Val H u e ∧ Ok e ∧ LetOr d ∧ (∀ sg, d = .str sg → Signs sg → has sg 400 e = false) ∧ ∀ H', Same H H' → (letters d = false → E (.ref CL) none H') ∧ (letters d = true → E (.ref CP) none H')
theorem ok_facX {f fA : Addr} {fd dA : FuncData} (F : Fun K "factors" "factors" sFac f fd) (T : Txt K mg) (X : Er P K mg CL CP CO CN CT fN fT) (G : Low K mg fI fH fL fC fP dI dH dL dC dP) (DC : Df K mg "check_pattern" sCPattern ["letters", "value"] fA dA) :
    FnOk P w K mg base (L2.CX P w) 6 f fd ["letters", "pattern"] (spNoPat CL CP) := by
  have GC := ok_cpX (P := P) (w := w) (base := base) DC.F T X G
  refine F.okX scFac (fun vs H Q E h => ?_) (fun cdv A outer s H vs Q E hr h => ?_)
  · obtain ⟨v, u, d, e, rfl, _⟩ := h
    rfl
  · obtain ⟨v, u, d, e, rfl, hv, hd, hu, he, hl, hn, q⟩ := h
    refine ⟨_, (pss_cons (ps_expr (pe_call GC hr (by rfl) DC.m DC.F.kp DC.b .nil (passes_call (takes_of rfl rfl rfl rfl) fun _ _ _ _ h => h) (pa_cons (pv 0) (pa_cons (pv 1) pa_nil)))) pss_dead), ?_⟩
    refine ⟨_, rfl, _, rfl, v, u, d, e, rfl, hv, hd, hu, he, hl, fun H1 s1 => ⟨(q H1 s1).1, fun sg hds hsg => ?_⟩⟩
    rw [hn sg hds hsg, if_neg Bool.false_ne_true]
    exact (q H1 s1).2 (by rw [hds]; exact signs_letters hsg)
theorem ok_leadX {f : Addr} {fd : FuncData} (F : Fun K "is_leading" "is_leading" sIsLead f fd) (T : Txt K mg) (X : Er P K mg CL CP CO CN CT fN fT) (G : Low K mg fI fH fL fC fP dI dH dL dC dP) :
    FnOk P w K mg base (L2.CX P w) 5 f fd ["letters", "value"] (fun vs H _ E => ∃ (v u : V) (d e : PyData), vs = [v, u] ∧ Val H v d ∧ Ok d ∧ Val H u e ∧ Ok e ∧ letters d = false ∧ ∀ H', Same H H' → E (.ref CL) none H') := by
  have GP := ok_patX (P := P) (w := w) (base := base) G.DP.F T X G
  refine F.okX scLead (fun vs H Q E h => ?_) (fun cdv A outer s H vs Q E hr h => ?_)
  · obtain ⟨v, u, d, e, rfl, _⟩ := h
    rfl
  · obtain ⟨v, u, d, e, rfl, hv, hd, hu, he, hl, q⟩ := h
    refine ⟨_, (pss_one (ps_ret (pe_and (pe_call GP hr (by rfl) G.DP.m G.DP.F.kp G.DP.b .nil (passes_call (takes_of rfl rfl rfl rfl) fun _ _ _ _ h => h) (pa_cons (pv 0) (pa_cons (pv 1) pa_nil))) pe_dead))), ?_⟩
    exact ⟨_, rfl, _, rfl, v, u, d, e, rfl, hv, hd, hu, he, .inl hl, fun H1 s1 => ⟨fun _ => q H1 s1, fun sg hds hsg => by
      rw [hds, signs_letters hsg] at hl
      cases hl⟩⟩
end
end K4

set_option Elab.async false
set_option linter.all false
set_option maxRecDepth 100000
set_option maxHeartbeats 6400000
namespace K4
open PySem L2 Tx Tg Tm PySem.EBX
section
variable {P : Program} {w : World} {K : PySem.W.Frag} {mg : Str → Option Value} {base : Heap} {CL CP CO CN CT fN fT fI fH fL fC fP : Addr} {dI dH dL dC dP : FuncData}
/-- halves: what is no leading pattern, or has one letter -/
def spHalX (CL CP CO : Addr) : Sp := fun vs H _ E => ∃ (v u : V) (d e : PyData), vs = [v, u] ∧ Val H v d ∧ Ok d ∧ Val H u e ∧ Ok e ∧ LetOr d ∧ (∀ sg, d = .str sg → Signs sg → isLd sg e = true → ∃ z, u = .str z ∧ z.length = 1) ∧
  ∀ H', Same H H' → (letters d = false → E (.ref CL) none H') ∧ ∀ sg, d = .str sg → Signs sg → if has sg 400 e = true then E (.ref CO) none H' else E (.ref CP) none H'
theorem ok_halX {f fA : Addr} {fd dA : FuncData} (F : Fun K "halves" "halves" sHalv f fd) (T : Txt K mg) (X : Er P K mg CL CP CO CN CT fN fT) (DC : Df K mg "check_leading" sCLead ["letters", "pattern"] fA dA) (GC : FnOk P w K mg base (L2.CX P w) 6 fA dA ["letters", "pattern"] (spCLX CL CP CO)) :
    FnOk P w K mg base (L2.CX P w) 7 f fd ["letters", "pattern"] (spHalX CL CP CO) := by
  refine F.okX scHalv (fun vs H Q E h => ?_) (fun cdv A outer s H vs Q E hr h => ?_)
  · obtain ⟨v, u, d, e, rfl, _⟩ := h
    rfl
  · obtain ⟨v, u, d, e, rfl, hv, hd, hu, he, hl, hn, q⟩ := h
    refine ⟨_, (pss_cons (ps_expr (pe_call GC hr (by rfl) DC.m DC.F.kp DC.b .nil (passes_call (takes_of rfl rfl rfl rfl) fun _ _ _ _ h => h) (pa_cons (pv 0) (pa_cons (pv 1) pa_nil))))
      (pss_cons (ps_if (pt_cmpR op_eq (pe_callB call_len_str (by rfl) T.len PySem.boot_len (pa_cons (pv 1) pa_nil)) pe_int (nomark _)) (pss_one (ps_raise rfl (takes_of rfl rfl rfl rfl) (pmk_own PySem.F.excBase_ValueError X.O.x X.O.g X.O.k (raises_own X.O.b X.O.t) (by exact rfl)))) pss_nil) pss_dead)), ?_⟩
    refine ⟨_, rfl, _, rfl, v, u, d, e, rfl, hv, hd, hu, he, hl, fun H1 s1 => ⟨(q H1 s1).1, fun sg hds hsg => ?_⟩⟩
    have q5 := (q H1 s1).2 sg hds hsg
    cases hb : has sg 400 e with
    | false =>
      rw [hb, if_neg Bool.false_ne_true] at q5
      rw [if_neg Bool.false_ne_true]
      exact q5
    | true =>
      rw [hb, if_pos rfl] at q5
      rw [if_pos rfl]
      cases hc : isLd sg e with
      | false =>
        rw [if_neg Bool.false_ne_true]
        exact q5
      | true =>
        rw [if_pos rfl]
        obtain ⟨z, rfl, hz⟩ := hn sg hds hsg hc
        refine ⟨_, rfl, z, rfl, by rw [hz]; decide, rfl, _, rfl, ?_⟩
        rw [hz]
        exact iteT q5
/-- no leading pattern is refused -/
def spRef (CL CP CO : Addr) : Sp := fun vs H _ E => ∃ (v u : V) (d e : PyData), vs = [v, u] ∧ Val H v d ∧ Ok d ∧ Val H u e ∧ Ok e ∧ LetOr d ∧ (∀ sg, d = .str sg → Signs sg → isLd sg e = false) ∧
  ∀ H', Same H H' → (letters d = false → E (.ref CL) none H') ∧ ∀ sg, d = .str sg → Signs sg → if has sg 400 e = true then E (.ref CO) none H' else E (.ref CP) none H'
theorem ok_boX {f fA : Addr} {fd dA : FuncData} (F : Fun K "bracket_of" "bracket_of" sBO f fd) (T : Txt K mg) (X : Er P K mg CL CP CO CN CT fN fT) (DC : Df K mg "check_leading" sCLead ["letters", "pattern"] fA dA) (GC : FnOk P w K mg base (L2.CX P w) 6 fA dA ["letters", "pattern"] (spCLX CL CP CO)) :
    FnOk P w K mg base (L2.CX P w) 7 f fd ["letters", "pattern"] (spRef CL CP CO) := by
  refine F.okX scBO (fun vs H Q E h => ?_) (fun cdv A outer s H vs Q E hr h => ?_)
  · obtain ⟨v, u, d, e, rfl, _⟩ := h
    rfl
  · obtain ⟨v, u, d, e, rfl, hv, hd, hu, he, hl, hn, q⟩ := h
    refine ⟨_, (pss_cons (ps_expr (pe_call GC hr (by rfl) DC.m DC.F.kp DC.b .nil (passes_call (takes_of rfl rfl rfl rfl) fun _ _ _ _ h => h) (pa_cons (pv 0) (pa_cons (pv 1) pa_nil)))) pss_dead), ?_⟩
    refine ⟨_, rfl, _, rfl, v, u, d, e, rfl, hv, hd, hu, he, hl, fun H1 s1 => ⟨(q H1 s1).1, fun sg hds hsg => ?_⟩⟩
    have q5 := (q H1 s1).2 sg hds hsg
    rw [hn sg hds hsg]
    cases hb : has sg 400 e with
    | false =>
      rw [hb, if_neg Bool.false_ne_true] at q5
      rw [if_neg Bool.false_ne_true]
      exact q5
    | true =>
      rw [hb, if_pos rfl] at q5
      rw [if_pos rfl, if_neg Bool.false_ne_true]
      exact q5
theorem noLd {sg : Str} {e : PyData} (h : has sg 400 e = false) : isLd sg e = false := by
  cases e with
  | str z =>
    show (has sg 400 (.str z) && lawLead z) = false
    rw [h]
    rfl
  | _ => rfl
theorem noPat_ref {CL CP CO : Addr} : ∀ vs H Q E, spNoPat CL CP vs H Q E → spRef CL CP CO vs H Q E := fun vs H Q E ⟨v, u, d, e, e0, hv, hd, hu, he, hl, hn, q⟩ =>
  ⟨v, u, d, e, e0, hv, hd, hu, he, hl, fun sg a b => noLd (hn sg a b), fun H' s => ⟨(q H' s).1, fun sg a b => by
    rw [hn sg a b, if_neg Bool.false_ne_true]
    exact (q H' s).2 (by rw [a]; exact signs_letters b)⟩⟩
theorem ref_hal {CL CP CO : Addr} : ∀ vs H Q E, spRef CL CP CO vs H Q E → spHalX CL CP CO vs H Q E := fun vs H Q E ⟨v, u, d, e, e0, hv, hd, hu, he, hl, hn, q⟩ =>
  ⟨v, u, d, e, e0, hv, hd, hu, he, hl, fun sg a b c => (by rw [hn sg a b] at c; cases c), q⟩
/-- a number out of its range -/
def BadN (u : V) (e : PyData) (a b : Int) : Prop := isInt e = false ∨ ∃ n, u = .int n ∧ (n < a ∨ b < n)
def spNum2 (CL CN : Addr) (a b : Int) : Sp := fun vs H _ E => ∃ (v u : V) (d e : PyData), vs = [v, u] ∧ Val H v d ∧ Ok d ∧ Val H u e ∧ (letters d = true → BadN u e a b) ∧ ∀ H', Same H H' → (letters d = false → E (.ref CL) none H') ∧ (letters d = true → EV E CN "value" u H')
theorem ok_poX {f fB : Addr} {fd dB : FuncData} (F : Fun K "patterns_of" "patterns_of" sPO f fd) (T : Txt K mg) (X : Er P K mg CL CP CO CN CT fN fT) (G : Low K mg fI fH fL fC fP dI dH dL dC dP) (DB : Df K mg "check_between" sCBetween ["value", "least", "most"] fB dB) :
    FnOk P w K mg base (L2.CX P w) 5 f fd ["letters", "depth"] (spNum2 CL CN 1 5) := by
  have GC := ok_checkX (P := P) (w := w) (base := base) G.DC.F T X G.DH G.DL
  have GB := ok_cbX (P := P) (w := w) (base := base) DB.F T X G.DI
  refine F.okX scPO (fun vs H Q E h => ?_) (fun cdv A outer s H vs Q E hr h => ?_)
  · obtain ⟨v, u, d, e, rfl, _⟩ := h
    rfl
  · obtain ⟨v, u, d, e, rfl, hv, hd, hu, hb, q⟩ := h
    obtain ⟨tn, gD⟩ := T.mDep
    refine ⟨_, (pss_cons (ps_expr (pe_call GC (hr.mono (by decide)) (by rfl) G.DC.m G.DC.F.kp G.DC.b .nil (passes_call (takes_of rfl rfl rfl rfl) fun _ _ _ _ h => h) (pa_cons (pv 0) pa_nil)))
      (pss_cons (ps_expr (pe_call GB (hr.mono (by decide)) (by rfl) DB.m DB.F.kp DB.b .nil (passes_call (takes_of rfl rfl rfl rfl) fun _ _ _ _ h => h) (pa_cons (pv 1) (pa_cons pe_int (pa_cons (pe_glob (v := .int 5) (by rfl) gD ⟨_, rfl⟩) pa_nil))))) pss_dead)), ?_⟩
    refine ⟨_, rfl, v, d, rfl, hv, hd, fun H1 s1 => ?_⟩
    obtain ⟨q1, q2⟩ := q H1 s1
    cases hl : letters d with
    | false =>
      rw [if_neg Bool.false_ne_true]
      exact q1 hl
    | true =>
      rw [if_pos rfl]
      refine ⟨_, rfl, u, e, 1, 5, rfl, hu.same s1, fun H2 s2 => ⟨fun n hn hi h1 h5 => ?_, fun _ => (q H2 (s1.trans s2)).2 hl⟩⟩
      rcases hb hl with h | ⟨m, hm, h⟩
      · rw [h] at hi
        cases hi
      · rw [hn] at hm
        cases hm
        omega
theorem scHM : FnScope ["letters", "size", "divisors", "rows", "number"] ["letters", "size"] (defScope sHowMany) := ⟨rfl, rfl, rfl, by decide +kernel, rfl, by decide +kernel, by decide +kernel⟩
theorem ok_hmX {f fB : Addr} {fd dB : FuncData} (F : Fun K "how_many" "how_many" sHowMany f fd) (T : Txt K mg) (X : Er P K mg CL CP CO CN CT fN fT) (G : Low K mg fI fH fL fC fP dI dH dL dC dP) (DB : Df K mg "check_between" sCBetween ["value", "least", "most"] fB dB) :
    FnOk P w K mg base (L2.CX P w) 5 f fd ["letters", "size"] (spNum2 CL CN 1 400) := by
  have GC := ok_checkX (P := P) (w := w) (base := base) G.DC.F T X G.DH G.DL
  have GB := ok_cbX (P := P) (w := w) (base := base) DB.F T X G.DI
  refine F.okX scHM (fun vs H Q E h => ?_) (fun cdv A outer s H vs Q E hr h => ?_)
  · obtain ⟨v, u, d, e, rfl, _⟩ := h
    rfl
  · obtain ⟨v, u, d, e, rfl, hv, hd, hu, hb, q⟩ := h
    obtain ⟨tn, gP⟩ := T.mPat
    refine ⟨_, (pss_cons (ps_expr (pe_call GC (hr.mono (by decide)) (by rfl) G.DC.m G.DC.F.kp G.DC.b .nil (passes_call (takes_of rfl rfl rfl rfl) fun _ _ _ _ h => h) (pa_cons (pv 0) pa_nil)))
      (pss_cons (ps_expr (pe_call GB (hr.mono (by decide)) (by rfl) DB.m DB.F.kp DB.b .nil (passes_call (takes_of rfl rfl rfl rfl) fun _ _ _ _ h => h) (pa_cons (pv 1) (pa_cons pe_int (pa_cons (pe_glob (v := .int 400) (by rfl) gP ⟨_, rfl⟩) pa_nil))))) pss_dead)), ?_⟩
    refine ⟨_, rfl, v, d, rfl, hv, hd, fun H1 s1 => ?_⟩
    obtain ⟨q1, q2⟩ := q H1 s1
    cases hl : letters d with
    | false =>
      rw [if_neg Bool.false_ne_true]
      exact q1 hl
    | true =>
      rw [if_pos rfl]
      refine ⟨_, rfl, u, e, 1, 400, rfl, hu.same s1, fun H2 s2 => ⟨fun n hn hi h1 h5 => ?_, fun _ => (q H2 (s1.trans s2)).2 hl⟩⟩
      rcases hb hl with h | ⟨m, hm, h⟩
      · rw [h] at hi
        cases hi
      · rw [hn] at hm
        cases hm
        omega
theorem scFP : FnScope ["letters", "depth", "prime", "leading", "powers", "pattern", "power"] ["letters", "depth", "prime"] (defScope sFree) := ⟨rfl, rfl, rfl, by decide +kernel, rfl, by decide +kernel, by decide +kernel⟩
/-- free_patterns: letters, then the depth, then the prime -/
def spFPX (CL CN : Addr) : Sp := fun vs H _ E => ∃ (v u k : V) (d e b : PyData), vs = [v, u, k] ∧ Val H v d ∧ Ok d ∧ Val H u e ∧ Val H k b ∧ prime b = false ∧ k ≠ .non ∧ (BadN u e 1 5 ∨ ∃ n, u = .int n ∧ 1 ≤ n ∧ n ≤ 5 ∧ isInt e = true) ∧
  ∀ H', Same H H' → (letters d = false → E (.ref CL) none H') ∧ (letters d = true → BadN u e 1 5 → EV E CN "value" u H') ∧ (letters d = true → ¬ BadN u e 1 5 → EV E CN "value" k H')
theorem ok_fpX {f fB f1 f2 f3 : Addr} {fd dB d1 d2 d3 : FuncData} (F : Fun K "free_patterns" "free_patterns" sFree f fd) (T : Txt K mg) (X : Er P K mg CL CP CO CN CT fN fT) (hP : ∃ p, mg "PRIMES" = some (.ref p) ∧ ∀ H, SqT K H p [.int 2, .int 3, .int 5, .int 7]) (G : Low K mg fI fH fL fC fP dI dH dL dC dP) (DB : Df K mg "check_between" sCBetween ["value", "least", "most"] fB dB)
    (D1 : Df K mg "is_prime" sIsPrime ["value"] f1 d1) (D2 : Df K mg "check_prime" sCPrime ["value"] f2 d2) (D3 : Df K mg "check_some_prime" sCSome ["value"] f3 d3) :
    FnOk P w K mg base (L2.CX P w) 5 f fd ["letters", "depth", "prime"] (spFPX CL CN) := by
  have GC := ok_checkX (P := P) (w := w) (base := base) G.DC.F T X G.DH G.DL
  have GB := ok_cbX (P := P) (w := w) (base := base) DB.F T X G.DI
  have G3 := ok_nosome (P := P) (w := w) (base := base) D3.F T X hP G.DI D1 D2
  refine F.okX scFP (fun vs H Q E h => ?_) (fun cdv A outer s H vs Q E hr h => ?_)
  · obtain ⟨v, u, k, d, e, b, rfl, _⟩ := h
    rfl
  · obtain ⟨v, u, k, d, e, b, rfl, hv, hd, hu, hk, hp, hnn, hb, q⟩ := h
    obtain ⟨tn, gD⟩ := T.mDep
    refine ⟨_, (pss_cons (ps_expr (pe_call GC (hr.mono (by decide)) (by rfl) G.DC.m G.DC.F.kp G.DC.b .nil (passes_call (takes_of rfl rfl rfl rfl) fun _ _ _ _ h => h) (pa_cons (pv 0) pa_nil)))
      (pss_cons (ps_expr (pe_call GB (hr.mono (by decide)) (by rfl) DB.m DB.F.kp DB.b .nil (passes_call (takes_of rfl rfl rfl rfl) fun _ _ _ _ h => h) (pa_cons (pv 1) (pa_cons pe_int (pa_cons (pe_glob (v := .int 5) (by rfl) gD ⟨_, rfl⟩) pa_nil)))))
      (pss_cons (ps_expr (pe_call G3 hr (by rfl) D3.m D3.F.kp D3.b .nil (passes_call (takes_of rfl rfl rfl rfl) fun _ _ _ _ h => h) (pa_cons (pv 2) pa_nil))) pss_dead))), ?_⟩
    refine ⟨_, rfl, v, d, rfl, hv, hd, fun H1 s1 => ?_⟩
    obtain ⟨q1, q2⟩ := q H1 s1
    cases hl : letters d with
    | false =>
      rw [if_neg Bool.false_ne_true]
      exact q1 hl
    | true =>
      rw [if_pos rfl]
      refine ⟨_, rfl, u, e, 1, 5, rfl, hu.same s1, fun H2 s2 => ⟨fun n hn hi h1 h5 => ?_, fun hbad => (q H2 (s1.trans s2)).2.1 hl hbad⟩⟩
      have nb : ¬ BadN u e 1 5 := by
        rintro (h | ⟨m, hm, h⟩)
        · rw [h] at hi
          cases hi
        · rw [hn] at hm
          cases hm
          omega
      exact ⟨_, rfl, k, b, rfl, hk.same (s1.trans s2), hp, hnn, (q H2 (s1.trans s2)).2.2 hl nb⟩
end
end K4

set_option Elab.async false
set_option linter.all false
set_option maxRecDepth 100000
set_option maxHeartbeats 6400000
namespace K4
open PySem L2 Tx Tg Tm PySem.EBX
/-! ### bracket_of of long texts of one kind -/
def fam : List (List Nat) := [97] :: [98] :: (List.range 13).map fun k => List.replicate k 97 ++ [98]
def Fam (n : Nat) (l : List Nat) : Prop := l ∈ fam ∧ l.length ≤ n
theorem fam_six : ∀ l ∈ fam.take 8, (brk l).length ≤ 200 := by decide +kernel
theorem fam_six' : ∀ l ∈ fam, l.length ≤ 6 → l ∈ fam.take 8 := by decide +kernel
theorem fam_short : ∀ l ∈ fam, l ≠ [] ∧ l.length ≤ 13 := by decide +kernel
theorem fam_half : ∀ l ∈ fam, 2 ≤ l.length → (Ly.hv l).1 ∈ fam ∧ (Ly.hv l).2 ∈ fam := by decide +kernel
theorem fam_ab : ∀ l ∈ fam, ∀ c ∈ l, c < 128 := by decide +kernel
theorem pl_brack {l k : Row} (h1 : Pl l) (h2 : Pl k) : Pl (brackL l k) := by
  have app : ∀ {a b : Row}, Pl a → Pl b → Pl (a ++ b) := fun ha hb p hp => (List.mem_append.mp hp).elim (ha p) (hb p)
  exact pl_rev (pl_joint (r := []) (fun p hp => by cases hp) (app (app (app h1 h2) (pl_undo h1)) (pl_undo h2)))
theorem fam_pl : ∀ (n : Nat) (l : List Nat), l ∈ fam → l.length ≤ n → Pl (brk l)
  | 0, l, h, hn => absurd (List.length_pos_iff.mpr (fam_short l h).1) (by omega)
  | n + 1, l, h, hn => by
    have h0 := List.length_pos_iff.mpr (fam_short l h).1
    by_cases q : l.length ≤ 1
    · rw [brk_one (by omega)]
      intro p hp
      rw [List.mem_singleton.mp hp]
      exact fam_ab l h
    · have H := Ly.hv_all (l := l) (by omega)
      have := H.n
      have := H.a0
      have := H.b0
      obtain ⟨a, b⟩ := fam_half l h (by omega)
      rw [brk_cut (by omega)]
      exact pl_brack (fam_pl n _ a (by omega)) (fam_pl n _ b (by omega))
abbrev zGood : Str := "aaaaab"
abbrev zBad : Str := "aaaaaaaaaaaab"
theorem z_fam : cds zGood ∈ fam ∧ cds zBad ∈ fam ∧ zGood.length ≤ 100 ∧ zBad.length ≤ 100 := by decide +kernel
theorem z_ld : (has "ab" 400 (.str zGood) = true ∧ isLd "ab" (.str zGood) = true) ∧ has "ab" 400 (.str zBad) = true ∧ isLd "ab" (.str zBad) = true := by decide +kernel
theorem z_ok : Ok (.str zGood) ∧ Ok (.str zBad) := by
  have g : (zGood.length ≤ 4001 ∧ (met [] (cds zGood)).length < 64 ∧ ∀ c ∈ cds zGood, c < 128) ∧ (zBad.length ≤ 4001 ∧ (met [] (cds zBad)).length < 64 ∧ ∀ c ∈ cds zBad, c < 128) := by decide +kernel
  exact ⟨⟨g.1.1, g.1.2.1, g.1.2.2⟩, ⟨g.2.1, g.2.2.1, g.2.2.2⟩⟩
theorem good_row : (brk (cds zGood)).length ≤ 200 ∧ ∀ p ∈ brk (cds zGood), (∃ c ∈ cds "ab", p.1 = one c) ∧ p.2.natAbs ≤ 1000 := by decide +kernel
theorem bad_row : 2000 < (brk (Ly.hv (Ly.hv (cds zBad)).2).2).length := by decide +kernel
theorem bad_len : 2 ≤ (Ly.hv (cds zBad)).2.length ∧ 2 ≤ (cds zBad).length := by decide +kernel
theorem brk_rr {l : List Nat} (h : 2 ≤ l.length) : rowOf (brk l) = brk l := by
  rw [brk_cut h]
  exact row_row _
theorem okv_num : ∀ (v : V) (u : Value), (∃ n : Int, v = .int n ∧ n.natAbs.log2 < 1920) → RelV v u → isNum u := fun v u ⟨n, e, h⟩ r => by
  subst e
  obtain ⟨t, rfl⟩ := r
  exact ⟨n, t, rfl, h⟩
section
variable {P : Program} {w : World} {K : PySem.W.Frag} {mg : Str → Option Value} {base : Heap} {CM CW fMI fWI fC fP fH fB CL CP CO CN CT fN fT : Addr} {dMI dWI dC dP dH dB : FuncData}
def spBOG (CT : Addr) : Sp := fun vs H Q E => ∃ z : Str, vs = [.str "ab", .str z] ∧ ((z = zGood ∧ ∀ x H', Same H H' → Q (.ref x) H') ∨ (z = zBad ∧ ∀ H', Same H H' → EV E CT "limit" (.int 200) H'))
theorem ok_boG {f : Addr} {fd : FuncData} (F : Fun K "bracket_of" "bracket_of" sBO f fd) (T : Txt K mg) (X : Er P K mg CL CP CO CN CT fN fT) (G : Makes4 P w K mg base CM CW fMI fWI dMI dWI) (DC : Df K mg "check_leading" sCLead ["letters", "pattern"] fC dC) (GC : FnOk P w K mg base (L2.CX P w) 6 fC dC ["letters", "pattern"] (spCLX CL CP CO))
    (DH : Df K mg "cut_in_halves" sCut ["pattern"] fH dH) (GH : FnOk P w K mg base CX0 2 fH dH ["pattern"] spCut) (DP : Df K mg "bracket_parts" sParts ["pattern"] fP dP) (DB : Df K mg "bracket_runs" sBRuns ["one", "other"] fB dB) (GB : FnOk P w K mg base CX0 2 fB dB ["one", "other"] (spRow2 K 100000 brackL)) :
    FnOk P w K mg base (L2.CX P w) 7 f fd ["letters", "pattern"] (spBOG CT) := by
  have GP := ok_parts (P := P) (w := w) (base := base) DP.F T DH GH
  refine F.okX scBO (fun vs H Q E h => ?_) (fun cdv A outer s H vs Q E hr h => ?_)
  · obtain ⟨z, rfl, _⟩ := h
    rfl
  · obtain ⟨z, rfl, q⟩ := h
    have hsg : Signs "ab" := .inl rfl
    obtain ⟨tr, gR⟩ := T.mRuns
    have zf : cds z ∈ fam ∧ z.length ≤ 100 ∧ Ok (.str z) ∧ has "ab" 400 (.str z) = true ∧ isLd "ab" (.str z) = true := by
      rcases q with ⟨rfl, _⟩ | ⟨rfl, _⟩
      · exact ⟨z_fam.1, z_fam.2.2.1, z_ok.1, z_ld.1.1, z_ld.1.2⟩
      · exact ⟨z_fam.2.1, z_fam.2.2.2, z_ok.2, z_ld.2.1, z_ld.2.2⟩
    obtain ⟨zf1, zf2, zf3, zf4, zf5⟩ := zf
    have hu := hu_of hr
    obtain ⟨tf, gF⟩ := T.mFar
    refine ⟨_, (pss_cons (ps_expr (pe_call GC (hr.mono (by decide)) (by rfl) DC.m DC.F.kp DC.b .nil (passes_call (takes_of rfl rfl rfl rfl) fun _ _ _ _ h => h) (pa_cons (pv 0) (pa_cons (pv 1) pa_nil))))
    (pss_cons (ps_set (i := 2) scBO.nd rfl (Or.inl rfl) pe_dnewK)
    (pss_cons (ps_for (passes_of rfl) rfl (pi_list (pe_call GP (hr.mono (by decide)) (by rfl) DP.m DP.F.kp DP.b .nil pass0 (pa_cons (pv 1) pa_nil))) (pg_name (i := 3) scBO.nd rfl (Or.inl rfl))
      (pss_cons (ps_if (pt_cmpR op_eq (pe_callB call_len_str (by rfl) T.len PySem.boot_len (pa_cons (pv 3) pa_nil)) pe_int (nomark _)) (pss_one (ps_dput hu (pv 2) (pv 3) (pe_tup (pa_cons (pe_tup (pa_cons (pv 3) (pa_cons pe_int pa_nil))) pa_nil)) rfl)) (pss_cons (ps_asg (pe_call GH (hr.mono (by decide)) (by rfl) DH.m DH.F.kp DH.b .nil pass0 (pa_cons (pv 3) pa_nil)) (pg_tup rfl (pgs_cons (pg_name (i := 4) scBO.nd rfl (Or.inl rfl)) (pgs_cons (pg_name (i := 5) scBO.nd rfl (Or.inl rfl)) pgs_nil))))
        (pss_one (ps_dput hu (pv 2) (pv 3) (pe_call GB (hr.mono (by decide)) (by rfl) DB.m DB.F.kp DB.b .nil pass0 (pa_cons (pe_dget hu (pv 2) (pv 4) (fun _ _ => rfl)) (pa_cons (pe_dget hu (pv 2) (pv 5) (fun _ _ => rfl)) pa_nil))) rfl))))
      (pss_one (ps_if (pt_cmpR op_gt (pe_callB call_len_seq (by rfl) T.len PySem.boot_len (pa_cons (pe_dget hu (pv 2) (pv 3) (fun _ _ => rfl)) pa_nil)) (pe_glob (v := .int 2000) (by rfl) gF ⟨_, rfl⟩) (nomark _)) (pss_one (ps_raise rfl (takes_of rfl rfl rfl rfl) (pmk_ownI (okV := fun v => ∃ n : Int, v = .int n ∧ n.natAbs.log2 < 1920) b_OverflowError tx_many ms_many X.M okv_num X.gM hr (pa_cons (pe_glob (v := .int 200) (by rfl) gR ⟨_, rfl⟩) pa_nil) (by exact rfl)))) pss_nil))))
    (pss_one (ps_ret (pe_make G.mW G.gWI (hr.mono (by decide)) (by rfl) G.W.gW G.bWI .nil pass0 (pa_cons (pv 0) (pa_cons (pe_dget hu (pv 2) (pv 1) (fun _ _ => rfl)) pa_nil)))))))), ?_⟩
    have oab : Ok (.str "ab") := by
      have g : ("ab" : Str).length ≤ 4001 ∧ (met [] (cds "ab")).length < 64 ∧ ∀ c ∈ cds "ab", c < 128 := by decide +kernel
      exact ⟨g.1, g.2.1, g.2.2⟩
    refine ⟨_, rfl, _, rfl, .str "ab", .str z, .str "ab", .str z, rfl, .str _, oab, .str _, zf3, .of hsg, fun H1 s1 => ⟨fun hl => (by rw [signs_letters hsg] at hl; cases hl), fun sg' hds hsg' => ?_⟩⟩
    cases hds
    rw [zf4, if_pos rfl, zf5, if_pos rfl]
    dsimp only [tSeq, gName]
    refine fun D nD => ?_
    have nD0 : H D = none := by
      cases hh : H D with
      | none => rfl
      | some o =>
        rw [s1 _ _ hh] at nD
        cases nD
    have s2 := s1.trans (same_upd (o := .dK []) nD)
    have e2 : (upd H1 D (.dK [])) D = some (.dK []) := upd_same
    generalize upd H1 D (.dK []) = H2 at s2 e2 ⊢
    dsimp only [tSeq, gName]
    refine ⟨_, rfl, z, Fam (cds z).length, rfl, zf2, ⟨zf1, Nat.le_refl _⟩, fun l h => ⟨(fam_short l h.1).1, Nat.le_trans (fam_short l h.1).2 (by decide)⟩, fun l h h2 => (by
      have HV := Ly.hv_all h2
      have := HV.n
      have := HV.a0
      have := HV.b0
      have := h.2
      exact ⟨⟨(fam_half l h.1 h2).1, by omega⟩, (fam_half l h.1 h2).2, by omega⟩), fun pL H3 L s3 eL PT => ?_⟩
    refine ⟨pL, rfl, ⟨_, SqL.of eL⟩, ?_⟩
    have s13 : Same H H3 := s2.trans s3
    have e3 := s3 _ _ e2
    refine for_list (xs := txs L) (fun i σ H4 => ∃ (kvs : List (Key × V)) (u3 u4 u5 : Option V), σ = [some (.str "ab"), some (.str z), some (.ref D), u3, u4, u5] ∧ Same H H4 ∧ H4 D = some (.dK kvs) ∧ H4 pL = some (.lst (txs L)) ∧ RowsAt K H4 kvs (L.take i) ∧ ∀ y ∈ L.take i, (brk (cds y)).length ≤ 2000)
      ⟨[], none, none, none, rfl, s13, e3, eL, ⟨rfl, fun x hx => by rw [List.take_zero] at hx; cases hx⟩, fun x hx => by rw [List.take_zero] at hx; cases hx⟩ (fun i σ H4 _ q => by obtain ⟨_, _, _, _, _, _, _, q, _⟩ := q; exact SqL.of q) ?_ ?_
    · rintro i v σ H4 hv ⟨kvs, u3, u4, u5, rfl, s4, e4, eL4, R4, B4⟩
      rw [List.getElem?_map] at hv
      obtain ⟨x, hx, rfl⟩ := Option.map_eq_some_iff.mp hv
      have hxm : x ∈ L := List.mem_of_getElem? hx
      obtain ⟨hRx, hRl⟩ := PT.all x hxm
      have hx5 : x.length ≤ 13 := by
        have := (fam_short _ hRx).2
        rwa [cds_len] at this
      have kl : kvs.length ≤ 200 := by
        have e := congrArg List.length R4.1
        rw [List.length_map, List.length_map, List.length_take] at e
        have := PT.few
        omega
      have klt : kvs.length < sizeLine := Nat.lt_of_le_of_lt kl (by decide)
      have nDp : pL ≠ D := fun e => by
        rw [e, e4] at eL4
        cases eL4
      dsimp only [gName]
      refine two (fun σ H6 => ∃ (kvs : List (Key × V)) (u4 u5 : Option V), σ = [some (.str "ab"), some (.str z), some (.ref D), some (.str x), u4, u5] ∧ Same H H6 ∧ H6 D = some (.dK kvs) ∧ H6 pL = some (.lst (txs L)) ∧ RowsAt K H6 kvs (L.take (i + 1))) ?_ fun fin => ?_
      · rintro σ H6 ⟨kv6, u4, u5, rfl, s6, e6, eL6, R6⟩
        obtain ⟨p, ep, hp⟩ := R6.2 x (by
          rw [List.take_add_one, hx]
          exact List.mem_append_right _ (List.mem_singleton.mpr rfl))
        obtain ⟨ys, hys, hyp⟩ := id hp
        have hyl : ys.length = (brk (cds x)).length := hyp.length
        refine ⟨_, rfl, _, rfl, D, .ref p, rfl, ?_, p, ys, rfl, .inr hys, _, _, rfl, rfl, _, rfl, ?_⟩
        · rw [← ep]
          exact DGet.k (k := (Sum.inr x : Key)) e6
        · by_cases hbig : (brk (cds x)).length ≤ 2000
          · have : decide ((2000 : Int) < (ys.length : Int)) = false := decide_eq_false (by omega)
            rw [this]
            refine iteF ⟨kv6, _, _, _, rfl, s6, e6, eL6, R6, fun y hy => ?_⟩
            rw [List.take_add_one, hx] at hy
            rcases List.mem_append.mp hy with hy | hy
            · exact B4 y hy
            · obtain rfl : y = x := by simpa using hy
              exact hbig
          · have : decide ((2000 : Int) < (ys.length : Int)) = true := decide_eq_true (by omega)
            rw [this]
            refine iteT ?_
            rcases q with ⟨rfl, _⟩ | ⟨_, q⟩
            · exact absurd (Nat.le_trans (fam_six _ (fam_six' _ hRx hRl)) (by decide)) hbig
            · exact ⟨_, rfl, ⟨200, rfl, by decide⟩, q _ s6⟩
      · have hxs : x.length ≤ sizeLine := Nat.le_trans hx5 (by decide)
        refine ⟨_, rfl, x, rfl, hxs, rfl, _, rfl, ?_⟩
        refine ite2 (fun hc => ?_) (fun hc => ?_)
        · have hc := of_decide_eq_true hc
          have hx1 : x.length = 1 := by
            injection hc with hc
            omega
          refine ⟨_, rfl, by show 2 ≤ sizeLine; decide, fun t1 n1 => ?_⟩
          have s5 := same_upd (o := .tup [V.str x, V.int 1]) n1
          have e5 : (upd H4 t1 (.tup [V.str x, V.int 1])) t1 = some (.tup [V.str x, V.int 1]) := upd_same
          generalize upd H4 t1 (.tup [V.str x, V.int 1]) = H5 at s5 e5 ⊢
          refine ⟨by show 1 ≤ sizeLine; decide, fun t2 n2 => ?_⟩
          have s6 := s5.trans (same_upd (o := .tup [V.ref t1]) n2)
          have e6 : (upd H5 t2 (.tup [V.ref t1])) t2 = some (.tup [V.ref t1]) := upd_same
          have e5' := same_upd (o := .tup [V.ref t1]) n2 _ _ e5
          generalize upd H5 t2 (.tup [V.ref t1]) = H6 at s6 e6 e5' ⊢
          have R6 : RowsAt K H6 kvs (L.take i) := ⟨R4.1, fun y hy => by
            obtain ⟨p, a, b⟩ := R4.2 y hy
            exact ⟨p, a, b.same s6⟩⟩
          have hp : TupRow K H6 t2 (brk (cds x)) := by
            rw [brk_one (by rw [cds_len]; exact hx1), tx_cds]
            exact ⟨_, SqT.of e6, .cons ⟨t1, rfl, e5'⟩ .nil⟩
          have eD6 := s6 _ _ e4
          refine ⟨_, rfl, _, rfl, D, _, rfl, DPut.k (k := (Sum.inr x : Key)) eD6 klt, ?_⟩
          refine fin _ _ ⟨_, _, _, rfl, same_put (s4.trans s6) nD0, upd_same, ?_, rows_put hx PT.nd eD6 R6 hp⟩
          rw [upd_ne nDp]
          exact s6 _ _ eL4
        · have hc : ¬ V.int (x.length : Int) = V.int 1 := fun q => hc (decide_eq_true q)
          have hx2 : 2 ≤ x.length := by
            have := List.length_pos_iff.mpr (fam_short _ hRx).1
            rw [cds_len] at this
            rcases Nat.lt_or_ge 1 x.length with lt | ge
            · exact lt
            · exact absurd (by rw [show x.length = 1 by omega]; rfl) hc
          have hx2' : 2 ≤ (cds x).length := by rw [cds_len]; exact hx2
          have HV := Ly.hv_all hx2'
          have hn := HV.n
          have ha0 := HV.a0
          have hb0 := HV.b0
          rw [cds_len] at hn
          obtain ⟨m1, m2⟩ := PT.half x hxm hx2
          obtain ⟨r1, r2⟩ := fam_half _ hRx hx2'
          refine ⟨_, rfl, x, rfl, hx2, by omega, fun p5 H5 s5 e5 => ?_⟩
          refine ⟨p5, _, rfl, SqT.of e5, rfl, _, _, rfl, _, _, rfl, rfl, ?_⟩
          have R5 : RowsAt K H5 kvs (L.take i) := ⟨R4.1, fun y hy => by
            obtain ⟨p, a, b⟩ := R4.2 y hy
            exact ⟨p, a, b.same s5⟩⟩
          have e5D := s5 _ _ e4
          obtain ⟨p1, v1, h1⟩ := R5.2 _ (PT.before hx m1 (by rw [tx_len]; omega))
          obtain ⟨p2, v2, h2⟩ := R5.2 _ (PT.before hx m2 (by rw [tx_len]; omega))
          rw [cds_tx] at h1 h2
          refine ⟨_, rfl, _, rfl, D, .ref p1, rfl, ?_, _, rfl, _, rfl, D, .ref p2, rfl, ?_, p1, p2, _, _, rfl, h1, h2, ?_, ?_, fam_pl _ _ r1 (Nat.le_refl _), fam_pl _ _ r2 (Nat.le_refl _), fun p6 H6 s6 hp6 => ?_⟩
          · rw [← v1]
            exact DGet.k (k := (Sum.inr (tx (Ly.hv (cds x)).1) : Key)) e5D
          · rw [← v2]
            exact DGet.k (k := (Sum.inr (tx (Ly.hv (cds x)).2) : Key)) e5D
          · have := B4 _ (PT.before hx m1 (by rw [tx_len]; omega))
            rw [cds_tx] at this
            omega
          · have := B4 _ (PT.before hx m2 (by rw [tx_len]; omega))
            rw [cds_tx] at this
            omega
          · have R6 : RowsAt K H6 kvs (L.take i) := ⟨R5.1, fun y hy => by
              obtain ⟨p, a, b⟩ := R5.2 y hy
              exact ⟨p, a, b.same s6⟩⟩
            have eD6 := s6 _ _ e5D
            rw [← brk_cut hx2'] at hp6
            refine ⟨_, rfl, _, rfl, D, _, rfl, DPut.k (k := (Sum.inr x : Key)) eD6 klt, ?_⟩
            refine fin _ _ ⟨_, _, _, rfl, same_put ((s4.trans s5).trans s6) nD0, upd_same, ?_, rows_put hx PT.nd eD6 R6 hp6⟩
            rw [upd_ne nDp]
            exact s6 _ _ (s5 _ _ eL4)
    · rintro σ H4 ⟨kvs, u3, u4, u5, rfl, s4, e4, eL4, R4, B4⟩
      have ez : L.take (txs L).length = L := List.take_of_length_le (by rw [List.length_map]; exact Nat.le_refl _)
      rw [ez] at R4 B4
      rcases q with ⟨rfl, q⟩ | ⟨rfl, _⟩
      · obtain ⟨p, ep, hp⟩ := R4.2 _ PT.me
        refine ⟨_, rfl, _, rfl, _, rfl, D, .ref p, rfl, ?_, ?_⟩
        · rw [← ep]
          exact DGet.k (k := (Sum.inr zGood : Key)) e4
        · exact row_word G hsg hp (B := 1000) good_row.2 (by decide +kernel) good_row.1 fun x H' s' h => q x H' (s4.trans s')
      · obtain ⟨_, m2⟩ := PT.half _ PT.me (by rw [← cds_len]; exact bad_len.2)
        obtain ⟨_, m3⟩ := PT.half _ m2 (by rw [tx_len]; exact bad_len.1)
        have := B4 _ m3
        rw [cds_tx, cds_tx] at this
        exact absurd bad_row (by omega)
end
end K4

set_option Elab.async false
set_option linter.all false
set_option maxRecDepth 100000
set_option maxHeartbeats 6400000
namespace K4
open PySem L2 Tx Tg Tm PySem.EBX LamX
/-! ### the def that tells what came -/
abbrev nMet : List Str := ["_law_call", "e"]
theorem scMet : FnScope nMet ["_law_call"] (defScope sMet) := ⟨rfl, rfl, rfl, by decide +kernel, rfl, by decide +kernel, by decide +kernel⟩
def tWord (s : Str) (a : Addr) (cls : Value) (d : Option Addr) : TS := tRet (tC (.str s))
def rAddStr : R2 := fun x y H Q => ∃ i j : Str, x = .str i ∧ y = .str j ∧ i.length + j.length ≤ sizeLine ∧ Q (.str (i ++ j)) H
def tWordN (K : PySem.W.Frag) (C : Addr) (fld s : Str) (a : Addr) (cls : Value) (d : Option Addr) : TS := tRet (tOp rAddStr (tC (.str s)) (tCB (rShow K) (tCons (tByOwn C fld a cls d (tVar 1)) tNil)))
def clM (K : PySem.W.Frag) (CL CP CO CN CT : Addr) : List Cls1 := [(.ref CL, none, tWord "letters"), (.ref CP, none, tWord "pattern"), (.ref CO, none, tWord "operation"), (.ref CN, some 1, tWordN K CN "value" "number "), (.ref CT, some 1, tWordN K CT "limit" "many ")]
section
variable {X : Cx} {CL CP CO CN CT fN fT : Addr}
theorem ok_met {g : Addr} {cdg : Value} {q : Str} {k : Nat} (T : Txt X.K X.mg) (E : Er X.prog X.K X.mg CL CP CO CN CT fN fT) (still : Still X.A) (hr : Room (k + 1) X.A) :
    GivesTo X nMet "_law_met" (defScope sMet) g cdg (defBody sMet) "_law_call" q (TMet X.K 2 "good" (clM X.K CL CP CO CN CT)) := by
  refine met_gives (l := clM X.K CL CP CO CN CT) (fun s H => ?_) fun f => rfl
  refine .cons ⟨rfl, by decide, .inl E.L.g⟩ (fun a oe cls d pn _ _ => pss_one (ps_ret pe_str)) ?_
  refine .cons ⟨rfl, by decide, .inl E.Pt.g⟩ (fun a oe cls d pn _ _ => pss_one (ps_ret pe_str)) ?_
  refine .cons ⟨rfl, by decide, .inl E.O.g⟩ (fun a oe cls d pn _ _ => pss_one (ps_ret pe_str)) ?_
  refine .consN ⟨rfl, by decide, .inl E.gN⟩ scMet.nd rfl rfl (i := 1) (fun a oe cls d pn hz hf => pss_one (ps_ret (pe_op op_add_str pe_str (pe_callB (call_show (X := (cxOf C8.CX0 X.prog X.w X.K X.mg X.base nMet "_law_met" (defScope sMet) g cdg X.A X.stack s H C8.E0).nox.suite a ((a, oe) :: pn)) still (by have := hr.un; show X.A.units + 3 + 64 < _; omega)) (by rfl) T.repr (by decide +kernel) (pa_cons (pe_byOwnF (X := (cxOf C8.CX0 X.prog X.w X.K X.mg X.base nMet "_law_met" (defScope sMet) g cdg X.A X.stack s H C8.E0).nox) (fld := "value") rfl E.N hz hf (pv 1)) pa_nil))))) ?_
  refine .consN ⟨rfl, by decide, .inl E.gM⟩ scMet.nd rfl rfl (i := 1) (fun a oe cls d pn hz hf => pss_one (ps_ret (pe_op op_add_str pe_str (pe_callB (call_show (X := (cxOf C8.CX0 X.prog X.w X.K X.mg X.base nMet "_law_met" (defScope sMet) g cdg X.A X.stack s H C8.E0).nox.suite a ((a, oe) :: pn)) still (by have := hr.un; show X.A.units + 3 + 64 < _; omega)) (by rfl) T.repr (by decide +kernel) (pa_cons (pe_byOwnF (X := (cxOf C8.CX0 X.prog X.w X.K X.mg X.base nMet "_law_met" (defScope sMet) g cdg X.A X.stack s H C8.E0).nox) (fld := "limit") rfl E.M hz hf (pv 1)) pa_nil))))) ?_
  exact .nil
end
end K4

set_option Elab.async false
set_option linter.all false
set_option maxRecDepth 100000
set_option maxHeartbeats 6400000
namespace K4
open PySem L2 Tx Tg Tm PySem.EBX LamX
/-- which class is caught by which clause -/
structure Ex5 (K : PySem.W.Frag) (CL CP CO CN CT : Addr) : Prop where
  LL : PySem.W.exmOne K (.ref CL) (.ref CL) = some true
  PL : PySem.W.exmOne K (.ref CP) (.ref CL) = some false
  PP : PySem.W.exmOne K (.ref CP) (.ref CP) = some true
  OL : PySem.W.exmOne K (.ref CO) (.ref CL) = some false
  OP : PySem.W.exmOne K (.ref CO) (.ref CP) = some false
  OO : PySem.W.exmOne K (.ref CO) (.ref CO) = some true
  NL : PySem.W.exmOne K (.ref CN) (.ref CL) = some false
  NP : PySem.W.exmOne K (.ref CN) (.ref CP) = some false
  NO : PySem.W.exmOne K (.ref CN) (.ref CO) = some false
  NN : PySem.W.exmOne K (.ref CN) (.ref CN) = some true
  ML : PySem.W.exmOne K (.ref CT) (.ref CL) = some false
  MP : PySem.W.exmOne K (.ref CT) (.ref CP) = some false
  MO : PySem.W.exmOne K (.ref CT) (.ref CO) = some false
  MN : PySem.W.exmOne K (.ref CT) (.ref CN) = some false
  MM : PySem.W.exmOne K (.ref CT) (.ref CT) = some true
def Shw (K : PySem.W.Frag) (H : Hp) (v : V) (d : PyData) : Prop := Data K H v d ∧ d.showable = true ∧ d.depth < 60 ∧ d.shown.length ≤ 10000
section
variable {K : PySem.W.Frag} {CL CP CO CN CT : Addr} {Q : VK} {H : Hp}
abbrev wM (K : PySem.W.Frag) (CL CP CO CN CT : Addr) (Q : VK) : XK := wMet K 2 "good" (clM K CL CP CO CN CT) Q
theorem met_L (X : Ex5 K CL CP CO CN CT) {d : Option Addr} (q : Q (.str "letters") H) : wM K CL CP CO CN CT Q (.ref CL) d H := fun σ hσ => ⟨true, X.LL, fun _ a _ => q, fun h => nomatch h⟩
theorem met_P (X : Ex5 K CL CP CO CN CT) {d : Option Addr} (q : Q (.str "pattern") H) : wM K CL CP CO CN CT Q (.ref CP) d H := fun σ hσ => ⟨false, X.PL, (fun h => nomatch h), fun _ => ⟨true, X.PP, fun _ a _ => q, fun h => nomatch h⟩⟩
theorem met_O (X : Ex5 K CL CP CO CN CT) {d : Option Addr} (q : Q (.str "operation") H) : wM K CL CP CO CN CT Q (.ref CO) d H := fun σ hσ => ⟨false, X.OL, (fun h => nomatch h), fun _ => ⟨false, X.OP, (fun h => nomatch h), fun _ => ⟨true, X.OO, fun _ a _ => q, fun h => nomatch h⟩⟩⟩
theorem wordN {K : PySem.W.Frag} {C : Addr} {fld s : Str} {a dx : Addr} {σ : L2.St} {H : Hp} {D : Ends} {v : V} {d : PyData} (hσ : σ.length = 2) (hs : s.length ≤ 100) (hd : H dx = some (.xd [(fld, v)])) (hv : Shw K H v d) (q : D.rt (.str (s ++ d.shown)) H) :
    tWordN K C fld s a (.ref C) (some dx) (endsN D 1) (σ.set 1 (some (.ref a))) H := by
  match σ, hσ with
  | [x, y], _ =>
    obtain ⟨h1, h2, h3, h4⟩ := hv
    exact ⟨_, rfl, rfl, rfl, dx, v, rfl, hd, v, d, rfl, h1, h2, h3, Nat.le_trans h4 (by decide), _, _, rfl, rfl, Nat.le_trans (Nat.add_le_add hs h4) (by decide), q⟩
theorem Shw.same {K : PySem.W.Frag} {H H' : Hp} {v : V} {d : PyData} (s : Same H H') (h : Shw K H v d) (ds : Data K H v d → Data K H' v d) : Shw K H' v d := ⟨ds h.1, h.2⟩
theorem met_N (X : Ex5 K CL CP CO CN CT) {v : V} {d : PyData} (hv : ∀ H', Same H H' → Shw K H' v d) (q : ∀ H', Same H H' → Q (.str (("number " : Str) ++ d.shown)) H') : EV (wM K CL CP CO CN CT Q) CN "value" v H := fun dx hdx σ hσ =>
  ⟨false, X.NL, (fun h => nomatch h), fun _ => ⟨false, X.NP, (fun h => nomatch h), fun _ => ⟨false, X.NO, (fun h => nomatch h), fun _ => ⟨true, X.NN, fun _ a _ =>
    wordN hσ (by decide +kernel) upd_same (hv _ (same_upd hdx)) (q _ (same_upd hdx)), fun h => nomatch h⟩⟩⟩⟩
theorem met_M (X : Ex5 K CL CP CO CN CT) {v : V} {d : PyData} (hv : ∀ H', Same H H' → Shw K H' v d) (q : ∀ H', Same H H' → Q (.str (("many " : Str) ++ d.shown)) H') : EV (wM K CL CP CO CN CT Q) CT "limit" v H := fun dx hdx σ hσ =>
  ⟨false, X.ML, (fun h => nomatch h), fun _ => ⟨false, X.MP, (fun h => nomatch h), fun _ => ⟨false, X.MO, (fun h => nomatch h), fun _ => ⟨false, X.MN, (fun h => nomatch h), fun _ => ⟨true, X.MM, fun _ a _ =>
    wordN hσ (by decide +kernel) upd_same (hv _ (same_upd hdx)) (q _ (same_upd hdx)), fun h => nomatch h⟩⟩⟩⟩⟩
end
theorem val_data {K : PySem.W.Frag} {H : Hp} {v : V} {d : PyData} (h : Val H v d) : Data K H v d := by
  have stt : ∀ l : List Str, DpAll K H (l.map V.str) (l.map PyData.str) := fun l => by
    induction l with
    | nil => exact .nil
    | cons a l ih => exact .cons (.str a) ih
  have flatS : ∀ l : List Str, PyData.hasDictAll (l.map PyData.str) = false := fun l => by
    induction l with
    | nil => rfl
    | cons a l ih => exact ih
  have flatI : ∀ l : List Int, PyData.hasDictAll (l.map PyData.int) = false := fun l => by
    induction l with
    | nil => rfl
    | cons a l ih => exact ih
  cases h with
  | non => exact .flat .non rfl
  | bl b => exact .flat (.bl b) rfl
  | int n => exact .flat (.int n) rfl
  | str z => exact .flat (.str z) rfl
  | lst l h => exact .flat (.lst (SqL.of h) (stt l)) (flatS l)
  | tup l h => exact .flat (.tup (SqT.of h) (stt l)) (flatS l)
  | tupI l h => exact .flat (.tup (SqT.of h) (all_ints K H l)) (flatI l)
  | dct kvs h => exact .dict h
end K4

set_option Elab.async false
set_option linter.all false
set_option maxRecDepth 100000
set_option maxHeartbeats 3200000
/-! the head: a law with several defs that make lambdas (the law itself may be one) -/
namespace Lp
open PySem PySem.Spec PyProof.Rows L2 LamX
theorem each_of_mem {α β : Type} {R : α → β → Prop} : ∀ {as : List α} {bs : List β}, PySem.W.EachIs R as bs → ∀ a ∈ as, ∃ b ∈ bs, R a b
  | _, _, .nil, _, h => nomatch h
  | _, _, .cons r t, a, h => by
    rcases List.mem_cons.mp h with rfl | h
    · exact ⟨_, List.mem_cons_self, r⟩
    · obtain ⟨b, hb, q⟩ := each_of_mem t a h
      exact ⟨b, List.mem_cons_of_mem _ hb, q⟩
theorem walkTs {l : PySem.W.OpenLaw} {n k : Nat} {q : Program} {loose : List Str} {XP : (Str → Option Value) → Heap → Prop} {YP : World → Heap → Prop} {d : DefRec} {K : Params → PySem.W.Frag} {cx : World → CXT} {x : Str} {ys : List Str}
    (hn : l.most = some n) (hn2 : n ≤ sizeLine) (hdf : d.params.defaults = []) (hr : Room k callerA) (hY : ∀ (w : World) (h : Heap), YP w h → (K w.params).In h) (hrec : (ys.all fun y => ((recsOf q).find? fun e => e.name == y).isSome) = true)
    (F : ∀ (w : World) (mg : Str → Option Value) (fa : Addr) (h : Heap), (K w.params).In h → h.Ns mainGlobals mg → mg d.name = some (.ref fa) → XP mg h →
      ∃ (fd : FuncData) (cs : List (Addr × Addr)) (sp : Sp), PySem.W.EachIs (fun (p : Addr × Addr) (y : Str) => PySem.W.tabIn (K w.params) y = some p ∧ (K w.params).lookup p.2 = none) cs ys ∧ (∀ (s : Shared) (u : Value), BindsTo s fd ⟨[u], []⟩ [(x, u)]) ∧
        (∀ (H : Hp) (a : Addr) (ns : List Int), ns.length ≤ n → (∀ p ∈ cs, H p.2 = some (.tbl #[])) → SqL (K w.params) H a (ns.map V.int) → sp [.ref a] H (fun v _ => v = .bl true) fun _ _ _ => False) ∧
        ∀ base : Heap, (K w.params).In base → base.Ns mainGlobals mg → (∀ p ∈ cs, TabB base mg p.1 p.2) → FnOk l.prog w (K w.params) mg base (cx w) k fa fd [x] sp)
    (hcx : ∀ (w : World) (H : Hp) (s : Shared) (e : Value) (s' : Shared), cx w [] H s (fun _ _ _ => False) e s' → False) :
    PySem.W.WalkO q loose XP YP l.row.toRowW d [] (fun f vs => PySem.call f vs) := by
  refine Att.attach_callB hn hdf fun w s₀ s₁ mg mb fa o pm cd doc a vs ns G Y ho hd hcd hmg hobj hints hlen hbits hg => ?_
  have KX := hY w _ Y
  obtain ⟨fd, cs, sp, ht, hb, hsp, hF⟩ := F w mg fa _ KX G.T.g hmg G.X
  have each : ∀ p ∈ cs, (PySem.W.CodeHd s₁.heap p.1 p.2 ∧ s₁.heap.get? p.2 = some { cls := .none, data := .fields #[] }) ∧ (K w.params).lookup p.2 = none := fun p hp => by
    obtain ⟨y, hy, e1, e2⟩ := each_of_mem ht p hp
    obtain ⟨dd, hdd⟩ := Option.isSome_iff_exists.mp (List.all_eq_true.mp hrec y hy)
    exact ⟨PySem.W.tab_of G.T KX hdd e1, e2⟩
  exact law_callTs (cs := cs) KX G.T.g G.T.b G.T.builtins G.T.nolimit hg (fun p hp => (each p hp).1.2) (fun p hp => (each p hp).2) (fun p hp => (each p hp).1.1) G.T.bmain hobj hints (Nat.le_trans hlen hn2) hr
    hF hb (fun H hH hS => hsp H a ns hlen hH hS) fun H e s' => hcx w H s₁ e s'
end Lp

set_option Elab.async false
set_option linter.all false
set_option maxRecDepth 100000
set_option maxHeartbeats 3200000
/-! the head of a law whose defs make lambdas and which shows data: Kept, with tables -/
namespace Tg
open PySem PySem.Spec PyProof.Rows L2 LamX Lp
/-- what is tracked where the law begins: the tables; the script (o) -/
def Start (tb : List Addr) (a : Addr) (o : Option HO) : Hp := fun b => if b ∈ tb then some (.tbl #[]) else if b = a then o else none
theorem Start.tab {tb : List Addr} {a b : Addr} {o : Option HO} (h : b ∈ tb) : Start tb a o b = some (.tbl #[]) := if_pos h
theorem Start.off {tb : List Addr} {a b : Addr} {o : Option HO} (h : b ∉ tb) (n : b ≠ a) : Start tb a o b = none := (if_neg h).trans (if_neg n)
theorem Start.scr {tb : List Addr} {a : Addr} {o : Option HO} (h : a ∉ tb) : Start tb a o a = o := (if_neg h).trans (if_pos rfl)
theorem Start.cases {tb : List Addr} {a b : Addr} {o : Option HO} {u : HO} (h : Start tb a o b = some u) : (b ∈ tb ∧ u = .tbl #[]) ∨ (b ∉ tb ∧ b = a ∧ o = some u) := by
  by_cases m : b ∈ tb
  · exact .inl ⟨m, by rw [Start.tab m] at h; cases h; rfl⟩
  · by_cases n : b = a
    · refine .inr ⟨m, n, ?_⟩
      rw [n, Start.scr (n ▸ m)] at h
      exact h
    · rw [Start.off m n] at h
      cases h
section
variable {P : Program} {w : World} {K : PySem.W.Frag} {mg mb : Str → Option Value} {cx : CXT} {k : Nat} {fa a : Addr} {cs : List (Addr × Addr)} {fd : FuncData} {x : Str} {sp : Sp} {z : Shared} {vs : List Value} {ns : List Int}
theorem tab_core (inK : K.In z.heap) (gl : z.heap.Ns mainGlobals mg) (bl : z.heap.Ns builtinsNs mb) (boot : ∀ x : Str, x ≠ "__name__" → mb x = bootBuiltins x) (limit : z.heap.NoLimit) (noGen : z.gens = #[])
    (empty : ∀ p ∈ cs, z.heap.get? p.2 = some { cls := .none, data := .fields #[] }) (own : ∀ p ∈ cs, K.lookup p.2 = none) (head : ∀ p ∈ cs, PySem.W.CodeHd z.heap p.1 p.2)
    (bmod : ∃ (bm : Addr) (ob : Obj), mg "__builtins__" = some (.ref bm) ∧ bm ≠ builtinsNs ∧ z.heap.get? bm = some ob ∧ ob.cls = .type "module" ∧ ob.dict = some builtinsNs ∧ ob.data = .plain)
    (at_a : z.heap.get? a = some { cls := .type "list", data := .seq vs.toArray }) (room : Room k callerA)
    (F : ∀ base : Heap, K.In base → base.Ns mainGlobals mg → (∀ p ∈ cs, TabB base mg p.1 p.2) → Kept P w K mg base cx k fa fd [x] sp) (bound : ∀ (s : Shared) (u : Value), BindsTo s fd ⟨[u], []⟩ [(x, u)])
    (none_out : ∀ H e y, cx [] H z (fun _ _ _ => False) e y → False) (o : Option HO) (isList : ∀ u, o = some u → (∃ ob xs, u = .frz ob (.lst xs)) ∧ ObjOk P w (Start (cs.map (·.2)) a o) z.heap a u ∧ K.lookup a = none)
    (want : sp [.ref a] (Start (cs.map (·.2)) a o) (fun v _ => v = .bl true) fun _ _ _ => False) :
    codeAny (model P w) callerA (.call (.ref fa) ⟨[.ref a], []⟩) (fun r y => r = .ok (.ret (.bool true)) ∧ OldK z.heap y.heap ∧ y.os = z.os ∧ AllBare y.gens) z := by
  generalize htb : cs.map (·.2) = tb at isList want
  have emptyT : ∀ b ∈ tb, z.heap.get? b = some { cls := .none, data := .fields #[] } := by
    intro b m
    rw [← htb] at m
    obtain ⟨p, hp, rfl⟩ := List.mem_map.mp m
    exact empty p hp
  have inT : ∀ p ∈ cs, p.2 ∈ tb := fun p hp => by
    rw [← htb]
    exact List.mem_map.mpr ⟨p, hp, rfl⟩
  have freeT : ∀ b ∈ tb, K.lookup b = none := by
    intro b m
    rw [← htb] at m
    obtain ⟨p, hp, rfl⟩ := List.mem_map.mp m
    exact own p hp
  have aOut : a ∉ tb := fun m => by
    have e := (emptyT a m).symm.trans at_a
    exact nomatch congrArg Obj.data (Option.some.inj e)
  generalize hH : Start tb a o = H at isList want
  have kinds : ∀ {b : Addr} {u : HO}, H b = some u → (b ∈ tb ∧ u = .tbl #[]) ∨ (b ∉ tb ∧ b = a ∧ o = some u) := fun {b u} e => Start.cases (by rw [hH]; exact e)
  have tabH : ∀ b ∈ tb, H b = some (.tbl #[]) := fun b m => by
    rw [← hH]
    exact Start.tab m
  /- an object that is no list and no empty record is not tracked -/
  have untr : ∀ {b : Addr} {ob : Obj}, z.heap.get? b = some ob → ob.data ≠ .seq vs.toArray → ob.data ≠ .fields #[] → H b = none := by
    intro b ob e n1 n2
    cases q : H b with
    | none => rfl
    | some u =>
      rcases kinds q with ⟨m, _⟩ | ⟨_, rfl, _⟩
      · exact absurd (congrArg Obj.data (Option.some.inj (e.symm.trans (emptyT b m)))) n2
      · exact absurd (congrArg Obj.data (Option.some.inj (e.symm.trans at_a))) n1
  have seen : ∀ {b : Addr} {ob : Obj}, z.heap.get? b = some ob → ob.data ≠ .seq vs.toArray → ob.data ≠ .fields #[] → (hidT z.heap H).get? b = some ob := fun e n1 n2 => hidT_get e (untr e n1 n2)
  have nsT : ∀ {b : Addr} {m : Str → Option Value}, z.heap.Ns b m → (hidT z.heap H).Ns b m := by
    rintro b m ⟨ob, es, ep, e, isD, r⟩
    exact ⟨ob, es, ep, seen e (by rw [isD]; exact fun q => nomatch q) (by rw [isD]; exact fun q => nomatch q), isD, r⟩
  have inB : K.In (hidT z.heap H) := by
    intro b ob e
    refine hidT_get (inK b ob e) ?_
    cases q : H b with
    | none => rfl
    | some u =>
      rcases kinds q with ⟨m, _⟩ | ⟨_, rfl, eo⟩
      · exact absurd e (by rw [freeT b m]; exact fun q => nomatch q)
      · exact absurd e (by rw [(isList u eo).2.2]; exact fun q => nomatch q)
  have mods : Mod K mg (hidT z.heap H) := ⟨inB, nsT gl, ⟨mb, nsT bl, boot⟩, let ⟨mc, l1, l2⟩ := limit; ⟨mc, nsT l1, l2⟩⟩
  have tables : ∀ p ∈ cs, TabB (hidT z.heap H) mg p.1 p.2 := by
    intro p hp
    have emp := empty p hp
    constructor
    · obtain ⟨ob, us, file, tf, flags, tg, inF, text, tt, e1, r1, r2, r3, more⟩ := head p hp
      refine ⟨ob, us, file, tf, flags, tg, inF, text, tt, seen e1 (by rw [r2]; exact fun q => nomatch q) (fun q => ?_), r1, r2, r3, more⟩
      rw [r2] at q
      have q2 : us = #[] := by injection q
      rw [q2] at r3
      simp at r3
    · obtain ⟨bm, ob, b1, b2, b3, b4, b5, b6⟩ := bmod
      refine ⟨bm, ob, b1, b2, fun q => ?_, fun q => ?_, seen b3 (by rw [b6]; exact fun q => nomatch q) (by rw [b6]; exact fun q => nomatch q), b4, b5, b6⟩
      · obtain ⟨og, es, ep, e, isD, _⟩ := gl
        rw [← q, b3] at e
        cases e
        rw [b6] at isD
        exact nomatch isD
      · rw [q, emp] at b3
        cases b3
        exact nomatch b6
    · intro q
      obtain ⟨og, es, ep, e, isD, _⟩ := gl
      rw [q, emp] at e
      cases e
      exact nomatch isD
  have okAll : HOk P w H z.heap := by
    intro b u e
    rcases kinds e with ⟨m, rfl⟩ | ⟨_, rfl, eo⟩
    · exact emptyT b m
    · exact (isList u eo).2.1
  have e0 : Env0 P w K mg (hidT z.heap H) callerA [] z H := by
    refine ⟨rfl, mods, fun b ob e => of_hidT e, Nat.le_of_eq (hidT_size _ _), trivial, fun b m => ?_, okAll, .of_eq noGen⟩
    exact absurd (show b ∈ ([] : List Addr) from m) (by simp)
  refine codeAny_mono ((F _ inB (nsT gl) tables).goes callerA [] z H ⟨[.ref a], []⟩ [.ref a] [.ref a] _ _ room rfl e0 (bound z (.ref a)) (.cons rfl .nil) want) fun r y h => ?_
  match r, h with
  | .error e, h => exact (none_out H e y h).elim
  | .ok .next, h => exact False.elim h
  | .ok .brk, h => exact False.elim h
  | .ok .cont, h => exact False.elim h
  | .ok (.ret u), h =>
    obtain ⟨v, H2, os, bare, un, ok2, rel, q⟩ := h
    obtain rfl : v = .bl true := q
    obtain rfl : u = Value.bool true := rel
    have rest : ∀ b ob, b ∉ tb → z.heap.get? b = some ob → y.heap.get? b = some ob := by
      intro b ob nb e
      cases q : H b with
      | none => exact un.keep b ob e q (fun m => absurd (show b ∈ ([] : List Addr) from m) (by simp)) (by simp)
      | some u =>
        rcases kinds q with ⟨m, _⟩ | ⟨_, rfl, eo⟩
        · exact absurd m nb
        · obtain ⟨⟨oz, xs, rfl⟩, _⟩ := isList u eo
          obtain ⟨f1, _⟩ := okAll b _ q
          obtain ⟨f2, _⟩ := ok2 b _ (un.frzs b oz _ q)
          exact f2.trans (f1.symm.trans e)
    have grown : ∀ p ∈ cs, ∃ more : Array Value, y.heap.get? p.2 = some { cls := .none, data := .fields more } := by
      intro p hp
      obtain ⟨more, e⟩ := un.tbls p.2 #[] (tabH _ (inT p hp))
      exact ⟨_, ok2 p.2 _ e⟩
    refine ⟨rfl, ⟨fun b ob e => ?_, fun b ob e => ?_⟩, os, bare⟩
    · by_cases m : b ∈ tb
      · rw [← htb] at m
        obtain ⟨p, hp, rfl⟩ := List.mem_map.mp m
        obtain ⟨more, g⟩ := grown p hp
        obtain rfl := Option.some.inj ((empty p hp).symm.trans e)
        refine .inr (.inl ⟨((head p hp).tab (empty p hp)).isCodeTable, rfl, #[], more, rfl, ?_⟩)
        rw [Array.empty_append]
        exact g
      · exact .inl (rest b ob m e)
    · by_cases m : b ∈ tb
      · rw [← htb] at m
        obtain ⟨p, hp, rfl⟩ := List.mem_map.mp m
        obtain ⟨more, g⟩ := grown p hp
        exact ⟨_, g⟩
      · exact ⟨ob, rest b ob m e⟩
theorem tab_call (inK : K.In z.heap) (gl : z.heap.Ns mainGlobals mg) (bl : z.heap.Ns builtinsNs mb) (boot : ∀ x : Str, x ≠ "__name__" → mb x = bootBuiltins x) (limit : z.heap.NoLimit) (noGen : z.gens = #[])
    (empty : ∀ p ∈ cs, z.heap.get? p.2 = some { cls := .none, data := .fields #[] }) (own : ∀ p ∈ cs, K.lookup p.2 = none) (head : ∀ p ∈ cs, PySem.W.CodeHd z.heap p.1 p.2)
    (bmod : ∃ (bm : Addr) (ob : Obj), mg "__builtins__" = some (.ref bm) ∧ bm ≠ builtinsNs ∧ z.heap.get? bm = some ob ∧ ob.cls = .type "module" ∧ ob.dict = some builtinsNs ∧ ob.data = .plain)
    (at_a : z.heap.get? a = some { cls := .type "list", data := .seq vs.toArray }) (isInts : IntsAre vs ns) (few : ns.length ≤ sizeLine) (room : Room k callerA)
    (F : ∀ base : Heap, K.In base → base.Ns mainGlobals mg → (∀ p ∈ cs, TabB base mg p.1 p.2) → Kept P w K mg base cx k fa fd [x] sp) (bound : ∀ (s : Shared) (u : Value), BindsTo s fd ⟨[u], []⟩ [(x, u)])
    (want : ∀ H : Hp, (∀ p ∈ cs, H p.2 = some (.tbl #[])) → SqL K H a (ns.map V.int) → sp [.ref a] H (fun v _ => v = .bl true) fun _ _ _ => False)
    (none_out : ∀ H e y, cx [] H z (fun _ _ _ => False) e y → False) :
    codeAny (model P w) callerA (.call (.ref fa) ⟨[.ref a], []⟩) (fun r y => r = .ok (.ret (.bool true)) ∧ OldK z.heap y.heap ∧ y.os = z.os ∧ AllBare y.gens) z := by
  have rel := vals_ints isInts
  have len := isInts.length
  have tab : ∀ o : Option HO, ∀ p ∈ cs, Start (cs.map (·.2)) a o p.2 = some (.tbl #[]) := fun o p hp => Start.tab (List.mem_map.mpr ⟨p, hp, rfl⟩)
  have aOut : a ∉ cs.map (·.2) := fun m => by
    obtain ⟨p, hp, e⟩ := List.mem_map.mp m
    have q := empty p hp
    rw [e, at_a] at q
    exact nomatch congrArg Obj.data (Option.some.inj q)
  cases hk : K.lookup a with
  | some ob =>
    obtain rfl := Option.some.inj ((inK a ob hk).symm.trans at_a)
    refine tab_core inK gl bl boot limit noGen empty own head bmod at_a room F bound none_out none (fun u e => nomatch e) (want _ (tab none) ?_)
    exact .inr ⟨_, vs.toArray, _, hk, rfl, rfl, rfl, by rw [List.size_toArray, len]; exact few, by simpa using rel⟩
  | none =>
    refine tab_core inK gl bl boot limit noGen empty own head bmod at_a room F bound none_out (some (.frz { cls := .type "list", data := .seq vs.toArray } (.lst (ns.map V.int)))) (fun u e => ?_) (want _ (tab _) (.inl (.inr ⟨{ cls := .type "list", data := .seq vs.toArray }, Start.scr aOut⟩)))
    obtain rfl := Option.some.inj e
    exact ⟨⟨_, _, rfl⟩, ⟨at_a, by rw [List.length_map]; exact few, vs, _, rel, at_a⟩, hk⟩
end
/-- the goal that the head leaves -/
theorem walkTsK {l : PySem.W.OpenLaw} {n k : Nat} {q : Program} {loose : List Str} {XP : (Str → Option Value) → Heap → Prop} {YP : World → Heap → Prop} {d : DefRec} {K : Params → PySem.W.Frag} {cx : World → CXT} {x : Str} {ys : List Str}
    (hn : l.most = some n) (hn2 : n ≤ sizeLine) (hdf : d.params.defaults = []) (room : Room k callerA) (hY : ∀ (w : World) (h : Heap), YP w h → (K w.params).In h) (hrec : (ys.all fun y => ((recsOf q).find? fun e => e.name == y).isSome) = true)
    (F : ∀ (w : World) (mg : Str → Option Value) (fa : Addr) (h : Heap), (K w.params).In h → h.Ns mainGlobals mg → mg d.name = some (.ref fa) → XP mg h →
      ∃ (fd : FuncData) (cs : List (Addr × Addr)) (sp : Sp), PySem.W.EachIs (fun (p : Addr × Addr) (y : Str) => PySem.W.tabIn (K w.params) y = some p ∧ (K w.params).lookup p.2 = none) cs ys ∧ (∀ (s : Shared) (u : Value), BindsTo s fd ⟨[u], []⟩ [(x, u)]) ∧
        (∀ (H : Hp) (a : Addr) (ns : List Int), ns.length ≤ n → (∀ p ∈ cs, H p.2 = some (.tbl #[])) → SqL (K w.params) H a (ns.map V.int) → sp [.ref a] H (fun v _ => v = .bl true) fun _ _ _ => False) ∧
        ∀ base : Heap, (K w.params).In base → base.Ns mainGlobals mg → (∀ p ∈ cs, TabB base mg p.1 p.2) → Kept l.prog w (K w.params) mg base (cx w) k fa fd [x] sp)
    (none_out : ∀ (w : World) (H : Hp) (s : Shared) (e : Value) (y : Shared), cx w [] H s (fun _ _ _ => False) e y → False) :
    PySem.W.WalkO q loose XP YP l.row.toRowW d [] (fun f vs => PySem.call f vs) := by
  refine Att.attach_callB hn hdf ?_
  intro w s₀ z mg mb fa o pm cd doc a vs ns G Y ho hd hcd hmg hobj hints hlen hbits hg
  have inK := hY w _ Y
  obtain ⟨fd, cs, sp, ht, hb, hsp, hF⟩ := F w mg fa _ inK G.T.g hmg G.X
  have each : ∀ p ∈ cs, (PySem.W.CodeHd z.heap p.1 p.2 ∧ z.heap.get? p.2 = some { cls := .none, data := .fields #[] }) ∧ (K w.params).lookup p.2 = none := by
    intro p hp
    obtain ⟨y, hy, e1, e2⟩ := each_of_mem ht p hp
    obtain ⟨rec, isRec⟩ := Option.isSome_iff_exists.mp (List.all_eq_true.mp hrec y hy)
    exact ⟨PySem.W.tab_of G.T inK isRec e1, e2⟩
  exact tab_call inK G.T.g G.T.b G.T.builtins G.T.nolimit hg (fun p hp => (each p hp).1.2) (fun p hp => (each p hp).2) (fun p hp => (each p hp).1.1) G.T.bmain hobj hints (Nat.le_trans hlen hn2) room hF hb
    (fun H tabs hS => hsp H a ns hlen tabs hS) fun H e y => none_out w H z e y
/-- a maker's promise, kept -/
theorem keptC {P : Program} {w : World} {K : PySem.W.Frag} {mg : Str → Option Value} {base : Heap} {x : Str} {st : Stmt} {f c : Addr} {fd : FuncData} {N ps : List Str} {k : Nat} {sp : Sp} (F : FunC K x st f fd c) (S : FnScope N ps (defScope st)) (long : ∀ vs H Q E, sp vs H Q E → vs.length = ps.length)
    (inner : ∀ (A : Around) (out : List Env) (s : Shared) (H : Hp) (xs : List V) (Q : VK) (E : XK), Room k (A.deeper (envOfC x (defScope st) s.heap.objs.size f (.ref c))) → Still (A.deeper (envOfC x (defScope st) s.heap.objs.size f (.ref c))) → sp xs H Q E →
      ∃ t, PSs (cxOf CX0 P w K mg base N x (defScope st) f (.ref c) A out s H E).nox (defBody st) t ∧ t { nx := fun _ H2 => Q .non H2, rt := Q } (start N xs) H) : Kept P w K mg base CX0 (k + 1) f fd ps sp := by
  obtain ⟨oc, od, kV, doc, pm, an, ct, osl, e, look, code⟩ := F.ex
  subst e
  refine Kept.ok look code S long fun A out s H xs Q E room still hsp => ?_
  obtain ⟨t, h, q⟩ := inner A out s H xs Q E room still hsp
  exact ⟨t, h.nox, q⟩
end Tg

set_option Elab.async false
set_option linter.all false
set_option maxRecDepth 100000
set_option maxHeartbeats 6400000
namespace K4
open PySem L2 Tx Tg Tm PySem.EBX LamX
/-! ### _law_met(lambda: ..) -/
def tMet (K : PySem.W.Frag) (CL CP CO CN CT : Addr) (T : List (Addr × Str)) (t : XK → TE) : TE := tLam T (TMet K 2 "good" (clM K CL CP CO CN CT)) t
section
variable {X : Cx} {CL CP CO CN CT fN fT fM : Addr} {dM : FuncData}
theorem pe_met {T : List (Addr × Str)} {c Pm : Addr} {params : Arguments} {body : Expr} {scope : Scope} {t : XK → TE} {p lpos pos : Pos} (k : Nat) (D : Df X.K X.mg "_law_met" sMet ["_law_call"] fM dM) (Tx : Txt X.K X.mg) (E : Er X.prog X.K X.mg CL CP CO CN CT fN fT) (still : Still X.A)
    (TB : TabB X.base X.mg c Pm) (hcode : X.env.code = .ref c) (hmT : (Pm, X.env.qual ++ "<lambda>") ∈ T) (hu : ∀ q ∈ T, q.1 = Pm → q.2 = X.env.qual ++ "<lambda>") (hr : Room (k + 2) X.A) (hg : Gl X "_law_met") (L : LamS X.env.scope scope) (hdef : defaultsOf params X.env = ([], []))
    (hbind : ∀ (q : Str) (cl : List (Str × Addr)) (pm cv ctv : Value), bindArgs (PySem.W.kla_fn "<lambda>" q params body scope cl pm cv ctv) ⟨[], []⟩ = pure [])
    (hbody : ∀ (A : Around) (outer : List Env) (s : Shared) (H : Hp) (E : XK) (f c' : Addr), Room k (A.deeper (lamEnv X scope s.heap.objs.size f c')) → PE (lamCx X A outer s H E scope f c') body (t E)) :
    PE X (.Call (.Name "_law_met" p) [.Lambda params body scope lpos] [] pos) (tMet X.K CL CP CO CN CT T t) := by
  obtain ⟨oc, od, kV, doc, pm, an, cdv, ct, osl, e, lk, hcg⟩ := D.F.ex
  have hb := D.b
  have hk := D.F.kp
  subst e
  exact pe_lamcall (k := k) hg D.m hk lk hcg hb scMet rfl (.inl rfl) (ok_met Tx E still hr) TB hcode hmT hu hr L hdef hbind hbody
end
/-- a call of a local that holds one of several defs with the same promise -/
def tCallF (i : Nat) (S : Addr → Prop) (sp : Sp) (E : XK) (t : TA) : TE := fun σ H Q => ∃ f, σ[i]? = some (some (.ref f)) ∧ S f ∧ t σ H fun vs H1 => sp vs H1 Q E
section
variable {X : Cx} {cx : CXT} {k i : Nat} {sp : Sp} {E : XK} {x : Str} {p pos : Pos} {e : Expr} {es : List Expr} {t : TA} {S : Addr → Prop}
theorem pe_callF (all : ∀ f, S f → ∃ (fd : FuncData) (ps : List Str), FnOk X.prog X.w X.K X.mg X.base cx k f fd ps sp ∧ PySem.W.keepIn X.K (.ref f) = true ∧ Binds X.K fd ps []) (hr : Room k X.A) (hN : X.N[i]? = some x) (hv : Vis X.env.scope x) (hx : Passes cx X E) (ha : PA X (e :: es) t)
    (hdb : (x == ("__debug__" : Str)) = false := by decide) (hcd : (x == ("__classdict__" : Str)) = false := by decide)
    (he : starEach (e :: es) X.env = (false, eval e X.env) :: starEach es X.env := by rfl) (hpl : (backTo pos (starEach es X.env)).any (·.1) = false := by rfl) : PE X (.Call (.Name x p) (e :: es) [] pos) (tCallF i S sp E t) := by
  constructor
  rintro pins s σ H Q I ⟨f, at_i, hS, ht⟩
  obtain ⟨fd, ps, F, keep, binds⟩ := all f hS
  have eta : (fun (vs : List V) (H1 : Hp) => sp (vs ++ []) H1 Q E) = fun vs H1 => sp vs H1 Q E := by
    funext vs H1
    rw [List.append_nil]
  refine (pe_callL (i := i) (f := f) (dvs := []) F hr hN hv keep binds .nil hx ha hdb hcd he hpl).run pins s σ H Q I ⟨at_i, ?_⟩
  show t σ H (fun vs H1 => sp (vs ++ []) H1 Q E)
  rw [eta]
  exact ht
end
/-! ### what is drawn -/
def ButN (c : Addr) (H H' : Hp) : Prop := ∀ b o, b ≠ c → H b = some o → (∀ ps, o ≠ .tbl ps) → H' b = some o
theorem ButN.of {c : Addr} {H H' : Hp} (b : But c H H') : ButN c H H' := fun a o n e _ => b a o n e
theorem ButN.ext {c : Addr} {H H' : Hp} (b : ExtN H H') : ButN c H H' := fun a o _ e n => b a o e n
theorem ButN.trans {c : Addr} {H H1 H2 : Hp} (a : ButN c H H1) (b : ButN c H1 H2) : ButN c H H2 := fun x o n e m => b x o n (a x o n e m) m
theorem Cup.ext {H H' : Hp} {c : Addr} (e : ExtN H H') (h : Cup H c) : Cup H' c := by
  obtain ⟨a0, a1, a2, h⟩ := h
  exact ⟨a0, a1, a2, e _ _ h fun ps q => nomatch q⟩
theorem tabs_but {T : List (Addr × Str)} {H H' : Hp} {c : Addr} (hc : Cup H c) (b : But c H H') (h : Tabs T H) : Tabs T H' := by
  have nc : ∀ {p : Addr} {o : HO}, H p = some o → (∀ l, o ≠ .lst l) → p ≠ c := fun e n z => by
    obtain ⟨a0, a1, a2, hc⟩ := hc
    rw [z, hc] at e
    exact n _ (Option.some.inj e).symm
  intro p hp
  obtain ⟨ps, h1, h2, h3⟩ := h p hp
  refine ⟨ps, b _ _ (nc h1 fun l q => nomatch q) h1, h2, fun pos cv e => ?_⟩
  obtain ⟨c1, e1, e2⟩ := h3 pos cv e
  refine ⟨c1, e1, b _ _ (nc e2 fun l q => ?_) e2⟩
  have q' : CodeO c1 p.2 = HO.lst l := q
  unfold CodeO at q'
  cases q'
theorem Val.but {H H' : Hp} {c : Addr} {v : V} {d : PyData} (hc : Cup H c) (b : But c H H') (h : Val H v d) : Val H' v d := by
  obtain ⟨a0, a1, a2, hc⟩ := hc
  cases h with
  | non => exact .non
  | bl b => exact .bl b
  | int n => exact .int n
  | str z => exact .str z
  | lst l h =>
    refine .lst l (b _ _ (fun z => ?_) h)
    rw [z, hc] at h
    cases l with
    | nil => cases h
    | cons x l => cases h
  | tup l h => exact .tup l (b _ _ (fun z => by rw [z, hc] at h; cases h) h)
  | tupI l h => exact .tupI l (b _ _ (fun z => by rw [z, hc] at h; cases h) h)
  | dct kvs h => exact .dct kvs (b _ _ (fun z => by rw [z, hc] at h; cases h) h)
theorem Val.extN {H H' : Hp} {v : V} {d : PyData} (b : ExtN H H') (h : Val H v d) : Val H' v d := by
  cases h with
  | non => exact .non
  | bl b => exact .bl b
  | int n => exact .int n
  | str z => exact .str z
  | lst l h => exact .lst l (b _ _ h fun _ q => nomatch q)
  | tup l h => exact .tup l (b _ _ h fun _ q => nomatch q)
  | tupI l h => exact .tupI l (b _ _ h fun _ q => nomatch q)
  | dct kvs h => exact .dct kvs (b _ _ h fun _ q => nomatch q)
/-- a value that is told as data of which R holds -/
def Drw (R : PyData → Prop) (H : Hp) (v : V) : Prop := ∃ d, Val H v d ∧ R d
theorem Drw.same {R : PyData → Prop} {H H' : Hp} {v : V} (s : Same H H') (h : Drw R H v) : Drw R H' v := h.imp fun d h => ⟨h.1.same s, h.2⟩
theorem Drw.but {R : PyData → Prop} {H H' : Hp} {c : Addr} {v : V} (hc : Cup H c) (b : But c H H') (h : Drw R H v) : Drw R H' v := h.imp fun d h => ⟨h.1.but hc b, h.2⟩
theorem Drw.extN {R : PyData → Prop} {H H' : Hp} {v : V} (s : ExtN H H') (h : Drw R H v) : Drw R H' v := h.imp fun d h => ⟨h.1.extN s, h.2⟩
theorem Drw.imp {R R' : PyData → Prop} {H : Hp} {v : V} (h : Drw R H v) (f : ∀ d, R d → R' d) : Drw R' H v := Exists.imp (fun d h => ⟨h.1, f d h.2⟩) h
end K4

set_option Elab.async false
set_option linter.all false
set_option maxRecDepth 100000
set_option maxHeartbeats 12800000
namespace K4
open PySem L2 Tx Tg Tm PySem.EBX LamX
theorem mul_ok {c : Nat} {n : Int} (h1 : 1 < n) (h2 : n ≤ 4001) : MulOk (one c) n := by
  have hl : (one c).length = 1 := rfl
  refine ⟨?_, fun _ _ => ?_, fun _ _ => ?_⟩
  · rw [decide_eq_false (by omega), decide_eq_false (by omega)]
    rfl
  · rw [hl]
    have : (1 : Int) ≤ (2 ^ 63 - 1) / n := by
      refine Int.le_ediv_of_mul_le (by omega) ?_
      omega
    omega
  · rw [hl, Nat.one_mul]
    have e : PySem.Builtin.Str.tooLong n.toNat = decide (n.toNat > sizeLine) := rfl
    rw [e]
    refine decide_eq_false ?_
    rw [sizeLine_eq]
    omega
section
variable {X : Cx}
theorem op_mulS : OpR X (binaryOp .Mult) (fun x y H Q => ∃ (c : Nat) (n : Int), x = .str (one c) ∧ y = .int n ∧ 1 < n ∧ n ≤ 4001 ∧ Q (.str (Txt.mul (one c) n)) H) := by
  intro pins s σ H x y v u Q I rx ry h
  obtain ⟨c, n, rfl, rfl, h1, h2, q⟩ := h
  obtain ⟨t, rfl⟩ := rx
  obtain ⟨t', rfl⟩ := ry
  exact SB.mul (mul_ok h1 h2) fun t2 k => ⟨.str (Txt.mul (one c) n), H, I.tok _, ⟨t2, rfl⟩, q⟩
end
abbrev spLdX (CL : Addr) : Sp := fun vs H _ E => ∃ (v u : V) (d e : PyData), vs = [v, u] ∧ Val H v d ∧ Ok d ∧ Val H u e ∧ Ok e ∧ letters d = false ∧ ∀ H', Same H H' → E (.ref CL) none H'
def two1 {α : Type} : List α → List α → List α
  | [a, b], [c] => [a, b, c]
  | _, _ => []
structure DfF (K : PySem.W.Frag) (mg : Str → Option Value) (f : Addr) (fd : FuncData) : Prop where
  F : Fun K "free_patterns" "free_patterns" sFree f fd
  m : mg "free_patterns" = some (.ref f)
  bK : KBinds K fd ["letters", "depth", "prime"] ["prime"] two1 two1
/-! ### drawn values, told by what is asked of them -/
def okB : PyData → Bool
  | .int n => decide (n.natAbs.log2 < 1920)
  | .str z => decide (z.length ≤ 4001) && decide ((met [] (cds z)).length < 64) && (cds z).all fun c => decide (c < 128)
  | d => d.showable && decide (d.depth < 60) && decide (d.shown.length ≤ sizeLine) && !inV (.str d.shown) four
theorem okB_ok {d : PyData} (h : okB d = true) : Ok d := by
  cases d with
  | int n =>
    show n.natAbs.log2 < 1920
    exact of_decide_eq_true h
  | str z =>
    simp only [okB, Bool.and_eq_true, decide_eq_true_eq, List.all_eq_true] at h
    exact ⟨h.1.1, h.1.2, h.2⟩
  | _ =>
    simp only [okB, Bool.and_eq_true, decide_eq_true_eq, Bool.not_eq_true'] at h
    exact ⟨h.1.1.1, h.1.1.2, h.1.2, h.2⟩
def shB (d : PyData) : Bool := d.showable && decide (d.depth < 60) && decide (d.shown.length ≤ 10000) && (cds d.shown).all fun c => decide (c < 128)
theorem shB_sh {K : PySem.W.Frag} {H : Hp} {v : V} {d : PyData} (h : shB d = true) (hv : Val H v d) : Shw K H v d := by
  simp only [shB, Bool.and_eq_true, decide_eq_true_eq] at h
  exact ⟨val_data hv, h.1.1.1, h.1.1.2, h.1.2⟩
theorem shB_plain {d : PyData} (h : shB d = true) : plainS d.shown := by
  simp only [shB, Bool.and_eq_true, decide_eq_true_eq, List.all_eq_true] at h
  exact h.2
def badB (a b : Int) : PyData → Bool
  | .int n => !isInt (.int n) || decide (n < a) || decide (b < n)
  | _ => true
theorem badB_bad {a b : Int} {H : Hp} {v : V} {d : PyData} (h : badB a b d = true) (hv : Val H v d) : BadN v d a b := by
  cases hv with
  | int n =>
    simp only [badB, Bool.or_eq_true, decide_eq_true_eq, Bool.not_eq_true'] at h
    rcases h with (h | h) | h
    · exact .inl h
    · exact .inr ⟨n, rfl, .inl h⟩
    · exact .inr ⟨n, rfl, .inr h⟩
  | _ => exact .inl rfl
def someB : PyData → Bool
  | .none => false
  | _ => true
theorem someB_ne {H : Hp} {v : V} {d : PyData} (h : someB d = true) (hv : Val H v d) : v ≠ .non := by
  cases hv with
  | non => cases h
  | _ => exact fun e => nomatch e
def strB : PyData → Bool
  | .str _ => true
  | _ => false
def letB : PyData → Bool
  | .str z => decide (z.length ≤ 3) && only z alpha && decide (z ≠ Str.empty) && decide ((cds z).Pairwise (· < ·))
  | _ => false
theorem letB_eq (d : PyData) : letters d = letB d := by
  cases d with
  | str z =>
    show (decide (z.length ≤ 3) && only z alpha && decide (z ≠ Str.empty) && decide (cds z = ups (cds z))) = (decide (z.length ≤ 3) && only z alpha && decide (z ≠ Str.empty) && decide ((cds z).Pairwise (· < ·)))
    congr 1
    exact decide_eq_decide.mpr ⟨fun h => by rw [h]; exact ups_up _, fun h => up_eq h (ups_up _) fun c => (ups_mem _ c).symm⟩
  | _ => rfl
abbrev R1 (d : PyData) : Bool := okB d && !letB d
abbrev R2 (d : PyData) : Bool := okB d && !has "ab" 400 d
abbrev R3 (d : PyData) : Bool := badB 1 5 d && shB d
abbrev R4 (d : PyData) : Bool := badB 1 400 d && shB d
abbrev R5 (d : PyData) : Bool := !prime d && someB d && shB d
abbrev R6 (d : PyData) : Bool := okB d && strB d && has "ab" 400 d && !isLd "ab" d
abbrev DrwB (R : PyData → Bool) (H : Hp) (v : V) : Prop := Drw (fun d => R d = true) H v
theorem drw_all {R : PyData → Bool} {H : Hp} : ∀ {xs : List V} {ds : List PyData}, PySem.W.EachIs (Val H) xs ds → ds.all R = true → ∀ x ∈ xs, DrwB R H x
  | _, _, .nil, _, x, h => nomatch h
  | _, _, .cons hv r, ha, x, h => by
    rw [List.all_cons, Bool.and_eq_true] at ha
    rcases List.mem_cons.mp h with rfl | h
    · exact ⟨_, hv, ha.1⟩
    · exact drw_all r ha.2 x h
theorem pick_drw {R : PyData → Bool} {xs : List V} {ds : List PyData} {H : Hp} {Q : VK} {c p : Addr} (hc : Cup H c) (np : p ≠ c) (hp : H p = some (.lst xs)) (h0 : 0 < xs.length) (h1 : xs.length < 100) (ea : PySem.W.EachIs (Val H) xs ds) (ha : ds.all R = true)
    (q : ∀ x H', DrwB R H' x → Cup H' c → But c H H' → Q x H') : spPick [.ref c, .ref p] H Q E0 :=
  ⟨c, hc, .inl ⟨p, xs, rfl, np, hp, h0, h1, fun x H' hx hc' b => q x H' ((drw_all ea ha x hx).but hc b) hc' b⟩⟩
abbrev ds1 : List PyData := [.none, .int 0, .str "", .str "ba", .str "aa", .str "abcd", .str "A", .tuple [.str "a"], .bool true]
abbrev ds2 : List PyData := [.none, .int 0, .str "c", .str "aB", .tuple [.str "a"], .list [.str "ab"], .str "a b", .bool true, .str (Txt.mul (one 97) 401)]
abbrev ds3 : List PyData := [.none, .int 0, .int (-1), .int 6, .bool true, .str "1", .tuple [.int 1], .int (10 ^ 60)]
abbrev ds4 : List PyData := [.none, .int 0, .int (-1), .int 401, .bool true, .str "1", .tuple [.int 1], .int (10 ^ 60)]
abbrev ds5 : List PyData := [.int 0, .int 1, .int 4, .int 11, .int (-2), .bool true, .str "2", .tuple [.int 2], .int (10 ^ 60)]
abbrev ds6 : List PyData := [.str "", .str "aa", .str "ba", .str "abab", .str "bab", .str (Txt.mul (one 98) 400)]
theorem ch1 : ds1.all R1 = true := by decide +kernel
theorem ch2 : ds2.all R2 = true := by decide +kernel
theorem ch3 : ds3.all R3 = true := by decide +kernel
theorem ch4 : ds4.all R4 = true := by decide +kernel
theorem ch5 : ds5.all R5 = true := by decide +kernel
theorem ch6 : ds6.all R6 = true := by decide +kernel
/-! ### the list of words grows -/
theorem tabs_put {T : List (Addr × Str)} {H : Hp} {D : Addr} {l : List V} {o : HO} (hD : H D = some (.lst l)) (h : Tabs T H) : Tabs T (upd H D o) := by
  have nd : ∀ {p : Addr} {u : HO}, H p = some u → (∀ l, u ≠ .lst l) → p ≠ D := fun e n z => by
    rw [z, hD] at e
    exact n _ (Option.some.inj e).symm
  intro p hp
  obtain ⟨ps, h1, h2, h3⟩ := h p hp
  refine ⟨ps, by rw [upd_ne (nd h1 fun l q => nomatch q)]; exact h1, h2, fun pos cv e => ?_⟩
  obtain ⟨c1, e1, e2⟩ := h3 pos cv e
  refine ⟨c1, e1, ?_⟩
  rw [upd_ne (nd e2 fun l q => ?_)]
  · exact e2
  · have q' : CodeO c1 p.2 = HO.lst l := q
    unfold CodeO at q'
    cases q'
structure St (T0 : List (Addr × Str)) (Hs : Hp) (D : Addr) (L : List Str) (H : Hp) : Prop where
  ext : ExtN Hs H
  tabs : Tabs T0 H
  at_ : H D = some (.lst (txs L))
/-- what a lambda comes to: the word wd -/
def Evl (K : PySem.W.Frag) (CL CP CO CN CT : Addr) (σ : L2.St) (H1 : Hp) (t : XK → TE) (wd : Str) : Prop := ∀ Q' : VK, (∀ H2, Same H1 H2 → Q' (.str wd) H2) → t (wM K CL CP CO CN CT Q') σ H1 (fun _ H' => Q' (.str "good") H')
theorem app_met {K : PySem.W.Frag} {CL CP CO CN CT D : Addr} {T0 : List (Addr × Str)} {σ : L2.St} {Hs H : Hp} {L : List Str} {wd : Str} {t : XK → TE} {Dn : Ends} {i : Nat} (h7 : σ[i]? = some (some (.ref D))) (st : St T0 Hs D L H) (hD : Hs D = none) (hl : L.length ≤ 100)
    (ev : ∀ H1, ExtN H H1 → Evl K CL CP CO CN CT σ H1 t wd) (q : ∀ H', St T0 Hs D (L ++ [wd]) H' → ButN D H H' → Dn.nx σ H') : tDrop (tBM K "list" rAppend (tVar i) (tCons (tMet K CL CP CO CN CT T0 t) tNil)) Dn σ H := by
  obtain ⟨e1, e2, e3⟩ := st
  refine ⟨_, h7, .inl ⟨rfl, _, SqL.of e3⟩, e2, fun H1 x1 T1 => ?_⟩
  refine ev H1 x1 _ fun H2 s2 => ?_
  have d2 : H2 D = some (.lst (txs L)) := s2 _ _ (x1 _ _ e3 fun ps z => nomatch z)
  have x2 : ExtN H H2 := x1.trans (ExtN.of s2)
  refine ⟨D, _, _, rfl, rfl, d2, ?_, ?_⟩
  · rw [List.length_map]
    exact Nat.lt_of_le_of_lt hl (by decide)
  · have et : txs L ++ [V.str wd] = txs (L ++ [wd]) := by
      exact (List.map_append (f := V.str) (l₁ := L) (l₂ := [wd])).symm
    rw [et]
    refine q _ ⟨fun b o e n => ?_, tabs_put d2 (T1.ext s2), upd_same⟩ fun b o nb e n => ?_
    · rw [upd_ne (ne_of_none e hD)]
      exact x2 b o (e1 b o e n) n
    · rw [upd_ne nb]
      exact x2 b o e n
abbrev qLR : Str := ("_law_right" : Str) ++ ".<locals>." ++ "<lambda>"
abbrev qLL : Str := ("law" : Str) ++ ".<locals>." ++ "<lambda>"
abbrev nRight : List Str := ["_law_cup_here", "_law_none", "_law_bad", "_law_deep", "_law_much", "_law_kind", "_law_lone", "_law_told", "_law_call", "_law_wrong", "_law_due"]
theorem scRight : FnScope nRight ["_law_cup_here"] (defScope sRight) := ⟨rfl, rfl, rfl, by decide +kernel, rfl, by decide +kernel, by decide +kernel⟩
def spRight (T0 : List (Addr × Str)) : Sp := fun vs H Q _ => ∃ (c : Addr), vs = [.ref c] ∧ Cup H c ∧ Tabs T0 H ∧ ∀ H', ButN c H H' → Cup H' c → Tabs T0 H' → Q (.bl true) H'
section
variable {P : Program} {w : World} {K : PySem.W.Frag} {mg : Str → Option Value} {base : Heap} {CL CP CO CN CT fN fT fPk fM fIL fFa fHv fBO fPO fFP fHM : Addr} {dPk dM dIL dFa dHv dBO dPO dFP dHM : FuncData}
structure Up (P : Program) (w : World) (K : PySem.W.Frag) (mg : Str → Option Value) (base : Heap) (CL CP CO CN CT fN fT fPk fM fIL fFa fHv fBO fPO fFP fHM : Addr) (dPk dM dIL dFa dHv dBO dPO dFP dHM : FuncData) : Prop where
  E : Er P K mg CL CP CO CN CT fN fT
  E5 : Ex5 K CL CP CO CN CT
  DPk : Df K mg "_law_pick" sPick ["_law_cup_here", "_law_items"] fPk dPk
  GPk : FnOk P w K mg base CX0 2 fPk dPk ["_law_cup_here", "_law_items"] spPick
  DM : Df K mg "_law_met" sMet ["_law_call"] fM dM
  DIL : Df K mg "is_leading" sIsLead ["letters", "value"] fIL dIL
  GIL : FnOk P w K mg base (L2.CX P w) 5 fIL dIL ["letters", "value"] (spLdX CL)
  DFa : Df K mg "factors" sFac ["letters", "pattern"] fFa dFa
  GFa : FnOk P w K mg base (L2.CX P w) 6 fFa dFa ["letters", "pattern"] (spNoPat CL CP)
  DHv : Df K mg "halves" sHalv ["letters", "pattern"] fHv dHv
  GHv : FnOk P w K mg base (L2.CX P w) 7 fHv dHv ["letters", "pattern"] (spHalX CL CP CO)
  DBO : Df K mg "bracket_of" sBO ["letters", "pattern"] fBO dBO
  GBO : FnOk P w K mg base (L2.CX P w) 7 fBO dBO ["letters", "pattern"] (spRef CL CP CO)
  DPO : Df K mg "patterns_of" sPO ["letters", "depth"] fPO dPO
  GPO : FnOk P w K mg base (L2.CX P w) 5 fPO dPO ["letters", "depth"] (spNum2 CL CN 1 5)
  DFP : DfF K mg fFP dFP
  GFP : FnOk P w K mg base (L2.CX P w) 5 fFP dFP ["letters", "depth", "prime"] (spFPX CL CN)
  DHM : Df K mg "how_many" sHowMany ["letters", "size"] fHM dHM
  GHM : FnOk P w K mg base (L2.CX P w) 5 fHM dHM ["letters", "size"] (spNum2 CL CN 1 400)
def SF (fFa fHv fBO : Addr) (f : Addr) : Prop := f = fFa ∨ f = fHv ∨ f = fBO
end
end K4

set_option Elab.async false
set_option linter.all false
set_option maxRecDepth 100000
set_option maxHeartbeats 12800000
namespace K4
open PySem L2 Tx Tg Tm PySem.EBX LamX
/-! ### what each lambda comes to -/
theorem r1_let {d : PyData} (h : R1 d = true) : Ok d ∧ letters d = false := by
  rw [Bool.and_eq_true] at h
  refine ⟨okB_ok h.1, ?_⟩
  rw [letB_eq]
  cases e : letB d with
  | false => rfl
  | true =>
    have := h.2
    rw [e] at this
    cases this
theorem r2_no {d : PyData} (h : R2 d = true) : Ok d ∧ has "ab" 400 d = false := by
  rw [Bool.and_eq_true] at h
  refine ⟨okB_ok h.1, ?_⟩
  cases e : has "ab" 400 d with
  | false => rfl
  | true =>
    have := h.2
    rw [e] at this
    cases this
theorem r3_of {d : PyData} (h : R3 d = true) : badB 1 5 d = true ∧ shB d = true := Bool.and_eq_true_iff.mp h
theorem r4_of {d : PyData} (h : R4 d = true) : badB 1 400 d = true ∧ shB d = true := Bool.and_eq_true_iff.mp h
theorem r5_of {d : PyData} (h : R5 d = true) : prime d = false ∧ someB d = true ∧ shB d = true := by
  obtain ⟨h1, h3⟩ := Bool.and_eq_true_iff.mp h
  obtain ⟨h1, h2⟩ := Bool.and_eq_true_iff.mp h1
  refine ⟨?_, h2, h3⟩
  cases e : prime d with
  | false => rfl
  | true =>
    rw [e] at h1
    cases h1
theorem r6_of {d : PyData} (h : R6 d = true) : Ok d ∧ has "ab" 400 d = true ∧ isLd "ab" d = false := by
  obtain ⟨h1, h4⟩ := Bool.and_eq_true_iff.mp h
  obtain ⟨h1, h3⟩ := Bool.and_eq_true_iff.mp h1
  obtain ⟨h1, h2⟩ := Bool.and_eq_true_iff.mp h1
  refine ⟨okB_ok h1, h3, ?_⟩
  cases e : isLd "ab" d with
  | false => rfl
  | true =>
    rw [e] at h4
    cases h4
theorem sgAB : Signs "ab" := .inl rfl
theorem okAB : Ok (.str "ab") := okB_ok (by decide +kernel)
theorem okBB : Ok (.str "b") := okB_ok (by decide +kernel)
theorem letAB : letters (.str "ab") = true := signs_letters sgAB
section
variable {K : PySem.W.Frag} {CL CP CO CN CT : Addr} {σ : L2.St} {H : Hp} {v u k : V} {d e b : PyData} {i j l : Nat} {lo hi : Int}
theorem ev_ld (X : Ex5 K CL CP CO CN CT) (hi : σ[i]? = some (some v)) (hj : σ[j]? = some (some u)) (a : Val H v d) (ra : R1 d = true) (b : Val H u e) (rb : R2 e = true) :
    Evl K CL CP CO CN CT σ H (fun E' => tCall (spLdX CL) [] E' (tCons (tVar i) (tCons (tVar j) tNil))) "letters" := fun Q' q =>
  ⟨v, hi, u, hj, v, u, d, e, rfl, a, (r1_let ra).1, b, (r2_no rb).1, (r1_let ra).2, fun H' s => met_L X (q H' s)⟩
theorem ev_noL (X : Ex5 K CL CP CO CN CT) {S : Addr → Prop} {f : Addr} (hl : σ[l]? = some (some (.ref f))) (hS : S f) (hi : σ[i]? = some (some v)) (hj : σ[j]? = some (some u)) (a : Val H v d) (ra : R1 d = true) (b : Val H u e) (rb : R2 e = true) :
    Evl K CL CP CO CN CT σ H (fun E' => tCallF l S (spNoPat CL CP) E' (tCons (tVar i) (tCons (tVar j) tNil))) "letters" := fun Q' q => by
  have lf := (r1_let ra).2
  refine ⟨f, hl, hS, v, hi, u, hj, v, u, d, e, rfl, a, (r1_let ra).1, b, (r2_no rb).1, .inl lf, fun sg h1 h2 => ?_, fun H' s => ⟨fun _ => met_L X (q H' s), fun h => ?_⟩⟩
  · rw [h1, signs_letters h2] at lf
    cases lf
  · rw [lf] at h
    cases h
theorem ev_noP (X : Ex5 K CL CP CO CN CT) {S : Addr → Prop} {f : Addr} (hl : σ[l]? = some (some (.ref f))) (hS : S f) (hj : σ[j]? = some (some u)) (b : Val H u e) (rb : R2 e = true) :
    Evl K CL CP CO CN CT σ H (fun E' => tCallF l S (spNoPat CL CP) E' (tCons (tC (.str "ab")) (tCons (tVar j) tNil))) "pattern" := fun Q' q => by
  refine ⟨f, hl, hS, u, hj, .str "ab", u, _, e, rfl, .str _, okAB, b, (r2_no rb).1, .of sgAB, fun sg h1 h2 => ?_, fun H' s => ⟨fun h => ?_, fun _ => met_P X (q H' s)⟩⟩
  · cases h1
    exact (r2_no rb).2
  · rw [letAB] at h
    cases h
theorem ev_numL (X : Ex5 K CL CP CO CN CT) (h1 : σ[i]? = some (some v)) (h2 : σ[j]? = some (some u)) (a : Val H v d) (ra : R1 d = true) (b : Val H u e) :
    Evl K CL CP CO CN CT σ H (fun E' => tCall (spNum2 CL CN lo hi) [] E' (tCons (tVar i) (tCons (tVar j) tNil))) "letters" := fun Q' q => by
  have lf := (r1_let ra).2
  refine ⟨v, h1, u, h2, v, u, d, e, rfl, a, (r1_let ra).1, b, fun h => ?_, fun H' s => ⟨fun _ => met_L X (q H' s), fun h => ?_⟩⟩
  · rw [lf] at h
    cases h
  · rw [lf] at h
    cases h
theorem ev_numN (X : Ex5 K CL CP CO CN CT) (h2 : σ[j]? = some (some u)) (b : Val H u e) (hb : badB lo hi e = true) (hs : shB e = true) :
    Evl K CL CP CO CN CT σ H (fun E' => tCall (spNum2 CL CN lo hi) [] E' (tCons (tC (.str "ab")) (tCons (tVar j) tNil))) (("number " : Str) ++ e.shown) := fun Q' q => by
  refine ⟨u, h2, .str "ab", u, _, e, rfl, .str _, okAB, b, fun _ => badB_bad hb b, fun H' s => ⟨fun h => ?_, fun _ => met_N X (fun H2 s2 => shB_sh hs (b.same (s.trans s2))) fun H2 s2 => q H2 (s.trans s2)⟩⟩
  rw [letAB] at h
  cases h
theorem ev_fpL (X : Ex5 K CL CP CO CN CT) (h1 : σ[i]? = some (some v)) (h2 : σ[j]? = some (some u)) (h3 : σ[l]? = some (some k)) (a : Val H v d) (ra : R1 d = true) (c : Val H u e) (hb : badB 1 5 e = true) (p : Val H k b) (r5 : R5 b = true) :
    Evl K CL CP CO CN CT σ H (fun E' => tCallK (spFPX CL CN) two1 E' (tCons (tVar i) (tCons (tVar j) tNil)) (tCons (tVar l) tNil)) "letters" := fun Q' q => by
  have lf := (r1_let ra).2
  refine ⟨v, h1, u, h2, k, h3, v, u, k, d, e, b, rfl, a, (r1_let ra).1, c, p, (r5_of r5).1, someB_ne (r5_of r5).2.1 p, .inl (badB_bad hb c), fun H' s => ⟨fun _ => met_L X (q H' s), fun h => ?_, fun h => ?_⟩⟩
  · rw [lf] at h
    cases h
  · rw [lf] at h
    cases h
theorem ev_fpN (X : Ex5 K CL CP CO CN CT) (h2 : σ[j]? = some (some u)) (h3 : σ[l]? = some (some k)) (c : Val H u e) (hb : badB 1 5 e = true) (hs : shB e = true) (p : Val H k b) (r5 : R5 b = true) :
    Evl K CL CP CO CN CT σ H (fun E' => tCallK (spFPX CL CN) two1 E' (tCons (tC (.str "ab")) (tCons (tVar j) tNil)) (tCons (tVar l) tNil)) (("number " : Str) ++ e.shown) := fun Q' q => by
  refine ⟨u, h2, k, h3, .str "ab", u, k, _, e, b, rfl, .str _, okAB, c, p, (r5_of r5).1, someB_ne (r5_of r5).2.1 p, .inl (badB_bad hb c), fun H' s => ⟨fun h => ?_, fun _ _ => met_N X (fun H2 s2 => shB_sh hs (c.same (s.trans s2))) fun H2 s2 => q H2 (s.trans s2), fun _ h => absurd (badB_bad hb c) h⟩⟩
  rw [letAB] at h
  cases h
theorem ev_fpP (X : Ex5 K CL CP CO CN CT) (h3 : σ[l]? = some (some k)) (p : Val H k b) (r5 : R5 b = true) :
    Evl K CL CP CO CN CT σ H (fun E' => tCallK (spFPX CL CN) two1 E' (tCons (tC (.str "ab")) (tCons (tC (.int 3)) tNil)) (tCons (tVar l) tNil)) (("number " : Str) ++ b.shown) := fun Q' q => by
  refine ⟨k, h3, .str "ab", .int 3, k, _, _, b, rfl, .str _, okAB, .int 3, p, (r5_of r5).1, someB_ne (r5_of r5).2.1 p, .inr ⟨3, rfl, by decide, by decide, rfl⟩, fun H' s => ⟨fun h => ?_, fun _ h => ?_, fun _ h => met_N X (fun H2 s2 => shB_sh (r5_of r5).2.2 (p.same (s.trans s2))) fun H2 s2 => q H2 (s.trans s2)⟩⟩
  · rw [letAB] at h
    cases h
  · rcases h with h | ⟨n, hn, h⟩
    · cases h
    · cases hn
      omega
theorem ev_hal (X : Ex5 K CL CP CO CN CT) (h2 : σ[j]? = some (some u)) (c : Val H u e) (r6 : R6 e = true) :
    Evl K CL CP CO CN CT σ H (fun E' => tCall (spHalX CL CP CO) [] E' (tCons (tC (.str "ab")) (tCons (tVar j) tNil))) "operation" := fun Q' q => by
  obtain ⟨o1, o2, o3⟩ := r6_of r6
  refine ⟨u, h2, .str "ab", u, _, e, rfl, .str _, okAB, c, o1, .of sgAB, fun sg h1 _ hl => ?_, fun H' s => ⟨fun h => ?_, fun sg h1 _ => ?_⟩⟩
  · cases h1
    rw [o3] at hl
    cases hl
  · rw [letAB] at h
    cases h
  · cases h1
    rw [if_pos o2]
    exact met_O X (q H' s)
theorem ev_bo (X : Ex5 K CL CP CO CN CT) (h2 : σ[j]? = some (some u)) (c : Val H u e) (r6 : R6 e = true) :
    Evl K CL CP CO CN CT σ H (fun E' => tCall (spRef CL CP CO) [] E' (tCons (tC (.str "ab")) (tCons (tVar j) tNil))) "operation" := fun Q' q => by
  obtain ⟨o1, o2, o3⟩ := r6_of r6
  refine ⟨u, h2, .str "ab", u, _, e, rfl, .str _, okAB, c, o1, .of sgAB, fun sg h1 _ => ?_, fun H' s => ⟨fun h => ?_, fun sg h1 _ => ?_⟩⟩
  · cases h1
    exact o3
  · rw [letAB] at h
    cases h
  · cases h1
    rw [if_pos o2]
    exact met_O X (q H' s)
theorem ev_halb (X : Ex5 K CL CP CO CN CT) :
    Evl K CL CP CO CN CT σ H (fun E' => tCall (spHalX CL CP CO) [] E' (tCons (tC (.str "ab")) (tCons (tC (.str "b")) tNil))) "operation" := fun Q' q => by
  refine ⟨.str "ab", .str "b", _, _, rfl, .str _, okAB, .str _, okBB, .of sgAB, fun sg h1 _ hl => ⟨"b", rfl, rfl⟩, fun H' s => ⟨fun h => ?_, fun sg h1 _ => ?_⟩⟩
  · rw [letAB] at h
    cases h
  · cases h1
    rw [if_pos (by decide +kernel)]
    exact met_O X (q H' s)
end
/-! ### a draw -/
def MkL (tl : TE) (σ : L2.St) (ds : List PyData) : Prop := ∀ (H : Hp) (Q : VK), (∀ p H' xs, H p = none → Same H H' → H' p = some (.lst xs) → PySem.W.EachIs (Val H') xs ds → Q (.ref p) H') → tl σ H Q
theorem each_len {H : Hp} : ∀ {xs : List V} {ds : List PyData}, PySem.W.EachIs (Val H) xs ds → xs.length = ds.length
  | _, _, .nil => rfl
  | _, _, .cons _ r => congrArg (· + 1) (each_len r)
theorem step_pick {tl : TE} {σ : L2.St} {H : Hp} {D : Ends} {i : Nat} {c : Addr} {ds : List PyData} {R : PyData → Bool} (h0 : σ[0]? = some (some (.ref c))) (hc : Cup H c) (ml : MkL tl σ ds) (ha : ds.all R = true) (h1 : 0 < ds.length) (h2 : ds.length < 100)
    (q : ∀ v d H', Val H' v d → R d = true → Cup H' c → But c H H' → D.nx (σ.set i (some v)) H') : tAsg (tCall spPick [] E0 (tCons (tVar 0) (tCons tl tNil))) (gName i) D σ H := by
  refine ⟨_, h0, ml _ _ fun p H1 xs np s1 hp ea => ?_⟩
  have hc1 : Cup H1 c := hc.same s1
  have n : p ≠ c := fun e => by
    obtain ⟨_, _, _, hc⟩ := hc
    rw [e, hc] at np
    cases np
  have le := each_len ea
  refine pick_drw hc1 n hp (by omega) (by omega) ea ha fun x H2 ⟨d, hv, hR⟩ hc2 b2 => q x d H2 hv hR hc2 fun a o na e => b2 a o na (s1 a o e)
end K4

set_option Elab.async false
set_option linter.all false
set_option maxRecDepth 100000
set_option maxHeartbeats 12800000
namespace K4
open PySem L2 Tx Tg Tm PySem.EBX LamX
theorem none_upd {H : Hp} {p a : Addr} {o : HO} (h : upd H a o p = none) : H p = none ∧ p ≠ a := by
  by_cases e : p = a
  · rw [e, upd_same] at h
    cases h
  · rw [upd_ne e] at h
    exact ⟨h, e⟩
theorem txs_plain {l : List Str} (h : ∀ z ∈ l, plainS z) : SeqAt.shaped (.list (l.map PyData.str)) = true := shaped_list fun d hd => by
  obtain ⟨z, hz, rfl⟩ := List.mem_map.mp hd
  exact ⟨lay_str (h z hz), Nat.zero_le _⟩
theorem all_txs (K : PySem.W.Frag) (H : Hp) : ∀ l : List Str, DpAll K H (txs l) (l.map PyData.str)
  | [] => .nil
  | c :: l => .cons (.str _) (all_txs K H l)
theorem txs_eqv : ∀ l : List Str, PyData.eqvAll (l.map PyData.str) (l.map PyData.str) = true
  | [] => rfl
  | c :: l => by
    show ((c == c) && PyData.eqvAll (l.map PyData.str) (l.map PyData.str)) = true
    rw [txs_eqv l, beq_self_eq_true]
    rfl
abbrev due (d3 d4 d5 : PyData) : List Str := ["letters", "letters", "pattern", "letters", "pattern", "letters", "pattern", "letters", ("number " : Str) ++ d3.shown, "letters", ("number " : Str) ++ d3.shown, ("number " : Str) ++ d5.shown, "letters", ("number " : Str) ++ d4.shown, "operation", "operation", "operation"]
theorem num_plain {d : PyData} (h : shB d = true) : plainS (("number " : Str) ++ d.shown) := fun c hc => by
  rw [cds_app] at hc
  rcases List.mem_append.mp hc with h1 | h1
  · exact (show ∀ c ∈ cds ("number " : Str), c < 128 by decide +kernel) c h1
  · exact shB_plain h c h1
theorem due_plain {d3 d4 d5 : PyData} (h3 : shB d3 = true) (h4 : shB d4 = true) (h5 : shB d5 = true) : ∀ z ∈ due d3 d4 d5, plainS z := by
  have kL : plainS "letters" := (show ∀ c ∈ cds "letters", c < 128 by decide +kernel)
  have kP : plainS "pattern" := (show ∀ c ∈ cds "pattern", c < 128 by decide +kernel)
  have kO : plainS "operation" := (show ∀ c ∈ cds "operation", c < 128 by decide +kernel)
  have k3 := num_plain h3
  have k4 := num_plain h4
  have k5 := num_plain h5
  intro z hz
  simp only [due, List.mem_cons, List.not_mem_nil, or_false] at hz
  rcases hz with rfl | rfl | rfl | rfl | rfl | rfl | rfl | rfl | rfl | rfl | rfl | rfl | rfl | rfl | rfl | rfl | rfl <;> assumption
theorem sz {n : Nat} (h : Nat.ble n 100 = true) : n ≤ sizeLine := Nat.le_trans (Nat.le_of_ble_eq_true h) (by decide)
theorem num_facts {K : PySem.W.Frag} {H : Hp} {v : V} {d : PyData} (hs : shB d = true) (hv : Val H v d) : Data K H v d ∧ d.showable = true ∧ d.depth < 60 ∧ d.shown.length ≤ sizeLine ∧ (("number " : Str)).length + d.shown.length ≤ sizeLine := by
  obtain ⟨g1, g2, g3, g4⟩ := shB_sh (K := K) hs hv
  exact ⟨g1, g2, g3, Nat.le_trans g4 (by decide), Nat.le_trans (Nat.add_le_add (show (("number " : Str)).length ≤ 100 by decide +kernel) g4) (by decide)⟩
theorem num_asg {K : PySem.W.Frag} {σ : L2.St} {H : Hp} {D : Ends} {i k : Nat} {v : V} {d : PyData} (hi : σ[i]? = some (some v)) (hv : Val H v d) (hs : shB d = true) (q : D.nx (σ.set k (some (.str (("number " : Str) ++ d.shown)))) H) :
    tAsg (tOp rAddStr (tC (.str "number ")) (tCB (rShow K) (tCons (tVar i) tNil))) (gName k) D σ H := by
  obtain ⟨g1, g2, g3, g4, g5⟩ := num_facts (K := K) hs hv
  exact ⟨v, hi, v, d, rfl, g1, g2, g3, g4, _, _, rfl, rfl, g5, q⟩
/-! ### the six lists -/
section
variable {P : Program} {w : World} {K : PySem.W.Frag} {mg : Str → Option Value} {base : Heap} {CL CP CO CN CT fN fT fPk fM fIL fFa fHv fBO fPO fFP fHM : Addr} {dPk dM dIL dFa dHv dBO dPO dFP dHM : FuncData}
theorem ok_right {f cR Pt : Addr} {fd : FuncData} {T0 : List (Addr × Str)} (F : Lp.FunC K "_law_right" sRight f fd cR) (TB : TabB base mg cR Pt) (hmT : (Pt, qLR) ∈ T0) (hmU : ∀ q ∈ T0, q.1 = Pt → q.2 = qLR) (T : Txt K mg)
    (U : Up P w K mg base CL CP CO CN CT fN fT fPk fM fIL fFa fHv fBO fPO fFP fHM dPk dM dIL dFa dHv dBO dPO dFP dHM) : Kept P w K mg base CX0 10 f fd ["_law_cup_here"] (spRight T0) := by
  obtain ⟨E, E5, DPk, GPk, DM, DIL, GIL, DFa, GFa, DHv, GHv, DBO, GBO, DPO, GPO, DFP, GFP, DHM, GHM⟩ := U
  have allF : ∀ f, SF fFa fHv fBO f → ∃ (fd : FuncData) (ps : List Str), FnOk P w K mg base (L2.CX P w) 7 f fd ps (spNoPat CL CP) ∧ PySem.W.keepIn K (.ref f) = true ∧ Binds K fd ps [] := by
    rintro f (rfl | rfl | rfl)
    · exact ⟨_, _, GFa.mono (by decide), DFa.F.kp, DFa.b⟩
    · exact ⟨_, _, GHv.imp fun vs H Q E h => ref_hal vs H Q E (noPat_ref (CO := CO) vs H Q E h), DHv.F.kp, DHv.b⟩
    · exact ⟨_, _, GBO.imp fun vs H Q E h => noPat_ref vs H Q E h, DBO.F.kp, DBO.b⟩
  refine keptC F scRight (fun vs H Q E h => ?_) (fun A outer s H vs Q E' hr still h => ?_)
  · obtain ⟨c, rfl, _⟩ := h
    rfl
  · obtain ⟨c, rfl, hc, hT, q⟩ := h
    refine ⟨_, (pss_cons (ps_set (i := 1) scRight.nd rfl (Or.inr rfl) (pe_call GPk (hr.mono (by decide)) (by rfl) DPk.m DPk.F.kp DPk.b .nil pass0 (pa_cons (pv 0) (pa_cons (pe_lst (pa_cons pe_non (pa_cons pe_int (pa_cons pe_str (pa_cons pe_str (pa_cons pe_str (pa_cons pe_str (pa_cons pe_str (pa_cons (pe_tup (pa_cons pe_str pa_nil)) (pa_cons pe_bl pa_nil)))))))))) pa_nil))))
    (pss_cons (ps_set (i := 2) scRight.nd rfl (Or.inr rfl) (pe_call GPk (hr.mono (by decide)) (by rfl) DPk.m DPk.F.kp DPk.b .nil pass0 (pa_cons (pv 0) (pa_cons (pe_lst (pa_cons pe_non (pa_cons pe_int (pa_cons pe_str (pa_cons pe_str (pa_cons (pe_tup (pa_cons pe_str pa_nil)) (pa_cons (pe_lst (pa_cons pe_str pa_nil)) (pa_cons pe_str (pa_cons pe_bl (pa_cons (pe_op op_mulS pe_str pe_int) pa_nil)))))))))) pa_nil))))
    (pss_cons (ps_set (i := 3) scRight.nd rfl (Or.inr rfl) (pe_call GPk (hr.mono (by decide)) (by rfl) DPk.m DPk.F.kp DPk.b .nil pass0 (pa_cons (pv 0) (pa_cons (pe_lst (pa_cons pe_non (pa_cons pe_int (pa_cons (pe_un un_neg pe_int) (pa_cons pe_int (pa_cons pe_bl (pa_cons pe_str (pa_cons (pe_tup (pa_cons pe_int pa_nil)) (pa_cons (pe_op op_pow pe_int pe_int) pa_nil))))))))) pa_nil))))
    (pss_cons (ps_set (i := 4) scRight.nd rfl (Or.inr rfl) (pe_call GPk (hr.mono (by decide)) (by rfl) DPk.m DPk.F.kp DPk.b .nil pass0 (pa_cons (pv 0) (pa_cons (pe_lst (pa_cons pe_non (pa_cons pe_int (pa_cons (pe_un un_neg pe_int) (pa_cons pe_int (pa_cons pe_bl (pa_cons pe_str (pa_cons (pe_tup (pa_cons pe_int pa_nil)) (pa_cons (pe_op op_pow pe_int pe_int) pa_nil))))))))) pa_nil))))
    (pss_cons (ps_set (i := 5) scRight.nd rfl (Or.inr rfl) (pe_call GPk (hr.mono (by decide)) (by rfl) DPk.m DPk.F.kp DPk.b .nil pass0 (pa_cons (pv 0) (pa_cons (pe_lst (pa_cons pe_int (pa_cons pe_int (pa_cons pe_int (pa_cons pe_int (pa_cons (pe_un un_neg pe_int) (pa_cons pe_bl (pa_cons pe_str (pa_cons (pe_tup (pa_cons pe_int pa_nil)) (pa_cons (pe_op op_pow pe_int pe_int) pa_nil)))))))))) pa_nil))))
    (pss_cons (ps_set (i := 6) scRight.nd rfl (Or.inr rfl) (pe_call GPk (hr.mono (by decide)) (by rfl) DPk.m DPk.F.kp DPk.b .nil pass0 (pa_cons (pv 0) (pa_cons (pe_lst (pa_cons pe_str (pa_cons pe_str (pa_cons pe_str (pa_cons pe_str (pa_cons pe_str (pa_cons (pe_op op_mulS pe_str pe_int) pa_nil))))))) pa_nil))))
    (pss_cons (ps_set (i := 7) scRight.nd rfl (Or.inl rfl) (pe_lst (pa_cons (pe_met 7 DM T E still TB rfl hmT hmU (hr.mono (by decide)) (by rfl) (lamS_by (sc := defScope sRight) (by decide +kernel)) rfl (fun _ _ _ _ _ => rfl) (fun A0 outer0 s0 H0 E0' f0 c0 hz => (pe_call GIL (hz.mono (by decide)) (by rfl) DIL.m DIL.F.kp DIL.b .nil (passes_call (takes_of rfl rfl rfl rfl) fun _ _ _ _ h => h) (pa_cons (pv 1) (pa_cons (pv 2) pa_nil))))) pa_nil)))
    (pss_cons (ps_for PassesOwn.never rfl (pi_tup (pe_tup (pa_cons (pe_glob (v := .ref fFa) (by rfl) DFa.m rfl) (pa_cons (pe_glob (v := .ref fHv) (by rfl) DHv.m rfl) (pa_cons (pe_glob (v := .ref fBO) (by rfl) DBO.m rfl) pa_nil))))) (pg_name (i := 8) scRight.nd rfl (Or.inr rfl))
      (pss_cons (ps_expr (pe_bm PySem.F.plainAttrs_list PySem.F.slot_list_append PySem.F.type_list_append mt_append (pv 7) (pa_cons (pe_met 7 DM T E still TB rfl hmT hmU (hr.mono (by decide)) (by rfl) (lamS_by (sc := defScope sRight) (by decide +kernel)) rfl (fun _ _ _ _ _ => rfl) (fun A0 outer0 s0 H0 E0' f0 c0 hz => (pe_callF (i := 8) (S := SF fFa fHv fBO) allF hz rfl (.inr (.inr rfl)) (passes_call (takes_of rfl rfl rfl rfl) fun _ _ _ _ h => h) (pa_cons (pv 1) (pa_cons (pv 2) pa_nil))))) pa_nil)))
      (pss_one (ps_expr (pe_bm PySem.F.plainAttrs_list PySem.F.slot_list_append PySem.F.type_list_append mt_append (pv 7) (pa_cons (pe_met 7 DM T E still TB rfl hmT hmU (hr.mono (by decide)) (by rfl) (lamS_by (sc := defScope sRight) (by decide +kernel)) rfl (fun _ _ _ _ _ => rfl) (fun A0 outer0 s0 H0 E0' f0 c0 hz => (pe_callF (i := 8) (S := SF fFa fHv fBO) allF hz rfl (.inr (.inr rfl)) (passes_call (takes_of rfl rfl rfl rfl) fun _ _ _ _ h => h) (pa_cons pe_str (pa_cons (pv 2) pa_nil))))) pa_nil))))))
    (pss_cons (ps_expr (pe_bm PySem.F.plainAttrs_list PySem.F.slot_list_append PySem.F.type_list_append mt_append (pv 7) (pa_cons (pe_met 7 DM T E still TB rfl hmT hmU (hr.mono (by decide)) (by rfl) (lamS_by (sc := defScope sRight) (by decide +kernel)) rfl (fun _ _ _ _ _ => rfl) (fun A0 outer0 s0 H0 E0' f0 c0 hz => (pe_call GPO (hz.mono (by decide)) (by rfl) DPO.m DPO.F.kp DPO.b .nil (passes_call (takes_of rfl rfl rfl rfl) fun _ _ _ _ h => h) (pa_cons (pv 1) (pa_cons (pv 3) pa_nil))))) pa_nil)))
    (pss_cons (ps_expr (pe_bm PySem.F.plainAttrs_list PySem.F.slot_list_append PySem.F.type_list_append mt_append (pv 7) (pa_cons (pe_met 7 DM T E still TB rfl hmT hmU (hr.mono (by decide)) (by rfl) (lamS_by (sc := defScope sRight) (by decide +kernel)) rfl (fun _ _ _ _ _ => rfl) (fun A0 outer0 s0 H0 E0' f0 c0 hz => (pe_call GPO (hz.mono (by decide)) (by rfl) DPO.m DPO.F.kp DPO.b .nil (passes_call (takes_of rfl rfl rfl rfl) fun _ _ _ _ h => h) (pa_cons pe_str (pa_cons (pv 3) pa_nil))))) pa_nil)))
    (pss_cons (ps_expr (pe_bm PySem.F.plainAttrs_list PySem.F.slot_list_append PySem.F.type_list_append mt_append (pv 7) (pa_cons (pe_met 7 DM T E still TB rfl hmT hmU (hr.mono (by decide)) (by rfl) (lamS_by (sc := defScope sRight) (by decide +kernel)) rfl (fun _ _ _ _ _ => rfl) (fun A0 outer0 s0 H0 E0' f0 c0 hz => (pe_callK GFP (hz.mono (by decide)) (by rfl) DFP.m DFP.F.kp DFP.bK (passes_call (takes_of rfl rfl rfl rfl) fun _ _ _ _ h => h) (pa_cons (pv 1) (pa_cons (pv 3) pa_nil)) (pk_cons (pv 5) pk_nil)))) pa_nil)))
    (pss_cons (ps_expr (pe_bm PySem.F.plainAttrs_list PySem.F.slot_list_append PySem.F.type_list_append mt_append (pv 7) (pa_cons (pe_met 7 DM T E still TB rfl hmT hmU (hr.mono (by decide)) (by rfl) (lamS_by (sc := defScope sRight) (by decide +kernel)) rfl (fun _ _ _ _ _ => rfl) (fun A0 outer0 s0 H0 E0' f0 c0 hz => (pe_callK GFP (hz.mono (by decide)) (by rfl) DFP.m DFP.F.kp DFP.bK (passes_call (takes_of rfl rfl rfl rfl) fun _ _ _ _ h => h) (pa_cons pe_str (pa_cons (pv 3) pa_nil)) (pk_cons (pv 5) pk_nil)))) pa_nil)))
    (pss_cons (ps_expr (pe_bm PySem.F.plainAttrs_list PySem.F.slot_list_append PySem.F.type_list_append mt_append (pv 7) (pa_cons (pe_met 7 DM T E still TB rfl hmT hmU (hr.mono (by decide)) (by rfl) (lamS_by (sc := defScope sRight) (by decide +kernel)) rfl (fun _ _ _ _ _ => rfl) (fun A0 outer0 s0 H0 E0' f0 c0 hz => (pe_callK GFP (hz.mono (by decide)) (by rfl) DFP.m DFP.F.kp DFP.bK (passes_call (takes_of rfl rfl rfl rfl) fun _ _ _ _ h => h) (pa_cons pe_str (pa_cons pe_int pa_nil)) (pk_cons (pv 5) pk_nil)))) pa_nil)))
    (pss_cons (ps_expr (pe_bm PySem.F.plainAttrs_list PySem.F.slot_list_append PySem.F.type_list_append mt_append (pv 7) (pa_cons (pe_met 7 DM T E still TB rfl hmT hmU (hr.mono (by decide)) (by rfl) (lamS_by (sc := defScope sRight) (by decide +kernel)) rfl (fun _ _ _ _ _ => rfl) (fun A0 outer0 s0 H0 E0' f0 c0 hz => (pe_call GHM (hz.mono (by decide)) (by rfl) DHM.m DHM.F.kp DHM.b .nil (passes_call (takes_of rfl rfl rfl rfl) fun _ _ _ _ h => h) (pa_cons (pv 1) (pa_cons (pv 4) pa_nil))))) pa_nil)))
    (pss_cons (ps_expr (pe_bm PySem.F.plainAttrs_list PySem.F.slot_list_append PySem.F.type_list_append mt_append (pv 7) (pa_cons (pe_met 7 DM T E still TB rfl hmT hmU (hr.mono (by decide)) (by rfl) (lamS_by (sc := defScope sRight) (by decide +kernel)) rfl (fun _ _ _ _ _ => rfl) (fun A0 outer0 s0 H0 E0' f0 c0 hz => (pe_call GHM (hz.mono (by decide)) (by rfl) DHM.m DHM.F.kp DHM.b .nil (passes_call (takes_of rfl rfl rfl rfl) fun _ _ _ _ h => h) (pa_cons pe_str (pa_cons (pv 4) pa_nil))))) pa_nil)))
    (pss_cons (ps_expr (pe_bm PySem.F.plainAttrs_list PySem.F.slot_list_append PySem.F.type_list_append mt_append (pv 7) (pa_cons (pe_met 7 DM T E still TB rfl hmT hmU (hr.mono (by decide)) (by rfl) (lamS_by (sc := defScope sRight) (by decide +kernel)) rfl (fun _ _ _ _ _ => rfl) (fun A0 outer0 s0 H0 E0' f0 c0 hz => (pe_call GHv (hz.mono (by decide)) (by rfl) DHv.m DHv.F.kp DHv.b .nil (passes_call (takes_of rfl rfl rfl rfl) fun _ _ _ _ h => h) (pa_cons pe_str (pa_cons (pv 6) pa_nil))))) pa_nil)))
    (pss_cons (ps_expr (pe_bm PySem.F.plainAttrs_list PySem.F.slot_list_append PySem.F.type_list_append mt_append (pv 7) (pa_cons (pe_met 7 DM T E still TB rfl hmT hmU (hr.mono (by decide)) (by rfl) (lamS_by (sc := defScope sRight) (by decide +kernel)) rfl (fun _ _ _ _ _ => rfl) (fun A0 outer0 s0 H0 E0' f0 c0 hz => (pe_call GBO (hz.mono (by decide)) (by rfl) DBO.m DBO.F.kp DBO.b .nil (passes_call (takes_of rfl rfl rfl rfl) fun _ _ _ _ h => h) (pa_cons pe_str (pa_cons (pv 6) pa_nil))))) pa_nil)))
    (pss_cons (ps_expr (pe_bm PySem.F.plainAttrs_list PySem.F.slot_list_append PySem.F.type_list_append mt_append (pv 7) (pa_cons (pe_met 7 DM T E still TB rfl hmT hmU (hr.mono (by decide)) (by rfl) (lamS_by (sc := defScope sRight) (by decide +kernel)) rfl (fun _ _ _ _ _ => rfl) (fun A0 outer0 s0 H0 E0' f0 c0 hz => (pe_call GHv (hz.mono (by decide)) (by rfl) DHv.m DHv.F.kp DHv.b .nil (passes_call (takes_of rfl rfl rfl rfl) fun _ _ _ _ h => h) (pa_cons pe_str (pa_cons pe_str pa_nil))))) pa_nil)))
    (pss_cons (ps_set (i := 9) scRight.nd rfl (Or.inl rfl) (pe_op op_add_str pe_str (pe_callB (call_show still hr.units) (by rfl) T.repr (by decide +kernel) (pa_cons (pv 3) pa_nil))))
    (pss_cons (ps_set (i := 10) scRight.nd rfl (Or.inl rfl) (pe_op op_cat (pe_op op_cat (pe_lst (pa_cons pe_str pa_nil)) (pe_op op_rep (pe_lst (pa_cons pe_str (pa_cons pe_str pa_nil))) pe_int)) (pe_lst (pa_cons pe_str (pa_cons (pv 9) (pa_cons pe_str (pa_cons (pv 9) (pa_cons (pe_op op_add_str pe_str (pe_callB (call_show still hr.units) (by rfl) T.repr (by decide +kernel) (pa_cons (pv 5) pa_nil))) pa_nil))))))))
    (pss_one (ps_ret (pe_cmpR (op_eqD hr.units) (pv 7) (pe_op op_cat (pe_op op_cat (pv 10) (pe_lst (pa_cons pe_str (pa_cons (pe_op op_add_str pe_str (pe_callB (call_show still hr.units) (by rfl) T.repr (by decide +kernel) (pa_cons (pv 4) pa_nil))) pa_nil)))) (pe_op op_rep (pe_lst (pa_cons pe_str pa_nil)) pe_int)) (nomark _)))))))))))))))))))))))), ?_⟩
    refine step_pick (ds := ds1) (R := R1) rfl hc (fun H Q q => ⟨by decide, fun p1 n1 => ⟨sz rfl, fun p n => q p _ _ (none_upd n).1 ((same_upd n1).trans (same_upd n)) upd_same (.cons .non (.cons (.int 0) (.cons (.str _) (.cons (.str _) (.cons (.str _) (.cons (.str _) (.cons (.str _) (.cons (.tup ["a"] (by rw [upd_ne (none_upd n).2.symm]; exact upd_same)) (.cons (.bl true) .nil)))))))))⟩⟩) ch1 (by decide) (by decide) fun v1 d1 H1 a1 r1 hc1 b1 => ?_
    have t1 := tabs_but hc b1 hT
    refine step_pick (ds := ds2) (R := R2) rfl hc1 (fun H Q q => ⟨by decide, fun p1 n1 => ⟨by decide, fun p2 n2 => ⟨97, 401, rfl, rfl, by decide, by decide, sz rfl, fun p n => q p _ _ (none_upd (none_upd n).1).1 (((same_upd n1).trans (same_upd n2)).trans (same_upd n)) upd_same
      (.cons .non (.cons (.int 0) (.cons (.str _) (.cons (.str _) (.cons (.tup ["a"] (by rw [upd_ne (none_upd (none_upd n).1).2.symm, upd_ne (none_upd n2).2.symm]; exact upd_same)) (.cons (.lst ["ab"] (by rw [upd_ne (none_upd n).2.symm]; exact upd_same)) (.cons (.str _) (.cons (.bl true) (.cons (.str _) .nil)))))))))⟩⟩⟩) ch2 (by decide) (by decide) fun v2 d2 H2 a2 r2 hc2 b2 => ?_
    have t2 := tabs_but hc1 b2 t1
    refine step_pick (ds := ds3) (R := R3) rfl hc2 (fun H Q q => ⟨1, rfl, by decide, fun p1 n1 => ⟨10, 60, rfl, rfl, ⟨by decide, by decide, by decide⟩, sz rfl, fun p n => q p _ _ (none_upd n).1 ((same_upd n1).trans (same_upd n)) upd_same
      (.cons .non (.cons (.int 0) (.cons (.int (-1)) (.cons (.int 6) (.cons (.bl true) (.cons (.str _) (.cons (.tupI [1] (by rw [upd_ne (none_upd n).2.symm]; exact upd_same)) (.cons (.int (10 ^ 60)) .nil))))))))⟩⟩) ch3 (by decide) (by decide) fun v3 d3 H3 a3 r3 hc3 b3 => ?_
    have t3 := tabs_but hc2 b3 t2
    refine step_pick (ds := ds4) (R := R4) rfl hc3 (fun H Q q => ⟨1, rfl, by decide, fun p1 n1 => ⟨10, 60, rfl, rfl, ⟨by decide, by decide, by decide⟩, sz rfl, fun p n => q p _ _ (none_upd n).1 ((same_upd n1).trans (same_upd n)) upd_same
      (.cons .non (.cons (.int 0) (.cons (.int (-1)) (.cons (.int 401) (.cons (.bl true) (.cons (.str _) (.cons (.tupI [1] (by rw [upd_ne (none_upd n).2.symm]; exact upd_same)) (.cons (.int (10 ^ 60)) .nil))))))))⟩⟩) ch4 (by decide) (by decide) fun v4 d4 H4 a4 r4 hc4 b4 => ?_
    have t4 := tabs_but hc3 b4 t3
    refine step_pick (ds := ds5) (R := R5) rfl hc4 (fun H Q q => ⟨2, rfl, by decide, fun p1 n1 => ⟨10, 60, rfl, rfl, ⟨by decide, by decide, by decide⟩, sz rfl, fun p n => q p _ _ (none_upd n).1 ((same_upd n1).trans (same_upd n)) upd_same
      (.cons (.int 0) (.cons (.int 1) (.cons (.int 4) (.cons (.int 11) (.cons (.int (-2)) (.cons (.bl true) (.cons (.str _) (.cons (.tupI [2] (by rw [upd_ne (none_upd n).2.symm]; exact upd_same)) (.cons (.int (10 ^ 60)) .nil)))))))))⟩⟩) ch5 (by decide) (by decide) fun v5 d5 H5 a5 r5 hc5 b5 => ?_
    have t5 := tabs_but hc4 b5 t4
    refine step_pick (ds := ds6) (R := R6) rfl hc5 (fun H Q q => ⟨98, 400, rfl, rfl, by decide, by decide, by decide, fun p n => q p _ _ n (same_upd n) upd_same
      (.cons (.str _) (.cons (.str _) (.cons (.str _) (.cons (.str _) (.cons (.str _) (.cons (.str _) .nil))))))⟩) ch6 (by decide) (by decide) fun v6 d6 H6 a6 r6 hc6 b6 => ?_
    have t6 := tabs_but hc5 b6 t5
    have c2 : Val H6 v2 d2 := (((a2.but hc2 b3).but hc3 b4).but hc4 b5).but hc5 b6
    have c1 : Val H6 v1 d1 := ((((a1.but hc1 b2).but hc2 b3).but hc3 b4).but hc4 b5).but hc5 b6
    have c3 : Val H6 v3 d3 := ((a3.but hc3 b4).but hc4 b5).but hc5 b6
    have c4 : Val H6 v4 d4 := (a4.but hc4 b5).but hc5 b6
    have c5 : Val H6 v5 d5 := a5.but hc5 b6
    have c6 : Val H6 v6 d6 := a6
    have bb : ButN c H H6 := (((((ButN.of b1).trans (.of b2)).trans (.of b3)).trans (.of b4)).trans (.of b5)).trans (.of b6)
    clear a1 a2 a3 a4 a5 a6 b1 b2 b3 b4 b5 b6 t1 t2 t3 t4 t5 hc1 hc2 hc3 hc4 hc5
    -- the first word
    refine ⟨t6, fun H7 x7 t7 => ev_ld E5 rfl rfl (c1.extN x7) r1 (c2.extN x7) r2 _ fun H8 s8 => ⟨by decide, fun D nD => ?_⟩⟩
    have x8 : ExtN H6 H8 := x7.trans (.of s8)
    have hD8 : H8 D = none := nD
    have st9 : St T0 H8 D ["letters"] (upd H8 D (.lst [.str "letters"])) := ⟨.of (same_upd nD), (t7.ext s8).ext (same_upd nD), upd_same⟩
    have vs8 : ∀ {H' : Hp}, ExtN H8 H' → Val H' v1 d1 ∧ Val H' v2 d2 ∧ Val H' v3 d3 ∧ Val H' v4 d4 ∧ Val H' v5 d5 ∧ Val H' v6 d6 := fun x => ⟨c1.extN (x8.trans x), c2.extN (x8.trans x), c3.extN (x8.trans x), c4.extN (x8.trans x), c5.extN (x8.trans x), c6.extN (x8.trans x)⟩
    have b3 := r3_of r3
    have b4 := r4_of r4
    have b5 := r5_of r5
    generalize hH9 : upd H8 D (.lst [.str "letters"]) = H9 at st9
    show _
    -- the loop over the three defs
    refine ⟨sz rfl, fun pT nT => ⟨pT, rfl, ⟨_, SqT.of upd_same⟩, ?_⟩⟩
    refine for_tup (xs := [.ref fFa, .ref fHv, .ref fBO]) (fun i σ H' => i ≤ 3 ∧ (∃ o, σ = [some (.ref c), some v1, some v2, some v3, some v4, some v5, some v6, some (.ref D), o, none, none]) ∧ H' pT = some (.tup [.ref fFa, .ref fHv, .ref fBO]) ∧ St T0 H8 D (("letters" : Str) :: (List.replicate i [("letters" : Str), "pattern"]).flatten) H') ?_ ?_ ?_ ?_
    · refine ⟨by decide, ⟨none, rfl⟩, upd_same, st9.ext.trans (.of (same_upd nT)), st9.tabs.ext (same_upd nT), ?_⟩
      exact same_upd nT _ _ st9.at_
    · rintro i σ H' _ ⟨_, _, h, _⟩
      exact SqT.of h
    · rintro i x σ H' hx ⟨hi, ⟨o, rfl⟩, hp, st⟩
      have hD := hD8
      have lt : i < 3 := by
        by_cases h : i < 3
        · exact h
        · have : i = 3 := by omega
          subst this
          cases hx
      have hf : ∃ f, x = .ref f ∧ SF fFa fHv fBO f := by
        match i, hx with
        | 0, hx => exact ⟨fFa, (Option.some.inj hx).symm, .inl rfl⟩
        | 1, hx => exact ⟨fHv, (Option.some.inj hx).symm, .inr (.inl rfl)⟩
        | 2, hx => exact ⟨fBO, (Option.some.inj hx).symm, .inr (.inr rfl)⟩
      obtain ⟨g, rfl, hS⟩ := hf
      have ll : ((("letters" : Str) :: (List.replicate i [("letters" : Str), "pattern"]).flatten)).length ≤ 90 := by
        match i, lt with
        | 0, _ => decide
        | 1, _ => decide
        | 2, _ => decide
      have nt : pT ≠ D := fun e => by
        rw [e, st.at_] at hp
        cases hp
      refine app_met rfl st hD (Nat.le_trans ll (by decide)) (fun Ha xa => ev_noL E5 rfl hS rfl rfl (vs8 (st.ext.trans xa)).1 r1 (vs8 (st.ext.trans xa)).2.1 r2) fun Hb stb bb1 => ?_
      refine app_met rfl stb hD (by rw [List.length_append]; exact Nat.le_trans (Nat.add_le_add_right ll 1) (by decide)) (fun Ha xa => ev_noP E5 rfl hS rfl (vs8 (stb.ext.trans xa)).2.1 r2) fun He ste bb2 => ?_
      refine ⟨by omega, ⟨_, rfl⟩, bb2 _ _ nt (bb1 _ _ nt hp (fun _ e => nomatch e)) (fun _ e => nomatch e), ?_⟩
      match i, lt with
      | 0, _ => exact ste
      | 1, _ => exact ste
      | 2, _ => exact ste
    rintro σ Hk ⟨_, ⟨o, rfl⟩, hp, st⟩
    have hD := hD8
    refine app_met rfl st hD (Nat.le_of_ble_eq_true rfl) (fun Ha xa => ev_numL E5 rfl rfl (vs8 (st.ext.trans xa)).1 r1 (vs8 (st.ext.trans xa)).2.2.1) fun Ha sta _ => ?_
    clear st
    refine app_met rfl sta hD (Nat.le_of_ble_eq_true rfl) (fun Hx xa => ev_numN E5 rfl (vs8 (sta.ext.trans xa)).2.2.1 b3.1 b3.2) fun Hb stb _ => ?_
    clear sta
    refine app_met rfl stb hD (Nat.le_of_ble_eq_true rfl) (fun Hx xa => ev_fpL E5 rfl rfl rfl (vs8 (stb.ext.trans xa)).1 r1 (vs8 (stb.ext.trans xa)).2.2.1 b3.1 (vs8 (stb.ext.trans xa)).2.2.2.2.1 r5) fun Hc stc _ => ?_
    clear stb
    refine app_met rfl stc hD (Nat.le_of_ble_eq_true rfl) (fun Hx xa => ev_fpN E5 rfl rfl (vs8 (stc.ext.trans xa)).2.2.1 b3.1 b3.2 (vs8 (stc.ext.trans xa)).2.2.2.2.1 r5) fun Hd std _ => ?_
    clear stc
    refine app_met rfl std hD (Nat.le_of_ble_eq_true rfl) (fun Hx xa => ev_fpP E5 rfl (vs8 (std.ext.trans xa)).2.2.2.2.1 r5) fun He ste _ => ?_
    clear std
    refine app_met rfl ste hD (Nat.le_of_ble_eq_true rfl) (fun Ha xa => ev_numL E5 rfl rfl (vs8 (ste.ext.trans xa)).1 r1 (vs8 (ste.ext.trans xa)).2.2.2.1) fun Hf stf _ => ?_
    clear ste
    refine app_met rfl stf hD (Nat.le_of_ble_eq_true rfl) (fun Hx xa => ev_numN E5 rfl (vs8 (stf.ext.trans xa)).2.2.2.1 b4.1 b4.2) fun Hg stg _ => ?_
    clear stf
    refine app_met rfl stg hD (Nat.le_of_ble_eq_true rfl) (fun Hx xa => ev_hal E5 rfl (vs8 (stg.ext.trans xa)).2.2.2.2.2 r6) fun Hh sth _ => ?_
    clear stg
    refine app_met rfl sth hD (Nat.le_of_ble_eq_true rfl) (fun Hx xa => ev_bo E5 rfl (vs8 (sth.ext.trans xa)).2.2.2.2.2 r6) fun Hi sti _ => ?_
    clear sth
    refine app_met rfl sti hD (Nat.le_of_ble_eq_true rfl) (fun Hx xa => ev_halb E5) fun Hj st _ => ?_
    clear sti
    -- what is due
    obtain ⟨_, _, w3, w4, w5, _⟩ := vs8 st.ext
    refine num_asg rfl w3 b3.2 ?_
    obtain ⟨f1, f2, f3, f4, f5⟩ := num_facts (K := K) b5.2.2 w5
    refine ⟨sz rfl, fun q1 m1 => ⟨sz rfl, fun q2 m2 => ⟨q2, 3, _, rfl, rfl, upd_same, by decide, by decide, sz rfl, fun q3 m3 => ⟨q1, q3, _, _, rfl, rfl, ((same_upd m2).trans (same_upd m3)) _ _ upd_same, upd_same, sz rfl, fun q4 m4 => ⟨_, rfl, _, rfl, ?_⟩⟩⟩⟩⟩
    have z4 : ∀ o, Same Hj (upd _ q4 o) := fun o => (((same_upd (o := .lst [.str "letters"]) m1).trans (same_upd m2)).trans (same_upd m3)).trans (same_upd m4)
    obtain ⟨f1, f2, f3, f4, f5⟩ := num_facts (K := K) b5.2.2 (w5.same (z4 _))
    refine ⟨v5, rfl, v5, d5, rfl, f1, f2, f3, f4, _, _, rfl, rfl, f5, sz rfl, fun q5 m5 => ⟨q4, q5, _, _, rfl, rfl, (same_upd m5) _ _ upd_same, upd_same, sz rfl, fun q6 m6 => ?_⟩⟩
    have z6 : ∀ o, Same Hj (upd _ q6 o) := fun o => ((z4 _).trans (same_upd m5)).trans (same_upd m6)
    refine ⟨_, rfl, _, rfl, v4, rfl, v4, d4, rfl, ?_⟩
    obtain ⟨g1, g2, g3, g4, g5⟩ := num_facts (K := K) b4.2 (w4.same (z6 _))
    refine ⟨g1, g2, g3, g4, _, _, rfl, rfl, g5, sz rfl, fun q7 m7 => ⟨q6, q7, _, _, rfl, rfl, (same_upd m7) _ _ upd_same, upd_same, sz rfl, fun q8 m8 => ⟨sz rfl, fun q9 m9 => ⟨q9, 3, _, rfl, rfl, upd_same, by decide, by decide, sz rfl, fun qa ma => ⟨q8, qa, _, _, rfl, rfl, ((same_upd m9).trans (same_upd ma)) _ _ upd_same, upd_same, sz rfl, fun qb mb => ?_⟩⟩⟩⟩⟩
    have zb : ∀ o, Same Hj (upd _ qb o) := fun o => (((((z6 _).trans (same_upd m7)).trans (same_upd m8)).trans (same_upd m9)).trans (same_upd ma)).trans (same_upd mb)
    have sh := txs_plain (due_plain b3.2 b4.2 b5.2.2)
    have ee : PyData.eqv (.list ((due d3 d4 d5).map PyData.str)) (.list ((due d3 d4 d5).map PyData.str)) = true := txs_eqv _
    refine ⟨.list ((due d3 d4 d5).map PyData.str), .list ((due d3 d4 d5).map PyData.str), .lst (SqL.of (zb _ _ _ st.at_)) (all_txs K _ (due d3 d4 d5)), .lst (SqL.of upd_same) (all_txs K _ (due d3 d4 d5)), sh, sh, ?_⟩
    rw [ee]
    exact q _ (bb.trans (.ext ((x8.trans st.ext).trans (.of (zb _))))) (hc6.ext ((x8.trans st.ext).trans (.of (zb _)))) (st.tabs.ext (zb _))
end
end K4

set_option Elab.async false
set_option linter.all false
set_option maxRecDepth 100000
set_option maxHeartbeats 12800000
namespace K4
open PySem L2 Tx Tg Tm PySem.EBX LamX
abbrev nLaw : List Str := ["_law_script", "_law_at", "_law_cup_here", "_law_turn", "_law_told"]
def spLaw (K : PySem.W.Frag) (T0 : List (Addr × Str)) : Sp := fun vs H Q _ => ∃ (a : Addr) (ns : List Int), vs = [.ref a] ∧ SqL K H a (ns.map V.int) ∧ ns.length ≤ 63 ∧ Tabs T0 H ∧ ∀ H', Q (.bl true) H'
theorem scLaw : FnScope nLaw ["_law_script"] (defScope sLaw) := ⟨rfl, rfl, rfl, by decide +kernel, rfl, by decide +kernel, by decide +kernel⟩
/-- a list of the script stays where all but the tables stays -/
theorem seq_ext {K : PySem.W.Frag} {H H' : Hp} {a : Addr} {xs : List V} (s : ExtN H H') (h : SqL K H a xs) : SqL K H' a xs := by
  rcases h with (e | ⟨o, e⟩) | r
  · exact .inl (.inl (s _ _ e fun ps z => nomatch z))
  · exact .inl (.inr ⟨o, s _ _ e fun ps z => nomatch z⟩)
  · exact .inr r
section
variable {P : Program} {w : World} {K : PySem.W.Frag} {mg : Str → Option Value} {base : Heap} {CL CP CO CN CT fN fT fU fRt fM fBO fPO : Addr} {dU dRt dM dBO dPO : FuncData}
theorem ok_law {f cL Pt : Addr} {fd : FuncData} {T0 : List (Addr × Str)} (F : Lp.FunC K "law" sLaw f fd cL) (TB : TabB base mg cL Pt) (hmT : (Pt, qLL) ∈ T0) (hmU : ∀ q ∈ T0, q.1 = Pt → q.2 = qLL) (T : Txt K mg)
    (E : Er P K mg CL CP CO CN CT fN fT) (E5 : Ex5 K CL CP CO CN CT) (DM : Df K mg "_law_met" sMet ["_law_call"] fM dM)
    (DU : Df K mg "_law_cup" sCup ["_law_script", "_law_at"] fU dU) (GU : FnOk P w K mg base CX0 1 fU dU ["_law_script", "_law_at"] (spCup K))
    (DRt : Df K mg "_law_right" sRight ["_law_cup_here"] fRt dRt) (GRt : Kept P w K mg base CX0 10 fRt dRt ["_law_cup_here"] (spRight T0))
    (DBO : Df K mg "bracket_of" sBO ["letters", "pattern"] fBO dBO) (GBO : FnOk P w K mg base (L2.CX P w) 7 fBO dBO ["letters", "pattern"] (spBOG CT))
    (DPO : Df K mg "patterns_of" sPO ["letters", "depth"] fPO dPO) (GPO : FnOk P w K mg base CX0 5 fPO dPO ["letters", "depth"] (spPO K)) :
    Kept P w K mg base CX0 11 f fd ["_law_script"] (spLaw K T0) := by
  refine keptC F scLaw (fun vs H Q E h => ?_) (fun A outer s H vs Q E' hr still h => ?_)
  · obtain ⟨a, ns, rfl, _⟩ := h
    rfl
  · obtain ⟨a, ns, rfl, hS, hlen, hT, q⟩ := h
    refine ⟨_, (pss_cons (ps_for PassesOwn.never rfl (pi_range1 rfl T.range (pa_cons (pe_callB (call_max2 rfl) (by rfl) T.max (by decide +kernel) (pa_cons pe_int (pa_cons (pe_callB (call_min2 rfl) (by rfl) T.min (by decide +kernel) (pa_cons pe_int (pa_cons (pe_callB call_len_seq (by rfl) T.len PySem.boot_len (pa_cons (pv 0) pa_nil)) pa_nil))) pa_nil))) pa_nil)) (pg_name (i := 1) scLaw.nd rfl (Or.inl rfl))
      (pss_cons (ps_set (i := 2) scLaw.nd rfl (Or.inl rfl) (pe_call GU (hr.mono (by decide)) (by rfl) DU.m DU.F.kp DU.b .nil pass0 (pa_cons (pv 0) (pa_cons (pv 1) pa_nil))))
      (pss_one (ps_for PassesOwn.never rfl (pi_range1 rfl T.range (pa_cons pe_int pa_nil)) (pg_name (i := 3) scLaw.nd rfl (Or.inl rfl))
        (pss_one (ps_if (pt_not (pt_val (pe_callG GRt (hr.mono (by decide)) still (by rfl) DRt.m DRt.F.kp DRt.b .nil pass0 (pa_cons (pv 2) pa_nil)))) (pss_one (ps_ret pe_bl)) pss_nil))))))
    (pss_cons (ps_set (i := 4) scLaw.nd rfl (Or.inl rfl) (pe_lst (pa_cons (pe_met 7 DM T E still TB rfl hmT hmU (hr.mono (by decide)) (by rfl) (lamS_by (sc := defScope sLaw) (by decide +kernel)) rfl (fun _ _ _ _ _ => rfl) (fun A0 outer0 s0 H0 E0' f0 c0 hz => (pe_call GBO (hz.mono (by decide)) (by rfl) DBO.m DBO.F.kp DBO.b .nil (passes_call (takes_of rfl rfl rfl rfl) fun _ _ _ _ h => h) (pa_cons pe_str (pa_cons (pe_op op_add_str (pe_op op_mulS pe_str pe_int) pe_str) pa_nil))))) pa_nil)))
    (pss_cons (ps_expr (pe_bm PySem.F.plainAttrs_list PySem.F.slot_list_append PySem.F.type_list_append mt_append (pv 4) (pa_cons (pe_met 7 DM T E still TB rfl hmT hmU (hr.mono (by decide)) (by rfl) (lamS_by (sc := defScope sLaw) (by decide +kernel)) rfl (fun _ _ _ _ _ => rfl) (fun A0 outer0 s0 H0 E0' f0 c0 hz => (pe_call GBO (hz.mono (by decide)) (by rfl) DBO.m DBO.F.kp DBO.b .nil (passes_call (takes_of rfl rfl rfl rfl) fun _ _ _ _ h => h) (pa_cons pe_str (pa_cons pe_str pa_nil))))) pa_nil)))
    (pss_one (ps_ret (pe_cmpR (op_eqD hr.units) (pe_op op_cat (pv 4) (pe_lst (pa_cons (pe_callB call_len_seq (by rfl) T.len PySem.boot_len (pa_cons (pe_call GPO (hr.mono (by decide)) (by rfl) DPO.m DPO.F.kp DPO.b .nil pass0 (pa_cons pe_str (pa_cons pe_int pa_nil))) pa_nil)) pa_nil))) (pe_lst (pa_cons pe_str (pa_cons pe_str (pa_cons pe_int pa_nil)))) (nomark _))))))), ?_⟩
    have bj : ∀ n : Int, 0 ≤ n → n ≤ 63 → (-(2 ^ 62) ≤ (if (if n < 4 then n else 4) > 1 then (if n < 4 then n else 4) else 1) ∧ (if (if n < 4 then n else 4) > 1 then (if n < 4 then n else 4) else 1) < 2 ^ 62) ∧ (if (if n < 4 then n else 4) > 1 then (if n < 4 then n else 4) else (1 : Int)).toNat ≤ 4 := by
      intro n h0 h1
      repeat' split
      all_goals omega
    obtain ⟨⟨bj1, bj2⟩, bj3⟩ := bj (ns.map V.int).length (by omega) (by rw [List.length_map]; omega)
    refine ⟨_, rfl, a, _, rfl, .inl hS, _, _, rfl, _, _, rfl, _, rfl, bj1, bj2, for_range (n := _) (fun i σ H1 => ∃ u1 u2 u3 : Option V, σ = [some (.ref a), u1, u2, u3, none] ∧ SqL K H1 a (ns.map V.int) ∧ Tabs T0 H1) ⟨none, none, none, rfl, hS, hT⟩ ?_ ?_⟩
    · rintro k σ H1 hk ⟨u1, u2, u3, rfl, hS1, hT1⟩
      have hk3 : k < 4 := Nat.lt_of_lt_of_le hk bj3
      refine ⟨_, rfl, _, rfl, a, ns, k, congrArg (fun z => [V.ref a, V.int z]) (Int.zero_add _), hS1, hlen, by omega, fun c H2 nc s2 hc2 => ?_⟩
      refine ⟨_, rfl, by decide, by decide, for_range (n := _) (fun i σ H3 => ∃ u1 u3 : Option V, σ = [some (.ref a), u1, some (.ref c), u3, none] ∧ ExtN H1 H3 ∧ Tabs T0 H3 ∧ Cup H3 c) ⟨_, _, rfl, .of s2, hT1.ext s2, hc2⟩ ?_ ?_⟩
      · rintro j σ H3 hj ⟨u1, u3, rfl, x3, hT3, hc3⟩
        refine ⟨_, rfl, c, rfl, hc3, hT3, fun H4 b4 hc4 hT4 => ⟨_, rfl, iteF ?_⟩⟩
        exact ⟨_, _, rfl, fun b o e n => b4 b o (ne_of_none e nc) (x3 b o e n) n, hT4, hc4⟩
      · rintro σ H3 ⟨u1, u3, rfl, x3, hT3, hc3⟩
        exact ⟨_, _, _, rfl, seq_ext x3 hS1, hT3⟩
    rintro σ H1 ⟨u1, u2, u3, rfl, _, hT1⟩
    have mw : (("many " : Str) ++ (PyData.int 200).shown) = "many 200" := by decide +kernel
    refine ⟨hT1, fun H7 x7 t7 => ⟨97, 12, rfl, rfl, by decide, by decide, _, _, rfl, rfl, sz (by decide +kernel), _, rfl, .inr ⟨by decide +kernel, fun H8 s8 => met_M E5 (d := .int 200) (fun H9 s9 => ⟨val_data (.int 200), rfl, by decide, by decide +kernel⟩) fun H9 s9 => ?_⟩⟩⟩
    rw [mw]
    refine ⟨sz rfl, fun D nD => ?_⟩
    have st : St T0 H9 D ["many 200"] (upd H9 D (.lst [.str "many 200"])) := ⟨.of (same_upd nD), ((t7.ext s8).ext s9).ext (same_upd nD), upd_same⟩
    generalize upd H9 D (.lst [.str "many 200"]) = Ha at st
    refine app_met rfl st nD (Nat.le_of_ble_eq_true rfl) (wd := "good") (fun Hx xa Q' q' => ⟨_, rfl, .inl ⟨rfl, fun x H' s => q' H' s⟩⟩) fun Hb stb _ => ?_
    have l120 : ((txs (lineL "abc" 4)).length : Int) = 120 := by
      rw [List.length_map]
      decide +kernel
    refine ⟨_, rfl, "abc", 4, rfl, .inr (.inr (.inr rfl)), by decide, by decide, fun p H2 s2 e2 => ⟨p, _, rfl, .inr (SqT.of e2), ?_⟩⟩
    rw [l120]
    refine ⟨sz rfl, fun q1 m1 => ⟨D, q1, _, _, rfl, rfl, (s2.trans (same_upd m1)) _ _ stb.at_, upd_same, sz rfl, fun q2 m2 => ⟨sz rfl, fun q3 m3 => ?_⟩⟩⟩
    refine ⟨.list [.str "many 200", .str "good", .int 120], .list [.str "many 200", .str "good", .int 120], .lst (SqL.of ((same_upd m3) _ _ upd_same)) (.cons (.str _) (.cons (.str _) (.cons (.int _) .nil))), .lst (SqL.of upd_same) (.cons (.str _) (.cons (.str _) (.cons (.int _) .nil))), by decide +kernel, by decide +kernel, ?_⟩
    rw [show PyData.eqv (.list [.str "many 200", .str "good", .int 120]) (.list [.str "many 200", .str "good", .int 120]) = true from by decide +kernel]
    exact q _
end
end K4

set_option Elab.async false
set_option linter.all false
set_option maxRecDepth 100000
set_option maxHeartbeats 6400000
namespace K4
open PySem L2 PyProof.Rows Tx Tg Tm PySem.EBX
theorem df_mk {K : PySem.W.Frag} {h : Heap} {mg : Str → Option Value} {x : Str} {st : Stmt} {ps : List Str} {f : Addr} {oc kV dc pm cd ct : Value} {od an : Option Addr} {sl : Array (Option Value)} (X : K.In h) (G : h.Ns mainGlobals mg)
    (a : PySem.W.nsIn K mainGlobals x = some (some (.ref f))) (l : K.lookup f = some ⟨oc, od, .func (PySem.W.fnOf x x (defArgs st) (defBody st) (defScope st) .none kV dc pm an cd ct), sl⟩)
    (c : PySem.W.codeIn K cd x = true) (k : PySem.W.keepIn K (.ref f) = true)
    (hb : ∀ (kV doc pm : Value) (an : Option Addr) (cdv ct : Value) (us : List Value), us.length = ps.length → bindArgs (PySem.W.fnOf x x (defArgs st) (defBody st) (defScope st) .none kV doc pm an cdv ct) ⟨us, []⟩ = pure (ps.zip us)) :
    Df K mg x st ps f (PySem.W.fnOf x x (defArgs st) (defBody st) (defScope st) .none kV dc pm an cd ct) :=
  have F := fun_mk (st := st) l c k
  ⟨F, PySem.W.mg_of X G a, F.binds hb⟩
theorem kit_self {K : PySem.W.Frag} {C : Addr} : PySem.W.kitOne K (.ref C) (.ref C) = some true := by
  unfold PySem.W.kitOne
  rw [if_pos (beq_self_eq_true _)]
theorem dff_mk {K : PySem.W.Frag} {h : Heap} {mg : Str → Option Value} {f D : Addr} {oc dc pm cd ct : Value} {od an : Option Addr} {sl : Array (Option Value)} (X : K.In h) (G : h.Ns mainGlobals mg)
    (a : PySem.W.nsIn K mainGlobals "free_patterns" = some (some (.ref f))) (l : K.lookup f = some ⟨oc, od, .func (PySem.W.fnOf "free_patterns" "free_patterns" (defArgs sFree) (defBody sFree) (defScope sFree) .none (.ref D) dc pm an cd ct), sl⟩)
    (c : PySem.W.codeIn K cd "free_patterns" = true) (k : PySem.W.keepIn K (.ref f) = true) (kd : PySem.W.nsIn K D "prime" = some (some .none)) :
    DfF K mg f (PySem.W.fnOf "free_patterns" "free_patterns" (defArgs sFree) (defBody sFree) (defScope sFree) .none (.ref D) dc pm an cd ct) := by
  have F := fun_mk (st := sFree) l c k
  refine ⟨F, PySem.W.mg_of X G a, ⟨fun s us ws _ hl => ?_, fun r rz => ?_⟩⟩
  · match us, ws, hl with
    | [u1, u2], [w1], _ => exact .of_eq rfl
  · cases r with
    | nil => exact .nil
    | cons r1 r =>
      cases r with
      | nil => exact .nil
      | cons r2 r =>
        cases r with
        | cons _ _ => exact .nil
        | nil =>
          cases rz with
          | nil => exact .nil
          | cons r3 rz =>
            cases rz with
            | nil => exact .cons r1 (.cons r2 (.cons r3 .nil))
            | cons _ _ => exact .nil
theorem all_mk {l : PySem.W.OpenLaw} {w : World} {K : PySem.W.Frag} {h : Heap} {mg : Str → Option Value} {fa CM CW : Addr} (X : K.In h) (G : h.Ns mainGlobals mg) (hfa : mg "law" = some (.ref fa))
    (hx1 : ∃ n t, n = 10 ^ 200 ∧ mg "LEAST_TOO_LONG" = some (.int n t))
    {f1 : Addr} {od1 an1 : Option Addr} {sl1 : Array (Option Value)} {oc1 kV1 dc1 pm1 cd1 ct1 : Value}
    (a1 : PySem.W.nsIn K mainGlobals "is_integer" = some (some (.ref f1))) (l1 : K.lookup f1 = some ⟨oc1, od1, .func (PySem.W.fnOf "is_integer" "is_integer" (defArgs sInt) (defBody sInt) (defScope sInt) .none kV1 dc1 pm1 an1 cd1 ct1), sl1⟩) (c1 : PySem.W.codeIn K cd1 "is_integer" = true) (k1 : PySem.W.keepIn K (.ref f1) = true)
    {f2 : Addr} {od2 an2 : Option Addr} {sl2 : Array (Option Value)} {oc2 kV2 dc2 pm2 cd2 ct2 : Value}
    (a2 : PySem.W.nsIn K mainGlobals "is_letters" = some (some (.ref f2))) (l2 : K.lookup f2 = some ⟨oc2, od2, .func (PySem.W.fnOf "is_letters" "is_letters" (defArgs sLetters) (defBody sLetters) (defScope sLetters) .none kV2 dc2 pm2 an2 cd2 ct2), sl2⟩) (c2 : PySem.W.codeIn K cd2 "is_letters" = true) (k2 : PySem.W.keepIn K (.ref f2) = true)
    {f3 : Addr} {od3 an3 : Option Addr} {sl3 : Array (Option Value)} {oc3 kV3 dc3 pm3 cd3 ct3 : Value}
    (a3 : PySem.W.nsIn K mainGlobals "is_pattern" = some (some (.ref f3))) (l3 : K.lookup f3 = some ⟨oc3, od3, .func (PySem.W.fnOf "is_pattern" "is_pattern" (defArgs sPattern) (defBody sPattern) (defScope sPattern) .none kV3 dc3 pm3 an3 cd3 ct3), sl3⟩) (c3 : PySem.W.codeIn K cd3 "is_pattern" = true) (k3 : PySem.W.keepIn K (.ref f3) = true)
    {f4 : Addr} {od4 an4 : Option Addr} {sl4 : Array (Option Value)} {oc4 kV4 dc4 pm4 cd4 ct4 : Value}
    (a4 : PySem.W.nsIn K mainGlobals "is_prime" = some (some (.ref f4))) (l4 : K.lookup f4 = some ⟨oc4, od4, .func (PySem.W.fnOf "is_prime" "is_prime" (defArgs sIsPrime) (defBody sIsPrime) (defScope sIsPrime) .none kV4 dc4 pm4 an4 cd4 ct4), sl4⟩) (c4 : PySem.W.codeIn K cd4 "is_prime" = true) (k4 : PySem.W.keepIn K (.ref f4) = true)
    {f5 : Addr} {od5 an5 : Option Addr} {sl5 : Array (Option Value)} {oc5 kV5 dc5 pm5 cd5 ct5 : Value}
    (a5 : PySem.W.nsIn K mainGlobals "check_letters" = some (some (.ref f5))) (l5 : K.lookup f5 = some ⟨oc5, od5, .func (PySem.W.fnOf "check_letters" "check_letters" (defArgs sCheck) (defBody sCheck) (defScope sCheck) .none kV5 dc5 pm5 an5 cd5 ct5), sl5⟩) (c5 : PySem.W.codeIn K cd5 "check_letters" = true) (k5 : PySem.W.keepIn K (.ref f5) = true)
    {f6 : Addr} {od6 an6 : Option Addr} {sl6 : Array (Option Value)} {oc6 kV6 dc6 pm6 cd6 ct6 : Value}
    (a6 : PySem.W.nsIn K mainGlobals "has_only" = some (some (.ref f6))) (l6 : K.lookup f6 = some ⟨oc6, od6, .func (PySem.W.fnOf "has_only" "has_only" (defArgs sHas) (defBody sHas) (defScope sHas) .none kV6 dc6 pm6 an6 cd6 ct6), sl6⟩) (c6 : PySem.W.codeIn K cd6 "has_only" = true) (k6 : PySem.W.keepIn K (.ref f6) = true)
    {f7 : Addr} {od7 an7 : Option Addr} {sl7 : Array (Option Value)} {oc7 kV7 dc7 pm7 cd7 ct7 : Value}
    (a7 : PySem.W.nsIn K mainGlobals "check_pattern" = some (some (.ref f7))) (l7 : K.lookup f7 = some ⟨oc7, od7, .func (PySem.W.fnOf "check_pattern" "check_pattern" (defArgs sCPattern) (defBody sCPattern) (defScope sCPattern) .none kV7 dc7 pm7 an7 cd7 ct7), sl7⟩) (c7 : PySem.W.codeIn K cd7 "check_pattern" = true) (k7 : PySem.W.keepIn K (.ref f7) = true)
    {f8 : Addr} {od8 an8 : Option Addr} {sl8 : Array (Option Value)} {oc8 kV8 dc8 pm8 cd8 ct8 : Value}
    (a8 : PySem.W.nsIn K mainGlobals "check_between" = some (some (.ref f8))) (l8 : K.lookup f8 = some ⟨oc8, od8, .func (PySem.W.fnOf "check_between" "check_between" (defArgs sCBetween) (defBody sCBetween) (defScope sCBetween) .none kV8 dc8 pm8 an8 cd8 ct8), sl8⟩) (c8 : PySem.W.codeIn K cd8 "check_between" = true) (k8 : PySem.W.keepIn K (.ref f8) = true)
    {f9 : Addr} {od9 an9 : Option Addr} {sl9 : Array (Option Value)} {oc9 kV9 dc9 pm9 cd9 ct9 : Value}
    (a9 : PySem.W.nsIn K mainGlobals "check_prime" = some (some (.ref f9))) (l9 : K.lookup f9 = some ⟨oc9, od9, .func (PySem.W.fnOf "check_prime" "check_prime" (defArgs sCPrime) (defBody sCPrime) (defScope sCPrime) .none kV9 dc9 pm9 an9 cd9 ct9), sl9⟩) (c9 : PySem.W.codeIn K cd9 "check_prime" = true) (k9 : PySem.W.keepIn K (.ref f9) = true)
    {f10 : Addr} {od10 an10 : Option Addr} {sl10 : Array (Option Value)} {oc10 kV10 dc10 pm10 cd10 ct10 : Value}
    (a10 : PySem.W.nsIn K mainGlobals "check_some_prime" = some (some (.ref f10))) (l10 : K.lookup f10 = some ⟨oc10, od10, .func (PySem.W.fnOf "check_some_prime" "check_some_prime" (defArgs sCSome) (defBody sCSome) (defScope sCSome) .none kV10 dc10 pm10 an10 cd10 ct10), sl10⟩) (c10 : PySem.W.codeIn K cd10 "check_some_prime" = true) (k10 : PySem.W.keepIn K (.ref f10) = true)
    {f11 : Addr} {od11 an11 : Option Addr} {sl11 : Array (Option Value)} {oc11 kV11 dc11 pm11 cd11 ct11 : Value}
    (a11 : PySem.W.nsIn K mainGlobals "check_most" = some (some (.ref f11))) (l11 : K.lookup f11 = some ⟨oc11, od11, .func (PySem.W.fnOf "check_most" "check_most" (defArgs sMost) (defBody sMost) (defScope sMost) .none kV11 dc11 pm11 an11 cd11 ct11), sl11⟩) (c11 : PySem.W.codeIn K cd11 "check_most" = true) (k11 : PySem.W.keepIn K (.ref f11) = true)
    {f12 : Addr} {od12 an12 : Option Addr} {sl12 : Array (Option Value)} {oc12 kV12 dc12 pm12 cd12 ct12 : Value}
    (a12 : PySem.W.nsIn K mainGlobals "all_texts" = some (some (.ref f12))) (l12 : K.lookup f12 = some ⟨oc12, od12, .func (PySem.W.fnOf "all_texts" "all_texts" (defArgs sAll) (defBody sAll) (defScope sAll) .none kV12 dc12 pm12 an12 cd12 ct12), sl12⟩) (c12 : PySem.W.codeIn K cd12 "all_texts" = true) (k12 : PySem.W.keepIn K (.ref f12) = true)
    {f13 : Addr} {od13 an13 : Option Addr} {sl13 : Array (Option Value)} {oc13 kV13 dc13 pm13 cd13 ct13 : Value}
    (a13 : PySem.W.nsIn K mainGlobals "leading_factors" = some (some (.ref f13))) (l13 : K.lookup f13 = some ⟨oc13, od13, .func (PySem.W.fnOf "leading_factors" "leading_factors" (defArgs sLF) (defBody sLF) (defScope sLF) .none kV13 dc13 pm13 an13 cd13 ct13), sl13⟩) (c13 : PySem.W.codeIn K cd13 "leading_factors" = true) (k13 : PySem.W.keepIn K (.ref f13) = true)
    {f14 : Addr} {od14 an14 : Option Addr} {sl14 : Array (Option Value)} {oc14 kV14 dc14 pm14 cd14 ct14 : Value}
    (a14 : PySem.W.nsIn K mainGlobals "cut_in_halves" = some (some (.ref f14))) (l14 : K.lookup f14 = some ⟨oc14, od14, .func (PySem.W.fnOf "cut_in_halves" "cut_in_halves" (defArgs sCut) (defBody sCut) (defScope sCut) .none kV14 dc14 pm14 an14 cd14 ct14), sl14⟩) (c14 : PySem.W.codeIn K cd14 "cut_in_halves" = true) (k14 : PySem.W.keepIn K (.ref f14) = true)
    {f15 : Addr} {od15 an15 : Option Addr} {sl15 : Array (Option Value)} {oc15 kV15 dc15 pm15 cd15 ct15 : Value}
    (a15 : PySem.W.nsIn K mainGlobals "bracket_parts" = some (some (.ref f15))) (l15 : K.lookup f15 = some ⟨oc15, od15, .func (PySem.W.fnOf "bracket_parts" "bracket_parts" (defArgs sParts) (defBody sParts) (defScope sParts) .none kV15 dc15 pm15 an15 cd15 ct15), sl15⟩) (c15 : PySem.W.codeIn K cd15 "bracket_parts" = true) (k15 : PySem.W.keepIn K (.ref f15) = true)
    {f16 : Addr} {od16 an16 : Option Addr} {sl16 : Array (Option Value)} {oc16 kV16 dc16 pm16 cd16 ct16 : Value}
    (a16 : PySem.W.nsIn K mainGlobals "joined_runs" = some (some (.ref f16))) (l16 : K.lookup f16 = some ⟨oc16, od16, .func (PySem.W.fnOf "joined_runs" "joined_runs" (defArgs sJoin) (defBody sJoin) (defScope sJoin) .none kV16 dc16 pm16 an16 cd16 ct16), sl16⟩) (c16 : PySem.W.codeIn K cd16 "joined_runs" = true) (k16 : PySem.W.keepIn K (.ref f16) = true)
    {f17 : Addr} {od17 an17 : Option Addr} {sl17 : Array (Option Value)} {oc17 kV17 dc17 pm17 cd17 ct17 : Value}
    (a17 : PySem.W.nsIn K mainGlobals "undone_runs" = some (some (.ref f17))) (l17 : K.lookup f17 = some ⟨oc17, od17, .func (PySem.W.fnOf "undone_runs" "undone_runs" (defArgs sUndo) (defBody sUndo) (defScope sUndo) .none kV17 dc17 pm17 an17 cd17 ct17), sl17⟩) (c17 : PySem.W.codeIn K cd17 "undone_runs" = true) (k17 : PySem.W.keepIn K (.ref f17) = true)
    {f18 : Addr} {od18 an18 : Option Addr} {sl18 : Array (Option Value)} {oc18 kV18 dc18 pm18 cd18 ct18 : Value}
    (a18 : PySem.W.nsIn K mainGlobals "bracket_runs" = some (some (.ref f18))) (l18 : K.lookup f18 = some ⟨oc18, od18, .func (PySem.W.fnOf "bracket_runs" "bracket_runs" (defArgs sBRuns) (defBody sBRuns) (defScope sBRuns) .none kV18 dc18 pm18 an18 cd18 ct18), sl18⟩) (c18 : PySem.W.codeIn K cd18 "bracket_runs" = true) (k18 : PySem.W.keepIn K (.ref f18) = true)
    {f19 : Addr} {od19 an19 : Option Addr} {sl19 : Array (Option Value)} {oc19 kV19 dc19 pm19 cd19 ct19 : Value}
    (a19 : PySem.W.nsIn K mainGlobals "is_row_of_runs" = some (some (.ref f19))) (l19 : K.lookup f19 = some ⟨oc19, od19, .func (PySem.W.fnOf "is_row_of_runs" "is_row_of_runs" (defArgs sIsRow) (defBody sIsRow) (defScope sIsRow) .none kV19 dc19 pm19 an19 cd19 ct19), sl19⟩) (c19 : PySem.W.codeIn K cd19 "is_row_of_runs" = true) (k19 : PySem.W.keepIn K (.ref f19) = true)
    {f20 : Addr} {od20 an20 : Option Addr} {sl20 : Array (Option Value)} {oc20 kV20 dc20 pm20 cd20 ct20 : Value}
    (a20 : PySem.W.nsIn K mainGlobals "is_run" = some (some (.ref f20))) (l20 : K.lookup f20 = some ⟨oc20, od20, .func (PySem.W.fnOf "is_run" "is_run" (defArgs sIsRun) (defBody sIsRun) (defScope sIsRun) .none kV20 dc20 pm20 an20 cd20 ct20), sl20⟩) (c20 : PySem.W.codeIn K cd20 "is_run" = true) (k20 : PySem.W.keepIn K (.ref f20) = true)
    {f21 : Addr} {od21 an21 : Option Addr} {sl21 : Array (Option Value)} {oc21 kV21 dc21 pm21 cd21 ct21 : Value}
    (a21 : PySem.W.nsIn K mainGlobals "is_leading" = some (some (.ref f21))) (l21 : K.lookup f21 = some ⟨oc21, od21, .func (PySem.W.fnOf "is_leading" "is_leading" (defArgs sIsLead) (defBody sIsLead) (defScope sIsLead) .none kV21 dc21 pm21 an21 cd21 ct21), sl21⟩) (c21 : PySem.W.codeIn K cd21 "is_leading" = true) (k21 : PySem.W.keepIn K (.ref f21) = true)
    {f22 : Addr} {od22 an22 : Option Addr} {sl22 : Array (Option Value)} {oc22 kV22 dc22 pm22 cd22 ct22 : Value}
    (a22 : PySem.W.nsIn K mainGlobals "is_least_end" = some (some (.ref f22))) (l22 : K.lookup f22 = some ⟨oc22, od22, .func (PySem.W.fnOf "is_least_end" "is_least_end" (defArgs sLeast) (defBody sLeast) (defScope sLeast) .none kV22 dc22 pm22 an22 cd22 ct22), sl22⟩) (c22 : PySem.W.codeIn K cd22 "is_least_end" = true) (k22 : PySem.W.keepIn K (.ref f22) = true)
    {f23 : Addr} {od23 an23 : Option Addr} {sl23 : Array (Option Value)} {oc23 kV23 dc23 pm23 cd23 ct23 : Value}
    (a23 : PySem.W.nsIn K mainGlobals "factors" = some (some (.ref f23))) (l23 : K.lookup f23 = some ⟨oc23, od23, .func (PySem.W.fnOf "factors" "factors" (defArgs sFac) (defBody sFac) (defScope sFac) .none kV23 dc23 pm23 an23 cd23 ct23), sl23⟩) (c23 : PySem.W.codeIn K cd23 "factors" = true) (k23 : PySem.W.keepIn K (.ref f23) = true)
    {f24 : Addr} {od24 an24 : Option Addr} {sl24 : Array (Option Value)} {oc24 kV24 dc24 pm24 cd24 ct24 : Value}
    (a24 : PySem.W.nsIn K mainGlobals "halves" = some (some (.ref f24))) (l24 : K.lookup f24 = some ⟨oc24, od24, .func (PySem.W.fnOf "halves" "halves" (defArgs sHalv) (defBody sHalv) (defScope sHalv) .none kV24 dc24 pm24 an24 cd24 ct24), sl24⟩) (c24 : PySem.W.codeIn K cd24 "halves" = true) (k24 : PySem.W.keepIn K (.ref f24) = true)
    {f25 : Addr} {od25 an25 : Option Addr} {sl25 : Array (Option Value)} {oc25 kV25 dc25 pm25 cd25 ct25 : Value}
    (a25 : PySem.W.nsIn K mainGlobals "bracket_of" = some (some (.ref f25))) (l25 : K.lookup f25 = some ⟨oc25, od25, .func (PySem.W.fnOf "bracket_of" "bracket_of" (defArgs sBO) (defBody sBO) (defScope sBO) .none kV25 dc25 pm25 an25 cd25 ct25), sl25⟩) (c25 : PySem.W.codeIn K cd25 "bracket_of" = true) (k25 : PySem.W.keepIn K (.ref f25) = true)
    {f26 : Addr} {od26 an26 : Option Addr} {sl26 : Array (Option Value)} {oc26 kV26 dc26 pm26 cd26 ct26 : Value}
    (a26 : PySem.W.nsIn K mainGlobals "patterns_of" = some (some (.ref f26))) (l26 : K.lookup f26 = some ⟨oc26, od26, .func (PySem.W.fnOf "patterns_of" "patterns_of" (defArgs sPO) (defBody sPO) (defScope sPO) .none kV26 dc26 pm26 an26 cd26 ct26), sl26⟩) (c26 : PySem.W.codeIn K cd26 "patterns_of" = true) (k26 : PySem.W.keepIn K (.ref f26) = true)
    {f27 : Addr} {od27 an27 : Option Addr} {sl27 : Array (Option Value)} {oc27 kV27 dc27 pm27 cd27 ct27 : Value}
    (a27 : PySem.W.nsIn K mainGlobals "how_many" = some (some (.ref f27))) (l27 : K.lookup f27 = some ⟨oc27, od27, .func (PySem.W.fnOf "how_many" "how_many" (defArgs sHowMany) (defBody sHowMany) (defScope sHowMany) .none kV27 dc27 pm27 an27 cd27 ct27), sl27⟩) (c27 : PySem.W.codeIn K cd27 "how_many" = true) (k27 : PySem.W.keepIn K (.ref f27) = true)
    {f28 : Addr} {od28 an28 : Option Addr} {sl28 : Array (Option Value)} {oc28 kV28 dc28 pm28 cd28 ct28 : Value}
    (a28 : PySem.W.nsIn K mainGlobals "check_leading" = some (some (.ref f28))) (l28 : K.lookup f28 = some ⟨oc28, od28, .func (PySem.W.fnOf "check_leading" "check_leading" (defArgs sCLead) (defBody sCLead) (defScope sCLead) .none kV28 dc28 pm28 an28 cd28 ct28), sl28⟩) (c28 : PySem.W.codeIn K cd28 "check_leading" = true) (k28 : PySem.W.keepIn K (.ref f28) = true)
    {f29 : Addr} {od29 an29 : Option Addr} {sl29 : Array (Option Value)} {oc29 kV29 dc29 pm29 cd29 ct29 : Value}
    (a29 : PySem.W.nsIn K mainGlobals "_law_cup" = some (some (.ref f29))) (l29 : K.lookup f29 = some ⟨oc29, od29, .func (PySem.W.fnOf "_law_cup" "_law_cup" (defArgs sCup) (defBody sCup) (defScope sCup) .none kV29 dc29 pm29 an29 cd29 ct29), sl29⟩) (c29 : PySem.W.codeIn K cd29 "_law_cup" = true) (k29 : PySem.W.keepIn K (.ref f29) = true)
    {f30 : Addr} {od30 an30 : Option Addr} {sl30 : Array (Option Value)} {oc30 kV30 dc30 pm30 cd30 ct30 : Value}
    (a30 : PySem.W.nsIn K mainGlobals "_law_bit" = some (some (.ref f30))) (l30 : K.lookup f30 = some ⟨oc30, od30, .func (PySem.W.fnOf "_law_bit" "_law_bit" (defArgs sBit) (defBody sBit) (defScope sBit) .none kV30 dc30 pm30 an30 cd30 ct30), sl30⟩) (c30 : PySem.W.codeIn K cd30 "_law_bit" = true) (k30 : PySem.W.keepIn K (.ref f30) = true)
    {f31 : Addr} {od31 an31 : Option Addr} {sl31 : Array (Option Value)} {oc31 kV31 dc31 pm31 cd31 ct31 : Value}
    (a31 : PySem.W.nsIn K mainGlobals "_law_pick" = some (some (.ref f31))) (l31 : K.lookup f31 = some ⟨oc31, od31, .func (PySem.W.fnOf "_law_pick" "_law_pick" (defArgs sPick) (defBody sPick) (defScope sPick) .none kV31 dc31 pm31 an31 cd31 ct31), sl31⟩) (c31 : PySem.W.codeIn K cd31 "_law_pick" = true) (k31 : PySem.W.keepIn K (.ref f31) = true)
    {f32 : Addr} {od32 an32 : Option Addr} {sl32 : Array (Option Value)} {oc32 kV32 dc32 pm32 cd32 ct32 : Value}
    (a32 : PySem.W.nsIn K mainGlobals "_law_met" = some (some (.ref f32))) (l32 : K.lookup f32 = some ⟨oc32, od32, .func (PySem.W.fnOf "_law_met" "_law_met" (defArgs sMet) (defBody sMet) (defScope sMet) .none kV32 dc32 pm32 an32 cd32 ct32), sl32⟩) (c32 : PySem.W.codeIn K cd32 "_law_met" = true) (k32 : PySem.W.keepIn K (.ref f32) = true)
    {f33 : Addr} {od33 an33 : Option Addr} {sl33 : Array (Option Value)} {oc33 kV33 dc33 pm33 cd33 ct33 : Value}
    (a33 : PySem.W.nsIn K mainGlobals "_law_right" = some (some (.ref f33))) (l33 : K.lookup f33 = some ⟨oc33, od33, .func (PySem.W.fnOf "_law_right" "_law_right" (defArgs sRight) (defBody sRight) (defScope sRight) .none kV33 dc33 pm33 an33 cd33 ct33), sl33⟩) (c33 : PySem.W.codeIn K cd33 "_law_right" = true) (k33 : PySem.W.keepIn K (.ref f33) = true)
    {f34 : Addr} {od34 an34 : Option Addr} {sl34 : Array (Option Value)} {oc34 kV34 dc34 pm34 cd34 ct34 : Value}
    (a34 : PySem.W.nsIn K mainGlobals "law" = some (some (.ref f34))) (l34 : K.lookup f34 = some ⟨oc34, od34, .func (PySem.W.fnOf "law" "law" (defArgs sLaw) (defBody sLaw) (defScope sLaw) .none kV34 dc34 pm34 an34 cd34 ct34), sl34⟩) (c34 : PySem.W.codeIn K cd34 "law" = true) (k34 : PySem.W.keepIn K (.ref f34) = true)
    (aM : PySem.W.nsIn K mainGlobals "Made" = some (some (.ref CM)))
    (aW : PySem.W.nsIn K mainGlobals "Word" = some (some (.ref CW)))
    {fMi : Addr} {odMi anMi : Option Addr} {slMi : Array (Option Value)} {ocMi kVMi dcMi pmMi cdMi ctMi : Value}
    (aMi : PySem.W.findIn K (.ref CM) "__init__" = some (some (.ref fMi))) (iMi : PySem.W.isFn K (.ref fMi) = true) (lMi : K.lookup fMi = some ⟨ocMi, odMi, .func (PySem.W.fnOf "__init__" "Made.__init__" (defArgs sMadeInit) (defBody sMadeInit) (defScope sMadeInit) .none kVMi dcMi pmMi anMi cdMi ctMi), slMi⟩) (cMi : PySem.W.codeIn K cdMi "Made.__init__" = true) (kMi : PySem.W.keepIn K (.ref fMi) = true)
    {fWi : Addr} {odWi anWi : Option Addr} {slWi : Array (Option Value)} {ocWi kVWi dcWi pmWi cdWi ctWi : Value}
    (aWi : PySem.W.findIn K (.ref CW) "__init__" = some (some (.ref fWi))) (iWi : PySem.W.isFn K (.ref fWi) = true) (lWi : K.lookup fWi = some ⟨ocWi, odWi, .func (PySem.W.fnOf "__init__" "Word.__init__" (defArgs sWordInit) (defBody sWordInit) (defScope sWordInit) .none kVWi dcWi pmWi anWi cdWi ctWi), slWi⟩) (cWi : PySem.W.codeIn K cdWi "Word.__init__" = true) (kWi : PySem.W.keepIn K (.ref fWi) = true)
    (pgM : PySem.W.plainGet K CM Str.empty = true) (hdM : PySem.W.hasDictIn K CM = true) (poM : PySem.W.plainOver K CM = true) (saM : PySem.W.findIn K (.ref CM) "__setattr__" = some (some (.builtin "object.__setattr__"))) (mkM : PySem.W.makesIn K CM = true) (kcM : PySem.W.keepIn K (.ref CM) = true)
    (haM : PySem.W.findIn K (.ref CM) "__class__" = some (some (.builtin "object.__class__"))) (hmM : PySem.W.mroIn K CM (.type "object") = some true)
    (pgW : PySem.W.plainGet K CW Str.empty = true) (hdW : PySem.W.hasDictIn K CW = true) (poW : PySem.W.plainOver K CW = true) (saW : PySem.W.findIn K (.ref CW) "__setattr__" = some (some (.builtin "object.__setattr__"))) (mkW : PySem.W.makesIn K CW = true) (kcW : PySem.W.keepIn K (.ref CW) = true)
    (haW : PySem.W.findIn K (.ref CW) "__class__" = some (some (.builtin "object.__class__"))) (hmW : PySem.W.mroIn K CW (.type "object") = some true)
    (qHn : PySem.W.specialIn K (.builtin "object.__class__") "__get__" = some (some (.builtin "getset_descriptor.__get__"))) (qHt : PySem.W.takesIn K (.builtin "object.__class__") = some true)
    (nC : PySem.W.findIn K (.ref CM) "content" = some none)
    (nL : PySem.W.findIn K (.ref CW) "_letters" = some none)
    (nR : PySem.W.findIn K (.ref CW) "_runs" = some none)
    {cR0 PR0 : Addr} {oK0 : Value} {dK0 : Option Addr} {vsC0 : Array Value} {slC0 : Array (Option Value)} {cR1 PR1 : Addr} {oK1 : Value} {dK1 : Option Addr} {vsC1 : Array Value} {slC1 : Array (Option Value)} {fF DF : Addr} {odF anF : Option Addr} {slF : Array (Option Value)} {ocF dcF pmF cdF ctF : Value} {pp : Addr} {u1 u2 u3 u4 : Tok} {ddP : Option Addr} {nnP : Nat} {psP : Array (Option Value)} {CL CP CO CN CT : Addr} {nmN qN : Str} {NN : Addr} {bsN : List Value} {snN : List Str} {subN : List Value} {abN : Bool} {colN : Option Bool} {ddN : Option Addr} {x0N x1N x2N x3N x5N : Option Value} {fIN : Addr} {ocIN dcIN pmIN ctIN : Value} {odIN anIN : Option Addr} {cdaN ccN : Addr} {slIN : Array (Option Value)} {clIN : Value} {cldIN : Option Addr} {cslIN : Array (Option Value)} {cclIN : Value} {cddIN : Option Addr} {vsIN : Array Value} {ccsIN : Array (Option Value)} {fileIN : Str} {tfIN : Tok} {nmT qT : Str} {NT : Addr} {bsT : List Value} {snT : List Str} {subT : List Value} {abT : Bool} {colT : Option Bool} {ddT : Option Addr} {x0T x1T x2T x3T x5T : Option Value} {fIT : Addr} {ocIT dcIT pmIT ctIT : Value} {odIT anIT : Option Addr} {cdaT ccT : Addr} {slIT : Array (Option Value)} {clIT : Value} {cldIT : Option Addr} {cslIT : Array (Option Value)} {cclIT : Value} {cddIT : Option Addr} {vsIT : Array Value} {ccsIT : Array (Option Value)} {fileIT : Str} {tfIT : Tok}
    (gL : PySem.W.nsIn K mainGlobals "InvalidLetters" = some (some (.ref CL)))
    (xL : PySem.W.excIn K CL [.type "ValueError", .type "Exception", .type "BaseException", .type "object"] "ValueError.__new__" = true)
    (gP : PySem.W.nsIn K mainGlobals "InvalidPattern" = some (some (.ref CP)))
    (xP : PySem.W.excIn K CP [.type "ValueError", .type "Exception", .type "BaseException", .type "object"] "ValueError.__new__" = true)
    (gO : PySem.W.nsIn K mainGlobals "InvalidOperation" = some (some (.ref CO)))
    (xO : PySem.W.excIn K CO [.type "ValueError", .type "Exception", .type "BaseException", .type "object"] "ValueError.__new__" = true)
    (gN : PySem.W.nsIn K mainGlobals "InvalidNumber" = some (some (.ref CN)))
    (xLN : K.lookup CN = some (excClassObj nmN qN CN NN bsN bmIndex true snN subN abN colN ddN x0N x1N x2N x3N x5N "IndexError.__new__"))
    (saN : PySem.W.findIn K (.ref CN) "__setattr__" = some (some (.builtin "object.__setattr__")))
    (gaN : PySem.W.findIn K (.ref CN) "__getattribute__" = some (some (.builtin "BaseException.__getattribute__")))
    (ggN : PySem.W.findIn K (.ref CN) "__getattr__" = some none)
    (nbN : PySem.W.findIn K (.ref CN) "value" = some none)
    (inN : PySem.W.findIn K (.ref CN) "__init__" = some (some (.ref fIN)))
    (tiN : PySem.W.typeIn K (.ref fIN) = some (.type "function"))
    (suN : PySem.W.subIn K (.ref CN) (.type "IndexError") = some true)
    (hdN : PySem.W.hasDictIn K CN = true)
    (lIN : K.lookup fIN = some ⟨ocIN, odIN, .func (PySem.W.ksFn "__init__" "InvalidNumber.__init__" (defArgs sNumInit) (defBody sNumInit) (defScope sNumInit) .none .none dcIN pmIN anIN (.ref cdaN) ctIN ccN), slIN⟩)
    (cIN : PySem.W.codeIn K (.ref cdaN) "InvalidNumber.__init__" = true)
    (lcN : K.lookup ccN = some ⟨clIN, cldIN, .cell (some (.ref CN)), cslIN⟩)
    (ldN : K.lookup cdaN = some ⟨cclIN, cddIN, .fields vsIN, ccsIN⟩)
    (vfN : (vsIN[2]? : Option Value) = some (.str fileIN tfIN))
    (mfN : ((l.prog.main.file : Str) == fileIN) = true)
    (gT : PySem.W.nsIn K mainGlobals "TooMany" = some (some (.ref CT)))
    (xLT : K.lookup CT = some (excClassObj nmT qT CT NT bsT bmOver true snT subT abT colT ddT x0T x1T x2T x3T x5T "OverflowError.__new__"))
    (saT : PySem.W.findIn K (.ref CT) "__setattr__" = some (some (.builtin "object.__setattr__")))
    (gaT : PySem.W.findIn K (.ref CT) "__getattribute__" = some (some (.builtin "BaseException.__getattribute__")))
    (ggT : PySem.W.findIn K (.ref CT) "__getattr__" = some none)
    (nbT : PySem.W.findIn K (.ref CT) "limit" = some none)
    (inT : PySem.W.findIn K (.ref CT) "__init__" = some (some (.ref fIT)))
    (tiT : PySem.W.typeIn K (.ref fIT) = some (.type "function"))
    (suT : PySem.W.subIn K (.ref CT) (.type "OverflowError") = some true)
    (hdT : PySem.W.hasDictIn K CT = true)
    (lIT : K.lookup fIT = some ⟨ocIT, odIT, .func (PySem.W.ksFn "__init__" "TooMany.__init__" (defArgs sManyInit) (defBody sManyInit) (defScope sManyInit) .none .none dcIT pmIT anIT (.ref cdaT) ctIT ccT), slIT⟩)
    (cIT : PySem.W.codeIn K (.ref cdaT) "TooMany.__init__" = true)
    (lcT : K.lookup ccT = some ⟨clIT, cldIT, .cell (some (.ref CT)), cslIT⟩)
    (ldT : K.lookup cdaT = some ⟨cclIT, cddIT, .fields vsIT, ccsIT⟩)
    (vfT : (vsIT[2]? : Option Value) = some (.str fileIT tfIT))
    (mfT : ((l.prog.main.file : Str) == fileIT) = true)
    (kL : PySem.W.keepIn K (.ref CL) = true)
    (bL : PySem.W.subIn K (.ref CL) (.type "BaseException") = some true)
    (tL : PySem.W.typeIn K (.ref CL) = some (.type "type"))
    (iL : PySem.W.isClsIn K CL = true)
    (kP : PySem.W.keepIn K (.ref CP) = true)
    (bP : PySem.W.subIn K (.ref CP) (.type "BaseException") = some true)
    (tP : PySem.W.typeIn K (.ref CP) = some (.type "type"))
    (iP : PySem.W.isClsIn K CP = true)
    (kO : PySem.W.keepIn K (.ref CO) = true)
    (bO : PySem.W.subIn K (.ref CO) (.type "BaseException") = some true)
    (tO : PySem.W.typeIn K (.ref CO) = some (.type "type"))
    (iO : PySem.W.isClsIn K CO = true)
    (kN : PySem.W.keepIn K (.ref CN) = true)
    (bN : PySem.W.subIn K (.ref CN) (.type "BaseException") = some true)
    (tN : PySem.W.typeIn K (.ref CN) = some (.type "type"))
    (iN : PySem.W.isClsIn K CN = true)
    (kT : PySem.W.keepIn K (.ref CT) = true)
    (bT : PySem.W.subIn K (.ref CT) (.type "BaseException") = some true)
    (tT : PySem.W.typeIn K (.ref CT) = some (.type "type"))
    (iT : PySem.W.isClsIn K CT = true)
    (sLL : PySem.W.subIn K (.ref CL) (.ref CL) = some true)
    (sPL : PySem.W.subIn K (.ref CP) (.ref CL) = some false)
    (sPP : PySem.W.subIn K (.ref CP) (.ref CP) = some true)
    (sOL : PySem.W.subIn K (.ref CO) (.ref CL) = some false)
    (sOP : PySem.W.subIn K (.ref CO) (.ref CP) = some false)
    (sOO : PySem.W.subIn K (.ref CO) (.ref CO) = some true)
    (sNL : PySem.W.subIn K (.ref CN) (.ref CL) = some false)
    (sNP : PySem.W.subIn K (.ref CN) (.ref CP) = some false)
    (sNO : PySem.W.subIn K (.ref CN) (.ref CO) = some false)
    (sNN : PySem.W.subIn K (.ref CN) (.ref CN) = some true)
    (sTL : PySem.W.subIn K (.ref CT) (.ref CL) = some false)
    (sTP : PySem.W.subIn K (.ref CT) (.ref CP) = some false)
    (sTO : PySem.W.subIn K (.ref CT) (.ref CO) = some false)
    (sTN : PySem.W.subIn K (.ref CT) (.ref CN) = some false)
    (sTT : PySem.W.subIn K (.ref CT) (.ref CT) = some true)
    (noP : PySem.W.nsIn K cStatics "thirdparty.any" = some none)
    (top : (l.prog.main.scope.names.lookup ("super" : Str)).isSome = false)
    (iTM : PySem.W.kitOne K (.type "tuple") (.ref CM) = some false)
    (aF : PySem.W.nsIn K mainGlobals "free_patterns" = some (some (.ref fF)))
    (lF : K.lookup fF = some ⟨ocF, odF, .func (PySem.W.fnOf "free_patterns" "free_patterns" (defArgs sFree) (defBody sFree) (defScope sFree) .none (.ref DF) dcF pmF anF cdF ctF), slF⟩)
    (cF : PySem.W.codeIn K cdF "free_patterns" = true)
    (kF : PySem.W.keepIn K (.ref fF) = true)
    (dF : PySem.W.nsIn K DF "prime" = some (some .none))
    (aP : PySem.W.nsIn K mainGlobals "PRIMES" = some (some (.ref pp)))
    (lP : K.lookup pp = some ⟨.type "tuple", ddP, .seq #[.int 2 u1, .int 3 u2, .int 5 u3, .int 7 u4] nnP, psP⟩)
    (qC0 : cd33 = .ref cR0)
    (qL0 : K.lookup cR0 = some ⟨oK0, dK0, .fields vsC0, slC0⟩)
    (qV0 : (vsC0[11]? : Option Value) = some (.ref PR0))
    (qNo0 : K.lookup PR0 = none)
    (qC1 : cd34 = .ref cR1)
    (qL1 : K.lookup cR1 = some ⟨oK1, dK1, .fields vsC1, slC1⟩)
    (qV1 : (vsC1[11]? : Option Value) = some (.ref PR1))
    (qNo1 : K.lookup PR1 = none)
    (qU : PR0 ≠ PR1)
    (z1 : PySem.W.nsIn K mainGlobals "isinstance" = some none)
    (z2 : PySem.W.nsIn K mainGlobals "int" = some none)
    (z3 : PySem.W.nsIn K mainGlobals "str" = some none)
    (z4 : PySem.W.nsIn K mainGlobals "bool" = some none)
    (z5 : PySem.W.nsIn K mainGlobals "abs" = some none)
    (z6 : PySem.W.nsIn K mainGlobals "len" = some none)
    (z7 : PySem.W.nsIn K mainGlobals "list" = some none)
    (z8 : PySem.W.nsIn K mainGlobals "set" = some none)
    (z9 : PySem.W.nsIn K mainGlobals "sorted" = some none)
    (z10 : PySem.W.nsIn K mainGlobals "repr" = some none)
    (z11 : PySem.W.nsIn K mainGlobals "range" = some none)
    (z12 : PySem.W.nsIn K mainGlobals "max" = some none)
    (z13 : PySem.W.nsIn K mainGlobals "min" = some none)
    (z14 : PySem.W.nsIn K mainGlobals "all" = some none)
    (z15 : PySem.W.nsIn K mainGlobals "sum" = some none)
    (z16 : PySem.W.nsIn K mainGlobals "tuple" = some none)
    (z17 : PySem.W.nsIn K mainGlobals "dict" = some none)
    (z18 : PySem.W.nsIn K mainGlobals "zip" = some none)
    (z19 : PySem.W.nsIn K mainGlobals "enumerate" = some none)
    (z20 : PySem.W.nsIn K mainGlobals "super" = some none)
    {t1 : Tok} (v1 : PySem.W.nsIn K mainGlobals "ALPHABET" = some (some (.str alpha t1)))
    {t2 : Tok} (v2 : PySem.W.nsIn K mainGlobals "MAX_LETTERS" = some (some (.int 3 t2)))
    {t3 : Tok} (v3 : PySem.W.nsIn K mainGlobals "MAX_TEXT" = some (some (.int 4000 t3)))
    {t4 : Tok} (v4 : PySem.W.nsIn K mainGlobals "MAX_RUNS" = some (some (.int 200 t4)))
    {t5 : Tok} (v5 : PySem.W.nsIn K mainGlobals "MAX_PATTERN" = some (some (.int 400 t5)))
    {t6 : Tok} (v6 : PySem.W.nsIn K mainGlobals "MAX_DEPTH" = some (some (.int 5 t6)))
    {t7 : Tok} (v7 : PySem.W.nsIn K mainGlobals "FAR_TOO_MANY_RUNS" = some (some (.int 2000 t7))) :
    ∃ (fd : FuncData) (cs : List (Addr × Addr)) (sp : Sp), PySem.W.EachIs (fun (p : Addr × Addr) (y : Str) => PySem.W.tabIn K y = some p ∧ K.lookup p.2 = none) cs (["_law_right", "law"] : List Str) ∧ (∀ (s : Shared) (v : Value), BindsTo s fd ⟨[v], []⟩ [("_law_script", v)]) ∧
      (∀ (H : Hp) (a : Addr) (ns : List Int), ns.length ≤ 63 → (∀ p ∈ cs, H p.2 = some (.tbl #[])) → SqL K H a (ns.map V.int) → sp [.ref a] H (fun v _ => v = .bl true) fun _ _ _ => False) ∧
      ∀ base : Heap, K.In base → base.Ns mainGlobals mg → (∀ p ∈ cs, LamX.TabB base mg p.1 p.2) → Kept l.prog w K mg base CX0 11 fa fd ["_law_script"] sp := by
  have e := hfa.symm.trans (PySem.W.mg_of X G a34)
  cases e
  obtain ⟨n1, t01, en1, hx1⟩ := hx1
  subst en1
  have T : Txt K mg := ⟨PySem.W.mg_none_of X G z1, PySem.W.mg_none_of X G z2, PySem.W.mg_none_of X G z3, PySem.W.mg_none_of X G z4, PySem.W.mg_none_of X G z5, PySem.W.mg_none_of X G z6, PySem.W.mg_none_of X G z7, PySem.W.mg_none_of X G z8, PySem.W.mg_none_of X G z9, PySem.W.mg_none_of X G z10, PySem.W.mg_none_of X G z11, PySem.W.mg_none_of X G z12, PySem.W.mg_none_of X G z13, PySem.W.mg_none_of X G z14, PySem.W.mg_none_of X G z15, PySem.W.mg_none_of X G z16, ⟨_, hx1⟩, ⟨_, PySem.W.mg_of X G v1⟩, ⟨_, PySem.W.mg_of X G v2⟩, ⟨_, PySem.W.mg_of X G v3⟩, ⟨_, PySem.W.mg_of X G v4⟩, ⟨_, PySem.W.mg_of X G v5⟩, PySem.W.mg_none_of X G z17, PySem.W.mg_none_of X G z18, PySem.W.mg_none_of X G z19, ⟨_, PySem.W.mg_of X G v6⟩, ⟨_, PySem.W.mg_of X G v7⟩⟩
  have D1 : Df K mg "is_integer" sInt ["value"] f1 _ := df_mk X G a1 l1 c1 k1 fun _ _ _ _ _ _ us hl => match us, hl with | [_], _ => rfl
  have D2 : Df K mg "is_letters" sLetters ["value"] f2 _ := df_mk X G a2 l2 c2 k2 fun _ _ _ _ _ _ us hl => match us, hl with | [_], _ => rfl
  have D3 : Df K mg "is_pattern" sPattern ["letters", "value"] f3 _ := df_mk X G a3 l3 c3 k3 fun _ _ _ _ _ _ us hl => match us, hl with | [_, _], _ => rfl
  have D4 : Df K mg "is_prime" sIsPrime ["value"] f4 _ := df_mk X G a4 l4 c4 k4 fun _ _ _ _ _ _ us hl => match us, hl with | [_], _ => rfl
  have D5 : Df K mg "check_letters" sCheck ["value"] f5 _ := df_mk X G a5 l5 c5 k5 fun _ _ _ _ _ _ us hl => match us, hl with | [_], _ => rfl
  have D6 : Df K mg "has_only" sHas ["value", "signs", "most"] f6 _ := df_mk X G a6 l6 c6 k6 fun _ _ _ _ _ _ us hl => match us, hl with | [_, _, _], _ => rfl
  have D7 : Df K mg "check_pattern" sCPattern ["letters", "value"] f7 _ := df_mk X G a7 l7 c7 k7 fun _ _ _ _ _ _ us hl => match us, hl with | [_, _], _ => rfl
  have D8 : Df K mg "check_between" sCBetween ["value", "least", "most"] f8 _ := df_mk X G a8 l8 c8 k8 fun _ _ _ _ _ _ us hl => match us, hl with | [_, _, _], _ => rfl
  have D9 : Df K mg "check_prime" sCPrime ["value"] f9 _ := df_mk X G a9 l9 c9 k9 fun _ _ _ _ _ _ us hl => match us, hl with | [_], _ => rfl
  have D10 : Df K mg "check_some_prime" sCSome ["value"] f10 _ := df_mk X G a10 l10 c10 k10 fun _ _ _ _ _ _ us hl => match us, hl with | [_], _ => rfl
  have D11 : Df K mg "check_most" sMost ["many", "limit"] f11 _ := df_mk X G a11 l11 c11 k11 fun _ _ _ _ _ _ us hl => match us, hl with | [_, _], _ => rfl
  have D12 : Df K mg "all_texts" sAll ["letters", "size"] f12 _ := df_mk X G a12 l12 c12 k12 fun _ _ _ _ _ _ us hl => match us, hl with | [_, _], _ => rfl
  have D13 : Df K mg "leading_factors" sLF ["pattern"] f13 _ := df_mk X G a13 l13 c13 k13 fun _ _ _ _ _ _ us hl => match us, hl with | [_], _ => rfl
  have D14 : Df K mg "cut_in_halves" sCut ["pattern"] f14 _ := df_mk X G a14 l14 c14 k14 fun _ _ _ _ _ _ us hl => match us, hl with | [_], _ => rfl
  have D15 : Df K mg "bracket_parts" sParts ["pattern"] f15 _ := df_mk X G a15 l15 c15 k15 fun _ _ _ _ _ _ us hl => match us, hl with | [_], _ => rfl
  have D16 : Df K mg "joined_runs" sJoin ["pairs"] f16 _ := df_mk X G a16 l16 c16 k16 fun _ _ _ _ _ _ us hl => match us, hl with | [_], _ => rfl
  have D17 : Df K mg "undone_runs" sUndo ["runs"] f17 _ := df_mk X G a17 l17 c17 k17 fun _ _ _ _ _ _ us hl => match us, hl with | [_], _ => rfl
  have D18 : Df K mg "bracket_runs" sBRuns ["one", "other"] f18 _ := df_mk X G a18 l18 c18 k18 fun _ _ _ _ _ _ us hl => match us, hl with | [_, _], _ => rfl
  have D19 : Df K mg "is_row_of_runs" sIsRow ["letters", "value"] f19 _ := df_mk X G a19 l19 c19 k19 fun _ _ _ _ _ _ us hl => match us, hl with | [_, _], _ => rfl
  have D20 : Df K mg "is_run" sIsRun ["letters", "value"] f20 _ := df_mk X G a20 l20 c20 k20 fun _ _ _ _ _ _ us hl => match us, hl with | [_, _], _ => rfl
  have D21 : Df K mg "is_leading" sIsLead ["letters", "value"] f21 _ := df_mk X G a21 l21 c21 k21 fun _ _ _ _ _ _ us hl => match us, hl with | [_, _], _ => rfl
  have D22 : Df K mg "is_least_end" sLeast ["pattern"] f22 _ := df_mk X G a22 l22 c22 k22 fun _ _ _ _ _ _ us hl => match us, hl with | [_], _ => rfl
  have D23 : Df K mg "factors" sFac ["letters", "pattern"] f23 _ := df_mk X G a23 l23 c23 k23 fun _ _ _ _ _ _ us hl => match us, hl with | [_, _], _ => rfl
  have D24 : Df K mg "halves" sHalv ["letters", "pattern"] f24 _ := df_mk X G a24 l24 c24 k24 fun _ _ _ _ _ _ us hl => match us, hl with | [_, _], _ => rfl
  have D25 : Df K mg "bracket_of" sBO ["letters", "pattern"] f25 _ := df_mk X G a25 l25 c25 k25 fun _ _ _ _ _ _ us hl => match us, hl with | [_, _], _ => rfl
  have D26 : Df K mg "patterns_of" sPO ["letters", "depth"] f26 _ := df_mk X G a26 l26 c26 k26 fun _ _ _ _ _ _ us hl => match us, hl with | [_, _], _ => rfl
  have D27 : Df K mg "how_many" sHowMany ["letters", "size"] f27 _ := df_mk X G a27 l27 c27 k27 fun _ _ _ _ _ _ us hl => match us, hl with | [_, _], _ => rfl
  have D28 : Df K mg "check_leading" sCLead ["letters", "pattern"] f28 _ := df_mk X G a28 l28 c28 k28 fun _ _ _ _ _ _ us hl => match us, hl with | [_, _], _ => rfl
  have D29 : Df K mg "_law_cup" sCup ["_law_script", "_law_at"] f29 _ := df_mk X G a29 l29 c29 k29 fun _ _ _ _ _ _ us hl => match us, hl with | [_, _], _ => rfl
  have D30 : Df K mg "_law_bit" sBit ["_law_cup_here", "_law_much"] f30 _ := df_mk X G a30 l30 c30 k30 fun _ _ _ _ _ _ us hl => match us, hl with | [_, _], _ => rfl
  have D31 : Df K mg "_law_pick" sPick ["_law_cup_here", "_law_items"] f31 _ := df_mk X G a31 l31 c31 k31 fun _ _ _ _ _ _ us hl => match us, hl with | [_, _], _ => rfl
  have D32 : Df K mg "_law_met" sMet ["_law_call"] f32 _ := df_mk X G a32 l32 c32 k32 fun _ _ _ _ _ _ us hl => match us, hl with | [_], _ => rfl
  have D33 : Df K mg "_law_right" sRight ["_law_cup_here"] f33 _ := df_mk X G a33 l33 c33 k33 fun _ _ _ _ _ _ us hl => match us, hl with | [_], _ => rfl
  have D34 : Df K mg "law" sLaw ["_law_script"] fa _ := df_mk X G a34 l34 c34 k34 fun _ _ _ _ _ _ us hl => match us, hl with | [_], _ => rfl
  have FMi := fun_mk (st := sMadeInit) lMi cMi kMi
  have bMi := FMi.binds (ps := ["self", "content"]) fun _ _ _ _ _ _ us hl => match us, hl with | [_, _], _ => rfl
  have FWi := fun_mk (st := sWordInit) lWi cWi kWi
  have bWi := FWi.binds (ps := ["self", "letters", "runs"]) fun _ _ _ _ _ _ us hl => match us, hl with | [_, _, _], _ => rfl
  have clM : Cls K CM := ⟨pgM, hdM, poM, saM⟩
  have clW : Cls K CW := ⟨pgW, hdW, poW, saW⟩
  have W : WF K mg CM CW := ⟨PySem.W.mg_of X G aM, PySem.W.mg_of X G aW, clM, nC, clW, nL, nR, kit_self, iTM, fun H a dx fs e => .base (.ins e clM haM qHn qHt hmM), fun H a dx fs e => .base (.ins e clW haW qHn qHt hmW), kit_self⟩
  have LO : Low K mg _ _ _ _ _ _ _ _ _ _ := ⟨D1, D6, D2, D5, D3⟩
  have ER : Er l.prog K mg CL CP CO CN CT fIN fIT := ⟨⟨PySem.W.mg_of X G gL, xL, kL, bL, tL⟩, ⟨PySem.W.mg_of X G gP, xP, kP, bP, tP⟩, ⟨PySem.W.mg_of X G gO, xO, kO, bO, tO⟩, ⟨⟨_, _, _, _, _, _, _, _, _, _, _, _, _, _, xLN⟩, saN, gaN, ggN, nbN, inN, tiN, kN, bN, suN, tN, hdN, noP, PySem.W.mg_none_of X G z20, ⟨_, _, _, _, _, _, _, _, _, _, _, _, _, _, _, _, _, _, lIN, cIN, lcN, ldN, vfN, mfN⟩, top⟩, PySem.W.mg_of X G gN, ⟨⟨_, _, _, _, _, _, _, _, _, _, _, _, _, _, xLT⟩, saT, gaT, ggT, nbT, inT, tiT, kT, bT, suT, tT, hdT, noP, PySem.W.mg_none_of X G z20, ⟨_, _, _, _, _, _, _, _, _, _, _, _, _, _, _, _, _, _, lIT, cIT, lcT, ldT, vfT, mfT⟩, top⟩, PySem.W.mg_of X G gT⟩
  have E5 : Ex5 K CL CP CO CN CT := ⟨exm_same bL iL tL bL sLL, exm_same bP iL tL bL sPL, exm_same bP iP tP bP sPP, exm_same bO iL tL bL sOL, exm_same bO iP tP bP sOP, exm_same bO iO tO bO sOO, exm_same bN iL tL bL sNL, exm_same bN iP tP bP sNP, exm_same bN iO tO bO sNO, exm_same bN iN tN bN sNN, exm_same bT iL tL bL sTL, exm_same bT iP tP bP sTP, exm_same bT iO tO bO sTO, exm_same bT iN tN bN sTN, exm_same bT iT tT bT sTT⟩
  have hP : ∃ p, mg "PRIMES" = some (.ref p) ∧ ∀ H, SqT K H p [.int 2, .int 3, .int 5, .int 7] := ⟨pp, PySem.W.mg_of X G aP, fun H => .inr ⟨_, _, _, lP, rfl, rfl, (by show 4 ≤ sizeLine; decide), .cons ⟨_, rfl⟩ (.cons ⟨_, rfl⟩ (.cons ⟨_, rfl⟩ (.cons ⟨_, rfl⟩ .nil)))⟩⟩
  have FPd : DfF K mg fF _ := dff_mk X G aF lF cF kF dF
  have qTab0 := Lp.tab_mk a33 l33 qC0 qL0 qV0
  have qTab1 := Lp.tab_mk a34 l34 qC1 qL1 qV1
  refine ⟨PySem.W.fnOf "law" "law" (defArgs sLaw) (defBody sLaw) (defScope sLaw) .none kV34 dc34 pm34 an34 cd34 ct34, [(cR0, PR0), (cR1, PR1)], spLaw K [(PR0, qLR), (PR1, qLL)], .cons ⟨qTab0, qNo0⟩ (.cons ⟨qTab1, qNo1⟩ .nil), fun s v => .of_eq rfl, fun H a ns hl hH hS => ⟨a, ns, rfl, hS, hl, fun p hp => ?_, fun _ => rfl⟩, fun base _ _ TB => ?_⟩
  · simp only [List.mem_cons, List.not_mem_nil, or_false] at hp
    rcases hp with rfl | rfl
    · exact LamX.TabS.nil (hH _ (List.Mem.head _))
    · exact LamX.TabS.nil (hH _ (List.Mem.tail _ (List.Mem.head _)))
  have hu0 : ∀ q ∈ ([(PR0, qLR), (PR1, qLL)] : List (Addr × Str)), q.1 = PR0 → q.2 = qLR := fun p hp e => by
    simp only [List.mem_cons, List.not_mem_nil, or_false] at hp
    rcases hp with rfl | rfl
    · rfl
    · exact absurd e qU.symm
  have hu1 : ∀ q ∈ ([(PR0, qLR), (PR1, qLL)] : List (Addr × Str)), q.1 = PR1 → q.2 = qLL := fun p hp e => by
    simp only [List.mem_cons, List.not_mem_nil, or_false] at hp
    rcases hp with rfl | rfl
    · exact absurd e qU
    · rfl
  have gMI : FnOk l.prog w K mg base CX0 1 fMi _ ["self", "content"] (spMadeInit CM) := ok_madeinit FMi W
  have gWI : FnOk l.prog w K mg base CX0 4 fWi _ ["self", "letters", "runs"] (spWordInit K CM CW) := ok_wordinit FWi T W D6 D2 D5 D1 D20 D19 D16 D11
  have M : Makes4 l.prog w K mg base CM CW fMi fWi _ _ := ⟨W, ⟨mkM, aMi, iMi, kcM⟩, ⟨mkW, aWi, iWi, kcW⟩, gMI, gWI, bMi, bWi⟩
  have GCL := ok_clX (P := l.prog) (w := w) (base := base) D28.F T ER LO D7 D22 D21
  have GCu : FnOk l.prog w K mg base CX0 2 _ _ ["pattern"] spCut := ok_cut D14.F T D13
  have GBR : FnOk l.prog w K mg base CX0 2 _ _ ["one", "other"] (spRow2 K 100000 brackL) := ok_bracket D18.F T D16 D17
  have U : Up l.prog w K mg base CL CP CO CN CT fIN fIT _ _ _ _ _ _ _ _ _ _ _ _ _ _ _ _ _ _ := ⟨ER, E5, D31, ok_pick D31.F T D30, D32, D21, ok_leadX D21.F T ER LO, D23, ok_facX D23.F T ER LO D7,
    D24, ok_halX D24.F T ER D28 GCL, D25, ok_boX D25.F T ER D28 GCL, D26, ok_poX D26.F T ER LO D8,
    FPd, ok_fpX FPd.F T ER hP LO D8 D4 D9 D10, D27, ok_hmX D27.F T ER LO D8⟩
  have GRt := ok_right (Lp.FunC.of a33 l33 c33 qTab0) (TB _ (List.Mem.head _)) (List.Mem.head _) hu0 T U
  exact ok_law (Lp.FunC.of a34 l34 c34 qTab1) (TB _ (List.Mem.tail _ (List.Mem.head _))) (List.Mem.tail _ (List.Mem.head _)) hu1 T ER E5 D32 D29 (ok_cup D29.F T) D33 GRt D25 (ok_boG D25.F T ER M D28 GCL D14 GCu D15 D18 GBR) D26 (ok_po D26.F T LO D8 D12)
theorem fin {l : PySem.W.OpenLaw} {q : Program} {loose : List Str} {XP : (Str → Option Value) → Heap → Prop} {YP : World → Heap → Prop} {d : DefRec} {K : Params → PySem.W.Frag} (hn : l.most = some 63) (hdf : d.params.defaults = [])
    (hrec : (((["_law_right", "law"] : List Str)).all fun y => ((PyProof.Rows.recsOf q).find? fun e => e.name == y).isSome) = true) (hY : ∀ (w : World) (h : Heap), YP w h → (K w.params).In h)
    (F : ∀ (w : World) (mg : Str → Option Value) (fa : Addr) (h : Heap), (K w.params).In h → h.Ns mainGlobals mg → mg d.name = some (.ref fa) → XP mg h →
      ∃ (fd : FuncData) (cs : List (Addr × Addr)) (sp : Sp), PySem.W.EachIs (fun (p : Addr × Addr) (y : Str) => PySem.W.tabIn (K w.params) y = some p ∧ (K w.params).lookup p.2 = none) cs (["_law_right", "law"] : List Str) ∧ (∀ (s : Shared) (v : Value), BindsTo s fd ⟨[v], []⟩ [("_law_script", v)]) ∧
        (∀ (H : Hp) (a : Addr) (ns : List Int), ns.length ≤ 63 → (∀ p ∈ cs, H p.2 = some (.tbl #[])) → SqL (K w.params) H a (ns.map V.int) → sp [.ref a] H (fun v _ => v = .bl true) fun _ _ _ => False) ∧
        ∀ base : Heap, (K w.params).In base → base.Ns mainGlobals mg → (∀ p ∈ cs, LamX.TabB base mg p.1 p.2) → Kept l.prog w (K w.params) mg base CX0 11 fa fd ["_law_script"] sp) :
    PySem.W.WalkO q loose XP YP l.row.toRowW d [] (fun f vs => PySem.call f vs) :=
  Tg.walkTsK (n := 63) (k := 11) (x := "_law_script") (ys := (["_law_right", "law"] : List Str)) (cx := fun _ => CX0) hn (by decide) hdf ⟨rfl, by decide, by decide⟩ hY hrec F fun _ _ _ _ _ z => z
end K4

set_option Elab.async false
set_option maxRecDepth 100000
open PySem PySem.W PyProof.Rows
set_option maxRecDepth 100000 in
set_option maxHeartbeats 0 in
theorem PySem.Challenge.cw_whatcounts_k10_errors_of_leading_pattern_holds : PySem.Challenge.rw_whatcounts_k10_errors_of_leading_pattern.Holds := by
  w_on; o_law; k_head; (case hw => w_witness2)
  k_fill
  refine K4.fin (l := PySem.Challenge.rw_whatcounts_k10_errors_of_leading_pattern) rfl rfl (by first | rfl | decide +kernel) (fun w h Y => PySem.W.km_in_of Y) ?F
  case F =>
    intro w mg fa h KX G hmg hx
    have hx1 : ∃ n t, n = 10 ^ 200 ∧ mg "LEAST_TOO_LONG" = some (.int n t) := by
      first
      | (obtain ⟨v, e, r⟩ := hx.2.val _ (List.Mem.head _); cases r; exact ⟨_, _, by decide +kernel, e⟩)
      | (obtain ⟨v, e, r⟩ := hx.2.val _ (List.Mem.tail _ (List.Mem.head _)); cases r; exact ⟨_, _, by decide +kernel, e⟩)
      | (obtain ⟨v, e, r⟩ := hx.2.val _ (List.Mem.tail _ (List.Mem.tail _ (List.Mem.head _))); cases r; exact ⟨_, _, by decide +kernel, e⟩)
      | (obtain ⟨v, e, r⟩ := hx.2.val _ (List.Mem.tail _ (List.Mem.tail _ (List.Mem.tail _ (List.Mem.head _)))); cases r; exact ⟨_, _, by decide +kernel, e⟩)
      | (obtain ⟨v, e, r⟩ := hx.2.val _ (List.Mem.tail _ (List.Mem.tail _ (List.Mem.tail _ (List.Mem.tail _ (List.Mem.head _))))); cases r; exact ⟨_, _, by decide +kernel, e⟩)
      | (obtain ⟨v, e, r⟩ := hx.2.val _ (List.Mem.tail _ (List.Mem.tail _ (List.Mem.tail _ (List.Mem.tail _ (List.Mem.tail _ (List.Mem.head _)))))); cases r; exact ⟨_, _, by decide +kernel, e⟩)
      | (obtain ⟨v, e, r⟩ := hx.2.val _ (List.Mem.tail _ (List.Mem.tail _ (List.Mem.tail _ (List.Mem.tail _ (List.Mem.tail _ (List.Mem.tail _ (List.Mem.head _))))))); cases r; exact ⟨_, _, by decide +kernel, e⟩)
      | (obtain ⟨v, e, r⟩ := hx.2.val _ (List.Mem.tail _ (List.Mem.tail _ (List.Mem.tail _ (List.Mem.tail _ (List.Mem.tail _ (List.Mem.tail _ (List.Mem.tail _ (List.Mem.head _)))))))); cases r; exact ⟨_, _, by decide +kernel, e⟩)
    refine' K4.all_mk KX G hmg hx1 ?a1 ?l1 ?c1 ?k1 ?a2 ?l2 ?c2 ?k2 ?a3 ?l3 ?c3 ?k3 ?a4 ?l4 ?c4 ?k4 ?a5 ?l5 ?c5 ?k5 ?a6 ?l6 ?c6 ?k6 ?a7 ?l7 ?c7 ?k7 ?a8 ?l8 ?c8 ?k8 ?a9 ?l9 ?c9 ?k9 ?a10 ?l10 ?c10 ?k10 ?a11 ?l11 ?c11 ?k11 ?a12 ?l12 ?c12 ?k12 ?a13 ?l13 ?c13 ?k13 ?a14 ?l14 ?c14 ?k14 ?a15 ?l15 ?c15 ?k15 ?a16 ?l16 ?c16 ?k16 ?a17 ?l17 ?c17 ?k17 ?a18 ?l18 ?c18 ?k18 ?a19 ?l19 ?c19 ?k19 ?a20 ?l20 ?c20 ?k20 ?a21 ?l21 ?c21 ?k21 ?a22 ?l22 ?c22 ?k22 ?a23 ?l23 ?c23 ?k23 ?a24 ?l24 ?c24 ?k24 ?a25 ?l25 ?c25 ?k25 ?a26 ?l26 ?c26 ?k26 ?a27 ?l27 ?c27 ?k27 ?a28 ?l28 ?c28 ?k28 ?a29 ?l29 ?c29 ?k29 ?a30 ?l30 ?c30 ?k30 ?a31 ?l31 ?c31 ?k31 ?a32 ?l32 ?c32 ?k32 ?a33 ?l33 ?c33 ?k33 ?a34 ?l34 ?c34 ?k34 ?aM ?aW ?aMi ?iMi ?lMi ?cMi ?kMi ?aWi ?iWi ?lWi ?cWi ?kWi ?pgM ?hdM ?poM ?saM ?mkM ?kcM ?haM ?hmM ?pgW ?hdW ?poW ?saW ?mkW ?kcW ?haW ?hmW ?qHn ?qHt ?nC ?nL ?nR ?gL ?xL ?gP ?xP ?gO ?xO ?gN ?xLN ?saN ?gaN ?ggN ?nbN ?inN ?tiN ?suN ?hdN ?lIN ?cIN ?lcN ?ldN ?vfN ?mfN ?gT ?xLT ?saT ?gaT ?ggT ?nbT ?inT ?tiT ?suT ?hdT ?lIT ?cIT ?lcT ?ldT ?vfT ?mfT ?kL ?bL ?tL ?iL ?kP ?bP ?tP ?iP ?kO ?bO ?tO ?iO ?kN ?bN ?tN ?iN ?kT ?bT ?tT ?iT ?sLL ?sPL ?sPP ?sOL ?sOP ?sOO ?sNL ?sNP ?sNO ?sNN ?sTL ?sTP ?sTO ?sTN ?sTT ?noP ?top ?iTM ?aF ?lF ?cF ?kF ?dF ?aP ?lP ?qC0 ?qL0 ?qV0 ?qNo0 ?qC1 ?qL1 ?qV1 ?qNo1 ?qU ?z1 ?z2 ?z3 ?z4 ?z5 ?z6 ?z7 ?z8 ?z9 ?z10 ?z11 ?z12 ?z13 ?z14 ?z15 ?z16 ?z17 ?z18 ?z19 ?z20 ?v1 ?v2 ?v3 ?v4 ?v5 ?v6 ?v7
    (case a1 => k_is)
    (case l1 => k_is)
    (case c1 => k_is)
    (case k1 => k_is)
    (case a2 => k_is)
    (case l2 => k_is)
    (case c2 => k_is)
    (case k2 => k_is)
    (case a3 => k_is)
    (case l3 => k_is)
    (case c3 => k_is)
    (case k3 => k_is)
    (case a4 => k_is)
    (case l4 => k_is)
    (case c4 => k_is)
    (case k4 => k_is)
    (case a5 => k_is)
    (case l5 => k_is)
    (case c5 => k_is)
    (case k5 => k_is)
    (case a6 => k_is)
    (case l6 => k_is)
    (case c6 => k_is)
    (case k6 => k_is)
    (case a7 => k_is)
    (case l7 => k_is)
    (case c7 => k_is)
    (case k7 => k_is)
    (case a8 => k_is)
    (case l8 => k_is)
    (case c8 => k_is)
    (case k8 => k_is)
    (case a9 => k_is)
    (case l9 => k_is)
    (case c9 => k_is)
    (case k9 => k_is)
    (case a10 => k_is)
    (case l10 => k_is)
    (case c10 => k_is)
    (case k10 => k_is)
    (case a11 => k_is)
    (case l11 => k_is)
    (case c11 => k_is)
    (case k11 => k_is)
    (case a12 => k_is)
    (case l12 => k_is)
    (case c12 => k_is)
    (case k12 => k_is)
    (case a13 => k_is)
    (case l13 => k_is)
    (case c13 => k_is)
    (case k13 => k_is)
    (case a14 => k_is)
    (case l14 => k_is)
    (case c14 => k_is)
    (case k14 => k_is)
    (case a15 => k_is)
    (case l15 => k_is)
    (case c15 => k_is)
    (case k15 => k_is)
    (case a16 => k_is)
    (case l16 => k_is)
    (case c16 => k_is)
    (case k16 => k_is)
    (case a17 => k_is)
    (case l17 => k_is)
    (case c17 => k_is)
    (case k17 => k_is)
    (case a18 => k_is)
    (case l18 => k_is)
    (case c18 => k_is)
    (case k18 => k_is)
    (case a19 => k_is)
    (case l19 => k_is)
    (case c19 => k_is)
    (case k19 => k_is)
    (case a20 => k_is)
    (case l20 => k_is)
    (case c20 => k_is)
    (case k20 => k_is)
    (case a21 => k_is)
    (case l21 => k_is)
    (case c21 => k_is)
    (case k21 => k_is)
    (case a22 => k_is)
    (case l22 => k_is)
    (case c22 => k_is)
    (case k22 => k_is)
    (case a23 => k_is)
    (case l23 => k_is)
    (case c23 => k_is)
    (case k23 => k_is)
    (case a24 => k_is)
    (case l24 => k_is)
    (case c24 => k_is)
    (case k24 => k_is)
    (case a25 => k_is)
    (case l25 => k_is)
    (case c25 => k_is)
    (case k25 => k_is)
    (case a26 => k_is)
    (case l26 => k_is)
    (case c26 => k_is)
    (case k26 => k_is)
    (case a27 => k_is)
    (case l27 => k_is)
    (case c27 => k_is)
    (case k27 => k_is)
    (case a28 => k_is)
    (case l28 => k_is)
    (case c28 => k_is)
    (case k28 => k_is)
    (case a29 => k_is)
    (case l29 => k_is)
    (case c29 => k_is)
    (case k29 => k_is)
    (case a30 => k_is)
    (case l30 => k_is)
    (case c30 => k_is)
    (case k30 => k_is)
    (case a31 => k_is)
    (case l31 => k_is)
    (case c31 => k_is)
    (case k31 => k_is)
    (case a32 => k_is)
    (case l32 => k_is)
    (case c32 => k_is)
    (case k32 => k_is)
    (case a33 => k_is)
    (case l33 => k_is)
    (case c33 => k_is)
    (case k33 => k_is)
    (case a34 => k_is)
    (case l34 => k_is)
    (case c34 => k_is)
    (case k34 => k_is)
    (case aM => k_is)
    (case aW => k_is)
    (case aMi => k_is)
    (case iMi => k_is)
    (case lMi => k_is)
    (case cMi => k_is)
    (case kMi => k_is)
    (case aWi => k_is)
    (case iWi => k_is)
    (case lWi => k_is)
    (case cWi => k_is)
    (case kWi => k_is)
    (case pgM => k_is)
    (case hdM => k_is)
    (case poM => k_is)
    (case saM => k_is)
    (case mkM => k_is)
    (case kcM => k_is)
    (case haM => k_is)
    (case hmM => k_is)
    (case pgW => k_is)
    (case hdW => k_is)
    (case poW => k_is)
    (case saW => k_is)
    (case mkW => k_is)
    (case kcW => k_is)
    (case haW => k_is)
    (case hmW => k_is)
    (case qHn => k_is)
    (case qHt => k_is)
    (case nC => k_is)
    (case nL => k_is)
    (case nR => k_is)
    (case gL => k_is)
    (case xL => k_exc)
    (case gP => k_is)
    (case xP => k_exc)
    (case gO => k_is)
    (case xO => k_exc)
    (case gN => k_is)
    (case xLN => k_is)
    (case saN => k_is)
    (case gaN => k_is)
    (case ggN => k_is)
    (case nbN => k_is)
    (case inN => k_is)
    (case tiN => k_is)
    (case suN => k_is)
    (case hdN => k_is)
    (case lIN => k_is)
    (case cIN => k_is)
    (case lcN => k_is)
    (case ldN => k_is)
    (case vfN => first | exact rfl | k_is)
    (case mfN => first | exact rfl | k_is | kernel_rfl | decide +kernel)
    (case gT => k_is)
    (case xLT => k_is)
    (case saT => k_is)
    (case gaT => k_is)
    (case ggT => k_is)
    (case nbT => k_is)
    (case inT => k_is)
    (case tiT => k_is)
    (case suT => k_is)
    (case hdT => k_is)
    (case lIT => k_is)
    (case cIT => k_is)
    (case lcT => k_is)
    (case ldT => k_is)
    (case vfT => first | exact rfl | k_is)
    (case mfT => first | exact rfl | k_is | kernel_rfl | decide +kernel)
    (case kL => k_is)
    (case bL => k_is)
    (case tL => k_is)
    (case iL => k_is)
    (case kP => k_is)
    (case bP => k_is)
    (case tP => k_is)
    (case iP => k_is)
    (case kO => k_is)
    (case bO => k_is)
    (case tO => k_is)
    (case iO => k_is)
    (case kN => k_is)
    (case bN => k_is)
    (case tN => k_is)
    (case iN => k_is)
    (case kT => k_is)
    (case bT => k_is)
    (case tT => k_is)
    (case iT => k_is)
    (case sLL => first | rfl | k_is)
    (case sPL => first | rfl | k_is)
    (case sPP => first | rfl | k_is)
    (case sOL => first | rfl | k_is)
    (case sOP => first | rfl | k_is)
    (case sOO => first | rfl | k_is)
    (case sNL => first | rfl | k_is)
    (case sNP => first | rfl | k_is)
    (case sNO => first | rfl | k_is)
    (case sNN => first | rfl | k_is)
    (case sTL => first | rfl | k_is)
    (case sTP => first | rfl | k_is)
    (case sTO => first | rfl | k_is)
    (case sTN => first | rfl | k_is)
    (case sTT => first | rfl | k_is)
    (case noP => k_is)
    (case top => first | exact rfl | k_is | kernel_rfl | decide +kernel)
    (case iTM => first | k_is | kit_is)
    (case aF => k_is)
    (case lF => k_is)
    (case cF => k_is)
    (case kF => k_is)
    (case dF => k_is)
    (case aP => k_is)
    (case lP => k_is)
    (case qC0 => exact rfl)
    (case qL0 => k_is)
    (case qV0 => first | exact rfl | k_is)
    (case qNo0 => first | kernel_rfl | exact rfl | decide +kernel)
    (case qC1 => exact rfl)
    (case qL1 => k_is)
    (case qV1 => first | exact rfl | k_is)
    (case qNo1 => first | kernel_rfl | exact rfl | decide +kernel)
    (case qU => first | decide | decide +kernel)
    (case z1 => k_is)
    (case z2 => k_is)
    (case z3 => k_is)
    (case z4 => k_is)
    (case z5 => k_is)
    (case z6 => k_is)
    (case z7 => k_is)
    (case z8 => k_is)
    (case z9 => k_is)
    (case z10 => k_is)
    (case z11 => k_is)
    (case z12 => k_is)
    (case z13 => k_is)
    (case z14 => k_is)
    (case z15 => k_is)
    (case z16 => k_is)
    (case z17 => k_is)
    (case z18 => k_is)
    (case z19 => k_is)
    (case z20 => k_is)
    (case v1 => k_is)
    (case v2 => k_is)
    (case v3 => k_is)
    (case v4 => k_is)
    (case v5 => k_is)
    (case v6 => k_is)
    (case v7 => k_is)

