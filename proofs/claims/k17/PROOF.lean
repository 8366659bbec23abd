import PyProof.Rows.All
import Wide.All
import OpenK.AllK
import Wide.FinOn
import HandS.ForMost
import HandS.IsInst
import HandS.Wide
import HandS.Strs
import HandS.SetTxt0
import HandS.Set
import HandS.SetTxtIn
import HandS.Exc
import HandS.TryOnly
import HandS.ExcOwn
import HandS.WordsExc
import PyProof.ReprReads
import PyProof.Rows.StrCut
import KE.KEqNest
import HandS.StrMore
import HandS.TupAny
import HandS.Conv
import HandS.Iter
import HandS.Defaults
import HandS.DictComp
import HandS.Style
import HandS.Zip
import KE.SortLaws
import HandS.More
import PyProof.ReprLen
import HandS.Star
import PyProof.Rows.StrRev
import HandS.Text
import HandS.TupMul
import HandS.RaiseMore
import KE.KOpsOwn
import PyProof.InstNe
import KE.KCallOwn
import KE.KOwnIter
import OpenK.KMeth
import HandS.Property
import HandS.MakeKwOnly
import KE.GoesMore
import PyProof.EnumMake
import PyProof.Draws
import PyProof.Rows.SortShell
import HandS.Lambda
import KE.KNest
import HandS.EndTab
import HandS.EndBits
import PySem.Challenge.RW_whatcounts_k17_whole_weights_of_tallies
set_option Elab.async false
set_option linter.all false
set_option maxRecDepth 100000
set_option maxHeartbeats 3200000
/-! sets of texts: made of a text, sorted -/
namespace Tx
open PySem PySem.Spec PyProof.Rows L2

/-- the text that an entry holds -/
def tx (e : Int × Value) : Str := match e.2 with
  | .str y _ => y
  | _ => Str.empty
/-- an entry of a set of texts -/
def Ent (w : World) (e : Int × Value) : Prop := ∃ y u, e.2 = Value.str y u ∧ e.1 = hashStr w y

/-- at a stands a set whose members are the texts ys, in some order -/
def At (w : World) (h : Heap) (a : Addr) (ys : List Str) : Prop :=
  ∃ (o : Obj) (es : Array (Int × Value)) (ep : Nat) (t : SetTable), h.get? a = some o ∧ o.ExactSet ∧ o.data = .set es ep t ∧
    (∀ e ∈ es.toList, Ent w e) ∧ (es.toList.map tx).Perm ys ∧ es.size < scanBound ∧ t.fits es.size = true ∧
    Ris t.place.toList ∧ (w.params.followText "set-order" = true ∨ t.led = true)

section
variable {P : Program} {w : World} {h h' : Heap} {a : Addr} {ys : List Str}
theorem At.stays (R : At w h a ys) (k : ∀ o, h.get? a = some o → h'.get? a = some o) : At w h' a ys :=
  let ⟨o, es, ep, t, ho, r⟩ := R
  ⟨o, es, ep, t, k o ho, r⟩
theorem Ent.elems {l : List (Int × Value)} (g : ∀ e ∈ l, Ent w e) : ElemsOf (strKind P w) l := by
  intro e he
  obtain ⟨y, u, q1, q2⟩ := g e he
  refine ⟨⟨y, ?_, q2⟩, ?_⟩
  · rw [q1]
    exact Froz.is_str y u
  · rw [q1]
    rfl
theorem Ent.is {e : Int × Value} (g : Ent w e) (k : Str) : (strKind P w).is k e.2 = true ↔ tx e = k := by
  obtain ⟨y, u, q1, _⟩ := g
  unfold tx
  rw [q1]
  constructor
  · intro q
    exact ((strKind P w).inj (.str y u) k y q (Froz.is_str y u)).symm
  · intro q
    subst q
    exact Froz.is_str _ u
theorem Ent.mem {l : List (Int × Value)} (g : ∀ e ∈ l, Ent w e) (k : Str) : k ∈ l.map tx ↔ ∃ e ∈ l, (strKind P w).is k e.2 = true := by
  rw [List.mem_map]
  exact ⟨fun ⟨e, he, q⟩ => ⟨e, he, ((g e he).is k).mpr q⟩, fun ⟨e, he, q⟩ => ⟨e, he, ((g e he).is k).mp q⟩⟩
end

section
variable {P : Program} {w : World} {A : Around} {E : Value → Shared → Prop} {s : Shared} {a : Addr} {ys : List Str}
theorem add_tail {g : Bool → Sem Unit} (hg : ∀ (b : Bool) (z : Shared) (R : Unit → Shared → Prop), R () z → wpAny (model P w) A (g b) R E z)
    {o : Obj} {es : Array (Int × Value)} {ep : Nat} {t : SetTable} (ho : s.heap.get? a = some o) (hx : o.ExactSet) (hd : o.data = .set es ep t)
    {es1 : Array (Int × Value)} {t2 : SetTable} (g1 : ∀ e ∈ es1.toList, Ent w e) (m1 : (es1.toList.map tx).Perm ys)
    (hb1 : es1.size < scanBound) (hf2 : t2.fits es1.size = true) (hr : Ris t2.place.toList) (hl : w.params.followText "set-order" = true ∨ t2.led = true)
    {was : Bool} {R : Option Bool → Shared → Prop}
    (hR : ∀ h', Heap.SameBut a s.heap h' → At w h' a ys → R (some true) { s with heap := h' }) :
    wpAny (model P w) A (do
        storeSet a es1 t2
        if (!was && t2.tooFull) = true then do
            g (relayAll t2 es1 (SetTable.grown es1.size)).2.2
            storeSet a (relayAll t2 es1 (SetTable.grown es1.size)).1 (relayAll t2 es1 (SetTable.grown es1.size)).2.1
            pure (some true)
          else pure (some true)) R E s := by
  refine wpAny_bind (wpAny_storeSet_of ho hd ?_ (fits_of_scanBound hb1))
  have q1 := store_at (es' := es1) (t' := t2) ho hd
  have sb := Heap.SameBut.update s.heap a (Obj.putSet es1 t2)
  split
  · have p3 := relayAll_perm t2 es1 (SetTable.grown es1.size)
    have f3 := relayAll_fits t2 es1 (SetTable.grown es1.size)
    have r3 := relayAll_ris t2 es1 (SetTable.grown es1.size)
    have l3 := relayAll_led t2 es1 (SetTable.grown es1.size)
    generalize relayAll t2 es1 (SetTable.grown es1.size) = Z at p3 f3 r3 l3 ⊢
    obtain ⟨es2, t3, gave⟩ := Z
    dsimp only at p3 f3 r3 l3 ⊢
    have z2 : es2.size = es1.size := by
      have := p3.length_eq
      rw [Array.length_toList, Array.length_toList] at this
      exact this
    refine wpAny_bind (hg _ _ _ ?_)
    refine wpAny_bind (wpAny_storeSet_of q1 rfl ?_ (fits_of_scanBound (by rw [z2]; exact hb1)))
    have q2 := store_at (es' := es2) (t' := t3) q1 rfl
    refine wpAny_pure (hR _ (sb.trans (Heap.SameBut.update _ a _)) ?_)
    exact ⟨_, es2, _, t3, q2, hx, rfl, fun e he => g1 e (p3.mem_iff.mp he), (p3.map tx).trans m1, by rw [z2]; exact hb1, f3, r3, hl.imp id fun z => l3.trans z⟩
  · exact wpAny_pure (hR _ sb ⟨_, es1, _, t2, q1, hx, rfl, g1, m1, hb1, hf2, hr, hl⟩)

theorem add_hashed {k : Str} {u : Tok} {Q : Bool → Shared → Prop} (R : At w s.heap a ys) (room : ys.length + 1 < scanBound)
    (hQ : ∀ h', Heap.SameBut a s.heap h' → At w h' a (if k ∈ ys then ys else k :: ys) → Q (!decide (k ∈ ys)) { s with heap := h' }) :
    wpAny (model P w) A (setAddHashed a (.str k u) (hashStr w k)) Q E s := by
  obtain ⟨o, es, ep, t, ho, hx, hd, g, pm, hb, hf, hr, hl⟩ := R
  have hkey : (strKind P w).is k (.str k u) = true := Froz.is_str k u
  have hel : ElemsOf (strKind P w) es.toList := Ent.elems g
  have hz : es.size = ys.length := by
    have := pm.length_eq
    rw [List.length_map, Array.length_toList] at this
    exact this
  unfold setAddHashed setAddHashedIn
  refine wpAny_holding (wpAny_bind (wpAny_setState_of ho hd hf ?_))
  dsimp only
  rw [byScan_of (x := Value.str k u) rfl hb hel]
  simp only [↓reduceIte]
  unfold setAddByScan
  refine wpAny_bind ?_
  refine wpAny_bind (wpAny_rule ?_)
  refine wpAny_bind (wpAny_setScan_of (knd := strKind P w) (k := k) hkey ho hd hf hel ?_)
  cases hfi : List.findIdx? (fun e => (strKind P w).is k e.2) es.toList with
  | some j =>
    dsimp only
    obtain ⟨hj, pj, _⟩ := List.findIdx?_eq_some_iff_getElem.mp hfi
    have hk : k ∈ ys := pm.mem_iff.mp ((Ent.mem (P := P) g k).mpr ⟨es.toList[j], List.getElem_mem hj, pj⟩)
    refine wpAny_pure (wpAny_pure ?_)
    have q := hQ s.heap (Heap.SameBut.refl a s.heap) (by rw [if_pos hk]; exact ⟨o, es, ep, t, ho, hx, hd, g, pm, hb, hf, hr, hl⟩)
    rw [decide_eq_true hk] at q
    exact q
  | none =>
    dsimp only
    have hk : k ∉ ys := fun z => by
      obtain ⟨e, he, q⟩ := (Ent.mem (P := P) g k).mp (pm.mem_iff.mpr z)
      have c := List.findIdx?_eq_none_iff.mp hfi e he
      rw [q] at c
      cases c
    have hgw : ∀ (b : Bool) {z : Shared} {R : Unit → Shared → Prop}, R () z → wpAny (model P w) A (match b with | true => rule "set.scan.the-table-gave-way" | false => pure ()) R E z := by
      intro b z R q
      cases b
      · exact wpAny_pure q
      · exact wpAny_rule q
    have p1 := layNew_perm t es (hashStr w k) (.str k u)
    have f1 := layNew_fits t es (hashStr w k) (.str k u)
    have r1 := layNew_ris t es (hashStr w k) (.str k u) hr
    have l1 := layNew_led t es (hashStr w k) (.str k u)
    generalize layNew t es (hashStr w k) (.str k u) = Z at p1 f1 r1 l1 ⊢
    obtain ⟨es1, t1, was, gave⟩ := Z
    dsimp only at p1 f1 r1 l1 ⊢
    rw [Array.toList_push] at p1
    have pc : es1.toList.Perm ((hashStr w k, Value.str k u) :: es.toList) := p1.trans (List.perm_append_singleton _ _)
    have pk : (es1.toList.map tx).Perm (k :: ys) := (pc.map tx).trans (List.Perm.cons k pm)
    have g1 : ∀ e ∈ es1.toList, Ent w e := by
      intro e he
      cases List.mem_cons.mp (pc.mem_iff.mp he) with
      | inl z => exact ⟨k, u, by rw [z], by rw [z]⟩
      | inr z => exact g e z
    have hb1 : es1.size < scanBound := by
      have e1 : es1.size = ys.length + 1 := by
        have := pk.length_eq
        rw [List.length_map, Array.length_toList] at this
        exact this
      rw [e1]
      exact room
    have hld : w.params.followText "set-order" = true ∨ t1.led = true := hl.imp id fun z => l1.trans z
    have fin : ∀ h', Heap.SameBut a s.heap h' → At w h' a (k :: ys) → Q true { s with heap := h' } := by
      intro h' sb r
      have q := hQ h' sb (by rw [if_neg hk]; exact r)
      rw [decide_eq_false hk] at q
      exact q
    refine wpAny_bind (hgw _ ?_)
    split
    · refine wpAny_bind ?_
      rw [hashByValue_scannable 8 (x := Value.str k u) rfl]
      refine wpAny_pure ?_
      refine add_tail (ys := k :: ys) ?_ ho hx hd g1 pk hb1 ?_ ?_ ?_ ?_
      · intro b z R q
        cases b
        · exact wpAny_pure q
        · exact wpAny_rule q
      · first | (split <;> first | exact f1 | exact SetTable.fits_plain_off f1) | exact f1
      · first | (split <;> exact r1) | exact r1
      · first | (split <;> exact hld) | exact hld
      · intro h' sb r
        dsimp only
        exact wpAny_pure (fin h' sb r)
    · refine wpAny_bind (wpAny_pure ?_)
      simp only [↓reduceIte]
      refine add_tail (ys := k :: ys) ?_ ho hx hd g1 pk hb1 f1 r1 hld ?_
      · intro b z R q
        cases b
        · exact wpAny_pure q
        · exact wpAny_rule q
      · intro h' sb r
        dsimp only
        exact wpAny_pure (fin h' sb r)
end

/-! ### the signs of a text, each once -/
abbrev one (c : Nat) : Str := ⟨#[c]⟩
theorem one_inj {c d : Nat} (h : one c = one d) : c = d := by
  have q : [c] = [d] := congrArg (fun y : Str => y.cps.toList) h
  exact (List.cons.inj q).1
/-- the members behind the first signs -/
def met : List Nat → List Nat → List Nat
  | acc, [] => acc
  | acc, c :: r => met (if c ∈ acc then acc else c :: acc) r
theorem met_len (l : List Nat) : ∀ acc : List Nat, (met acc l).length ≤ acc.length + l.length := by
  induction l with
  | nil => intro acc; exact Nat.le_refl _
  | cons c r ih =>
    intro acc
    have h := ih (if c ∈ acc then acc else c :: acc)
    show (met (if c ∈ acc then acc else c :: acc) r).length ≤ acc.length + (r.length + 1)
    split at h <;> rename_i hc
    · rw [if_pos hc]; omega
    · rw [if_neg hc]
      rw [List.length_cons] at h
      omega
theorem met_mem (l : List Nat) : ∀ (acc : List Nat) (c : Nat), c ∈ met acc l ↔ c ∈ acc ∨ c ∈ l := by
  induction l with
  | nil => intro acc c; simp [met]
  | cons d r ih =>
    intro acc c
    show c ∈ met (if d ∈ acc then acc else d :: acc) r ↔ _
    rw [ih]
    by_cases hd : d ∈ acc
    · rw [if_pos hd, List.mem_cons]
      constructor
      · rintro (q | q)
        · exact .inl q
        · exact .inr (.inr q)
      · rintro (q | q | q)
        · exact .inl q
        · exact .inl (q ▸ hd)
        · exact .inr q
    · rw [if_neg hd, List.mem_cons, List.mem_cons]
      constructor
      · rintro ((q | q) | q)
        · exact .inr (.inl q)
        · exact .inl q
        · exact .inr (.inr q)
      · rintro (q | q | q)
        · exact .inl (.inr q)
        · exact .inl (.inl q)
        · exact .inr q
theorem met_nodup (l : List Nat) : ∀ acc : List Nat, acc.Nodup → (met acc l).Nodup := by
  induction l with
  | nil => intro acc h; exact h
  | cons d r ih =>
    intro acc h
    refine ih _ ?_
    by_cases hd : d ∈ acc
    · rw [if_pos hd]; exact h
    · rw [if_neg hd]; exact List.nodup_cons.mpr ⟨hd, h⟩
theorem met_mono (l : List Nat) : ∀ (acc : List Nat), acc.length ≤ (met acc l).length := by
  induction l with
  | nil => intro acc; exact Nat.le_refl _
  | cons d r ih =>
    intro acc
    refine Nat.le_trans ?_ (ih _)
    by_cases hd : d ∈ acc
    · rw [if_pos hd]; exact Nat.le_refl _
    · rw [if_neg hd]; exact Nat.le_succ _
theorem mem_one {c : Nat} {l : List Nat} : one c ∈ l.map one ↔ c ∈ l := by
  rw [List.mem_map]
  exact ⟨fun ⟨d, hd, q⟩ => one_inj q ▸ hd, fun q => ⟨c, q, rfl⟩⟩

section
variable {P : Program} {w : World} {A : Around} {R : Result → Shared → Prop} {I : Addr} {fp wr : List Addr} {St : Nat → Heap → Prop} {x : Str}
/-- the making: sign by sign into the set at S -/
theorem loop (W : Walks P w A.in1 I fp wr x.cps.size (SignAt x) St) (S : Addr) (hS : S ∉ fp) (hfew : (met [] x.cps.toList).length + 1 < scanBound) :
    ∀ (r : List Nat) (i : Nat) (acc : List Nat) (s : Shared), x.cps.toList.drop i = r → i ≤ x.cps.size → met acc r = met [] x.cps.toList → St i s.heap → At w s.heap S (acc.map one) →
      (∀ h' tk, (∀ b o, b ≠ S → b ∉ wr → s.heap.get? b = some o → h'.get? b = some o) → At w h' S ((met [] x.cps.toList).map one) → R (.ok (.ret .none)) { s with heap := h', toks := tk }) →
      codeAny (model P w) A (.builtin "set.update.loop" ⟨[.ref S, .ref I], []⟩) R s := by
  have hSw : S ∉ wr := fun z => hS (W.sub _ z)
  intro r
  induction r with
  | nil =>
    intro i acc s hr hi hm hst hat hR
    have hin : i = x.cps.size := by
      have := List.drop_eq_nil_iff.mp hr
      rw [Array.length_toList] at this
      omega
    subst hin
    refine codeAny_builtin PyProof.Rows.F.entry_set_update_loop ?_
    rw [Around.under_plainId PyProof.Rows.F.plain_set_update_loop _]
    show wpAny _ A.in1 (pyNext (.ref I) >>= _) _ _ s
    refine wpAny_bind (W.done s _ _ hst fun h' tk k => ?_)
    show wpAny _ A.in1 (ret Value.none) _ _ _
    refine wpAny_pure (hR h' tk (fun b o _ hb e => k b o hb e) ?_)
    have e : acc = met [] x.cps.toList := hm
    rw [← e]
    exact hat.stays fun o e => k S o hSw e
  | cons c r ih =>
    intro i acc s hr hi hm hst hat hR
    obtain ⟨hx, hr2⟩ := Froz.at_of hr
    have hlt : i < x.cps.size := by
      rcases Nat.lt_or_ge i x.cps.size with z | z
      · exact z
      · rw [Array.getElem?_eq_none z] at hx
        cases hx
    refine codeAny_builtin PyProof.Rows.F.entry_set_update_loop ?_
    rw [Around.under_plainId PyProof.Rows.F.plain_set_update_loop _]
    show wpAny _ A.in1 (pyNext (.ref I) >>= _) _ _ s
    refine wpAny_bind (W.item i s _ _ hlt hst fun v h1 tk1 hv hst1 k1 => ?_)
    obtain ⟨d, u, hd, rfl⟩ := hv
    have ed : d = c := Option.some.inj (hd.symm.trans hx)
    subst ed
    have hat1 : At w h1 S (acc.map one) := hat.stays fun o e => k1 S o hSw e
    show wpAny _ A.in1 (holding [Value.str (one d) u] (setAdd S (.str (one d) u)) >>= _) _ _ _
    refine wpAny_bind (wpAny_holding ?_)
    unfold setAdd
    refine wpAny_holding ?_
    refine wpAny_bind ((strKind P w).pyHash (k := one d) (Froz.is_str _ _) ?_)
    have hlen : (acc.map one).length + 1 < scanBound := by
      rw [List.length_map]
      have := met_mono (d :: r) acc
      rw [hm] at this
      omega
    refine add_hashed (ys := acc.map one) (s := { s with heap := h1, toks := tk1 + 1 }) hat1 hlen fun h2 sb hat2 => ?_
    have e2 : (if one d ∈ acc.map one then acc.map one else one d :: acc.map one) = (if d ∈ acc then acc else d :: acc).map one := by
      by_cases z : d ∈ acc
      · rw [if_pos z, if_pos (mem_one.mpr z)]
      · rw [if_neg z, if_neg (fun q => z (mem_one.mp q))]
        rfl
    rw [e2] at hat2
    have k2 : ∀ b o, b ≠ S → h1.get? b = some o → h2.get? b = some o := fun b o hb e => (sb.2 b hb).trans e
    refine wpAny_pure ⟨plainId_quiet PyProof.Rows.F.plain_set_update_loop _, ih (i + 1) _ _ hr2 hlt hm (W.frame _ _ _ hst1 fun b hb o e => k2 b o (fun z => hS (z ▸ hb)) e) hat2 fun h3 tk3 k3 hat3 => ?_⟩
    exact hR h3 tk3 (fun b o hb hw e => k3 b o hb hw (k2 b o hb (k1 b o hw e))) hat3
end
end Tx

set_option Elab.async false
set_option linter.all false
set_option maxRecDepth 100000
set_option maxHeartbeats 3200000
/-! sets of texts: set(a text), sorted(it), as calls -/
namespace Tx
open PySem PySem.Spec PyProof.Rows L2

section
variable {P : Program} {w : World} {A : Around} {E : Value → Shared → Prop} {s : Shared}
theorem fresh_at (w : World) (h : Heap) (led : Bool) (hl : w.params.followText "set-order" = true ∨ led = true) :
    At w (h.push { cls := .type "set", dict := none, data := .set #[] 0 (.fresh 0 0 led) }) h.objs.size ([] : List Str) :=
  ⟨_, #[], 0, .fresh 0 0 led, Heap.get?_push_size _ rfl, ⟨rfl, rfl, rfl⟩, rfl, (fun e he => by simp at he), by simp, by decide, by rfl, List.Pairwise.nil, hl⟩

/-- a new set, as set.__new__ lays it -/
theorem new_set (v : Value) {R : Value → Shared → Prop}
    (h : R (.ref s.heap.objs.size) { s with heap := s.heap.push { cls := .type "set", dict := none, data := .set #[] 0 (.fresh 0 0 (!w.params.followText "set-order")) } }) :
    codeAny (model P w) A (.call (.builtin "set.__new__") ⟨[.type "set", v], []⟩) (wants R E) s := by
  refine codeAny_of_tree ?_
  show wpAny _ A.in1 (do
    checkBuiltinCall "set.__new__" ⟨[.type "set", v], []⟩
    again (.builtin "set.__new__" ⟨[.type "set", v], []⟩)) _ _ s
  refine wpAny_bind (wpAny_of_eq (F.newCall_set_1 v) (wpAny_pure ⟨plainId_quiet F.plain_set_new _, codeAny_builtin F.entry_set_new ?_⟩))
  rw [Around.under_plainId F.plain_set_new _]
  unfold Builtin.«set.__new__»
  unfold Builtin.Frozenset.newClass
  have hsub := sub_set_self
  obtain ⟨hp, g, d, tk, os⟩ := s
  dsimp only
  wp_walk
  refine wpAny_askSetting (wpAny_pure ?_)
  dsimp only
  simp only [newObj]
  exact wpAny_bind (wpAny_alloc (wpAny_pure (wpAny_pure h)))

theorem call_set_text {x : Str} {t : Tok} {Q : Value → Shared → Prop} (hh : A.handled = none) (hfew : (met [] x.cps.toList).length + 1 < scanBound)
    (h : ∀ (h' : Heap) (tk : Nat), At w h' s.heap.objs.size ((met [] x.cps.toList).map one) → (∀ b o, s.heap.get? b = some o → h'.get? b = some o) → Q (.ref s.heap.objs.size) { s with heap := h', toks := tk }) :
    wpAny (model P w) A (call (.type "set") [.str x t]) Q E s := by
  obtain ⟨c, tl, hmro⟩ := PySem.F.called_set.mro
  have hmade := PySem.F.called_set.made
  have hsub := PySem.F.called_set.sub
  refine wpAny_call (codeAny_of_tree ?_)
  show wpAny _ _ (callAny (.type "set") _) _ _ _
  refine wpAny_pure ⟨Code.quiet_builtin _ (by decide +kernel), codeAny_builtin PySem.F.entry_type_call ?_⟩
  rw [Around.under_plain (weight_type_call_type "set" [.str x t] []) rfl]
  have h1 := PySem.F.called_set.notType
  have h2 := PySem.F.called_set.canCreate
  have hct := PySem.F.typeCall_set_1 (.str x t)
  repeat (any_goals (first | assumption | wp_step))
  refine codeAny_mono (new_set (P := P) (w := w) (E := E) (.str x t) (R := fun obj z => ∃ led : Bool, (w.params.followText "set-order" = true ∨ led = true) ∧ obj = .ref s.heap.objs.size ∧ z = { s with heap := s.heap.push { cls := .type "set", dict := none, data := .set #[] 0 (.fresh 0 0 led) } }) ⟨_, ?_, rfl, rfl⟩) fun r z hr => ?_
  · cases w.params.followText "set-order"
    · exact .inr rfl
    · exact .inl rfl
  cases r with
  | error e => exact hr
  | ok fl =>
    cases fl with
    | ret obj =>
      obtain ⟨led, hled, rfl, rfl⟩ := hr
      have hS : (s.heap.push { cls := .type "set", dict := none, data := .set #[] 0 (.fresh 0 0 led) }).get? s.heap.objs.size = some { cls := .type "set", dict := none, data := .set #[] 0 (.fresh 0 0 led) } := Heap.get?_push_size _ rfl
      have hT : Shared.TypeIs { s with heap := s.heap.push { cls := .type "set", dict := none, data := .set #[] 0 (.fresh 0 0 led) } } (.ref s.heap.objs.size) "set" := ⟨_, hS, rfl⟩
      have hli := PySem.F.called_set.init.lookup
      have hbi := PySem.F.called_set.init.bind (.ref s.heap.objs.size)
      repeat (any_goals (first | assumption | wp_step))
      refine codeAny_mono (codeAny_call_builtin (R := wants (fun r z => r = .none ∧ ∃ h' tk, z = { s with heap := h', toks := tk } ∧ At w h' s.heap.objs.size ((met [] x.cps.toList).map one) ∧
          (∀ b o, s.heap.get? b = some o → h'.get? b = some o)) E) PySem.F.called_set.init.plain PySem.F.entry_set_init (check_set_init_1 hT ?_)) fun r₂ s₂ hr₂ => ?_
      · unfold Builtin.«set.__init__» noKeywords Builtin.Frozenset.updateFrom
        generalize hPI : pyIter = PI
        generalize hAS : Builtin.Frozenset.isAnySet = AS
        wp_walk
        subst hPI
        subst hAS
        refine L2.Fz.anySet ?_
        simp only [Bool.false_eq_true, ↓reduceIte]
        refine wpAny_bind (wpAny_typeOf (typeIs_str _ _ _) ?_)
        have hsd : (Value.type "str" == Value.type "dict") = false := by decide
        simp only [hsd, Bool.false_eq_true, ↓reduceIte]
        refine wpAny_bind (wpAny_pyIter_str fun o St W hst => ?_)
        refine wpAny_bind (wpAny_runValue ?_)
        have hne : s.heap.objs.size ∉ [(s.heap.push { cls := .type "set", dict := none, data := .set #[] 0 (.fresh 0 0 led) }).objs.size] := by
          rw [Heap.size_push, List.mem_singleton]
          exact Nat.ne_of_lt (Nat.lt_succ_self _)
        refine loop (W _ (by simp [hh])) s.heap.objs.size hne hfew _ 0 [] _ (by rfl) (Nat.zero_le _) rfl hst ?_ ?_
        · exact (fresh_at w s.heap led hled).stays fun o e => Heap.get?_push_of_some _ e
        · intro h' tk k hat
          refine wpAny_pure ?_
          show wpAny _ _ (ret Value.none) _ _ _
          refine wpAny_pure ⟨rfl, h', tk, rfl, hat, fun b o e => ?_⟩
          have hb := Heap.lt_size e
          refine k b o (Nat.ne_of_lt hb) ?_ (Heap.get?_push_of_some _ (Heap.get?_push_of_some _ e))
          rw [Heap.size_push, List.mem_singleton]
          exact Nat.ne_of_lt (Nat.lt_succ_of_lt hb)
      · cases r₂ with
        | error e => exact hr₂
        | ok fl₂ =>
          cases fl₂ with
          | ret r =>
            obtain ⟨rfl, h', tk, rfl, hS', hk'⟩ := hr₂
            repeat (any_goals (first | assumption | wp_step))
            exact h _ _ hS' hk'
          | _ => exact hr₂.elim
    | _ => exact hr.elim

/-! ### sorted(a set of one-sign texts) -/
theorem vals_strs {vs : List Value} : ∀ {es : List (Int × Value)}, (∀ e ∈ es, Ent w e) → vs.Perm (es.map (·.2)) → StrsAre vs (vs.map strOf) ∧ (vs.map strOf).Perm (es.map tx) := by
  intro es g p
  refine ⟨strsAre_map vs fun v hv => ?_, ?_⟩
  · obtain ⟨e, he, q⟩ := List.mem_map.mp (p.mem_iff.mp hv)
    obtain ⟨y, u, q1, _⟩ := g e he
    exact ⟨y, u, by rw [← q]; exact q1⟩
  · have q := p.map strOf
    rw [List.map_map] at q
    have e : es.map (strOf ∘ (·.2)) = es.map tx := List.map_congr_left fun e he => by
      obtain ⟨y, u, q1, _⟩ := g e he
      show strOf e.2 = tx e
      unfold tx
      rw [q1]
      rfl
    rw [e] at q
    exact q
theorem pairwise_of_sortedS : ∀ (l : List Str), sortedS l = true → l.Pairwise (fun a b => ltCps b.cps.toList a.cps.toList = false) := by
  have trans : ∀ a b c : List Nat, ltCps b a = false → ltCps c b = false → ltCps c a = false := by
    intro a b c h1 h2
    rw [ltCps_eq] at h1 h2 ⊢
    have h1' := of_decide_eq_false h1
    have h2' := of_decide_eq_false h2
    refine decide_eq_false fun z => ?_
    have n1 : a ≤ b := List.not_lt.mp h1'
    have n2 : b ≤ c := List.not_lt.mp h2'
    exact absurd z (List.not_lt.mpr (List.le_trans n1 n2))
  have all : ∀ (l : List Str) (p : Str), risingS p l = true → (p :: l).Pairwise (fun a b => ltCps b.cps.toList a.cps.toList = false) := by
    intro l
    induction l with
    | nil => intro p _; exact List.pairwise_singleton _ _
    | cons x r ih =>
      intro p h
      have h' : (!ltCps x.cps.toList p.cps.toList && risingS x r) = true := h
      rw [Bool.and_eq_true, Bool.not_eq_true'] at h'
      have q := ih x h'.2
      refine List.pairwise_cons.mpr ⟨fun y hy => ?_, q⟩
      rcases List.mem_cons.mp hy with z | z
      · rw [z]; exact h'.1
      · exact trans _ _ _ h'.1 ((List.pairwise_cons.mp q).1 y z)
  intro l h
  cases l with
  | nil => exact List.Pairwise.nil
  | cons x r => exact all r x h
theorem lt_one {c d : Nat} (h : ltCps (one d).cps.toList (one c).cps.toList = false) : c ≤ d := by
  rw [ltCps_eq] at h
  have q := of_decide_eq_false h
  rcases Nat.lt_or_ge d c with z | z
  · exact absurd (show [d] < [c] from List.cons_lt_cons_iff.mpr (.inl z)) q
  · exact z
/-- sorted one-sign texts, each once, are a rising row of signs -/
theorem rising {ss : List Str} {acc : List Nat} (p : ss.Perm (acc.map one)) (hs : sortedS ss = true) (hn : acc.Nodup) : ∃ ns : List Nat, ss = ns.map one ∧ ns.Perm acc ∧ ns.Pairwise (· < ·) := by
  have back : ∀ l : List Nat, (l.map one).map (fun y => y.cps.toList.headD 0) = l := by
    intro l
    rw [List.map_map]
    exact (List.map_congr_left fun c _ => rfl).trans (List.map_id l)
  have e : ss = (ss.map (fun y => y.cps.toList.headD 0)).map one := by
    rw [List.map_map]
    refine ((List.map_congr_left fun y hy => ?_).trans (List.map_id ss)).symm
    obtain ⟨c, _, q⟩ := List.mem_map.mp (p.mem_iff.mp hy)
    subst q
    rfl
  have pm : (ss.map (fun y => y.cps.toList.headD 0)).Perm acc := by
    have q := p.map (fun y => y.cps.toList.headD 0)
    rw [back] at q
    exact q
  refine ⟨_, e, pm, ?_⟩
  generalize ss.map (fun y => y.cps.toList.headD 0) = ns at e pm ⊢
  subst e
  have h1 := List.pairwise_map.mp (pairwise_of_sortedS _ hs)
  have h2 : ns.Nodup := pm.nodup_iff.mpr hn
  have h3 : ns.Pairwise (· ≠ ·) := h2
  refine List.Pairwise.imp₂ (fun x y a b => ?_) h1 h3
  have c := lt_one a
  omega

theorem sorted_text {a : Addr} {acc : List Nat} {Q : Value → Shared → Prop} (R : At w s.heap a (acc.map one)) (hn : acc.Nodup) (hh : A.handled = none) (h64 : acc.length < 64)
    (hQ : ∀ z p (out : Array Value) (c : Nat) (ns : List Nat), (∀ b o, s.heap.get? b = some o → z.heap.get? b = some o) → z.gens = s.gens → z.os = s.os → s.heap.objs.size ≤ p →
      z.heap.get? p = some (seqObj "list" out c) → StrsAre out.toList (ns.map one) → ns.Pairwise (· < ·) → ns.Perm acc → Q (.ref p) z) :
    wpAny (model P w) A (call (.builtin "sorted") [.ref a]) Q E s := by
  obtain ⟨o, es, ep, t, ho, hx, hd, g, pm, hb, hf, hr, hl⟩ := R
  refine Calls.call_function_entry kind_sorted plain_sorted entry_sorted (args_sorted1 _) ?_
  unfold Builtin.«sorted»
  refine wpAny_bind (m := checkCount "sorted" 1 1 _) (wpAny_pure ?_)
  refine wpAny_bind (collect_set (A := A.in1) hh ⟨o, ho, hx.1, hd⟩ hf hb hr hl fun s1 vs k1 hz g1 o1 pv => ?_)
  obtain ⟨hS, ps⟩ := vals_strs (w := w) g pv
  have ps2 := ps.trans pm
  have hvl : vs.length < 64 := by
    have q := ps2.length_eq
    rw [List.length_map, List.length_map] at q
    rw [q]; exact h64
  refine wpAny_bind (wpAny_newList ?_ (by rw [sizeLine_eq]; omega))
  have hoL : (s1.heap.push (seqObj "list" vs.toArray 0)).get? s1.heap.objs.size = some (seqObj "list" vs.toArray 0) := Heap.get?_push_size _ rfl
  refine wpAny_bind (wpAny_holding (wpAny_call_entry slot_list_sort ⟨_, hoL, rfl⟩ entry_list_sort
    (list_sort_treeK strKind_oneLt hoL hS.keysOf (fun v₁ v₂ rest e => keyKind_strs (by rw [← e]; exact hS)) hvl fun st' hp hs => ⟨_, rfl, ?_⟩) (args_list_sort _)))
  obtain ⟨ss, b1, b2, b3⟩ := sorted_out_str hS hp hs
  obtain ⟨ns, e, pn, ris⟩ := rising (b2.trans ps2) b3 hn
  subst e
  obtain ⟨c, hc⟩ := sortedHeap_at (vs := vs) (out := (arrOf st').map (·.2)) hoL
  refine wpAny_pure ⟨_, rfl, hQ _ s1.heap.objs.size _ c ns (fun b u e => ?_) g1 o1 hz hc b1 ris pn⟩
  have q := k1 b u e
  have hlt := Heap.lt_size q
  show (sortedHeap (s1.heap.push (seqObj "list" vs.toArray 0)) s1.heap.objs.size vs _).get? b = some u
  rw [sortedHeap_old (Nat.ne_of_lt hlt) (by rw [size_push']; exact Nat.lt_succ_of_lt hlt)]
  exact Heap.get?_push_of_some _ q
end
end Tx

set_option Elab.async false
set_option linter.all false
set_option maxRecDepth 100000
set_option maxHeartbeats 3200000
/-! defs that show data by repr: what is known of a call's guards goes along -/
namespace Tg
open PySem PySem.Spec PyProof.Rows L2

/-- nothing is being shown where the call stands -/
abbrev Still (A : Around) : Prop := A.guards = some []

/-- a def's promise, kept where nothing is being shown -/
structure Kept (P : Program) (w : World) (K : PySem.W.Frag) (mg : Str → Option Value) (base : Heap) (cx : CXT) (k : Nat) (f : Addr) (fd : FuncData) (ps : List Str) (sp : Sp) : Prop where
  long : ∀ xs H Q E, sp xs H Q E → xs.length = ps.length
  goes : ∀ (A : Around) (out : List Env) (s : Shared) (H : Hp) (args : Args) (us : List Value) (xs : List V) (Q : VK) (E : XK), Room k A → Still A → Env0 P w K mg base A out s H →
    BindsTo s fd args (ps.zip us) → Vals xs us → sp xs H Q E → codeAny (model P w) A (.call (.ref f) args) (CR cx out P w H s Q E) s

section
variable {P : Program} {w : World} {K : PySem.W.Frag} {mg : Str → Option Value} {base : Heap}
theorem Kept.ok {cx : CXT} {k : Nat} {f : Addr} {name qual : Str} {params : Arguments} {body : List Stmt} {scope : Scope} {dV kV doc pm cdv ct oc : Value} {an od : Option Addr}
    {osl : Array (Option Value)} {N ps : List Str} {sp : Sp}
    (look : K.lookup f = some ⟨oc, od, .func (PySem.W.fnOf name qual params body scope dV kV doc pm an cdv ct), osl⟩)
    (code : PySem.W.codeIn K cdv qual = true) (S : FnScope N ps scope) (long : ∀ xs H Q E, sp xs H Q E → xs.length = ps.length)
    (inner : ∀ (A : Around) (out : List Env) (s : Shared) (H : Hp) (xs : List V) (Q : VK) (E : XK), Room k (A.deeper (envOfC qual scope s.heap.objs.size f cdv)) →
      Still (A.deeper (envOfC qual scope s.heap.objs.size f cdv)) → sp xs H Q E →
      ∃ t, PSs (cxOf cx P w K mg base N qual scope f cdv A out s H E) body t ∧ t { nx := fun _ H2 => Q .non H2, rt := Q } (start N xs) H) :
    Kept P w K mg base cx (k + 1) f (PySem.W.fnOf name qual params body scope dV kV doc pm an cdv ct) ps sp where
  long := long
  goes := by
    intro A out s H args us xs Q E room still e0 bound rel hsp
    have hl := long _ _ _ _ hsp
    have inK : K.In s.heap := e0.mod.kin.keeps fun b o e => (e0.bs b o e).1
    have limit : s.heap.NoLimit := e0.mod.nolimit.keeps fun b o e => (e0.bs b o e).1
    have kinds : ∀ y ∈ ps.zip us, scope.names.lookup y.1 = some .local ∨
        (scope.names.lookup y.1 = some .cell ∧ ((cellsFrom (s.heap.objs.size + 1) scope.names []).lookup y.1).isSome = true) := by
      rintro ⟨n, v⟩ hy
      cases S.par n (List.of_mem_zip hy).1 with
      | inl q => exact .inl q
      | inr q => exact .inr ⟨q, PySem.W.cellsFrom_some _ _ _ (.inl q)⟩
    refine codeAny_call_function room.depth (inK _ _ look) rfl S.co S.gen rfl (PySem.W.codeRec_of inK code) (bound _ _ _ _ ?_)
    refine wpAny_newFunctionEnv_cells S.kind kinds fun env he z x => ?_
    subst he
    refine ⟨limit.keeps x.toInCall.keep, codeAny_func ?_⟩
    obtain ⟨t, ht, hq⟩ := inner A out s H xs Q E (room.deeper _) still hsp
    have J0 : Inv (cxOf cx P w K mg base N qual scope f cdv A out s H E) [] (start N xs) H z := inv_start S room.hd e0 hl rel x
    refine wpAny_mono (ht.run [] z (start N xs) H _ J0 hq) (fun fl z' hs => ?_) fun e z' hs => hs
    have close : ∀ {σ' : L2.St} {H2 : Hp} {v : V} {u : Value}, Inv (cxOf cx P w K mg base N qual scope f cdv A out s H E) [] σ' H2 z' → RelV v u → Q v H2 → CE out P w H s Q u z' := by
      intro σ' H2 v u J rv q
      exact ⟨v, H2, J.os, J.bare, J.base, J.hok, rv, q⟩
    cases fl with
    | ret u =>
      obtain ⟨v, σ', H2, J, rv, q⟩ := hs
      exact close J rv q
    | next =>
      obtain ⟨σ', H2, J, q⟩ := hs
      exact close (v := V.non) (u := Value.none) J rfl q
    | brk =>
      obtain ⟨_, _, _, q⟩ := hs
      exact q.elim
    | cont =>
      obtain ⟨_, _, _, q⟩ := hs
      exact q.elim

/-- for a def of the text that lets nothing out -/
theorem Kept.fn {x qual : Str} {st : Stmt} {f : Addr} {fd : FuncData} {N ps : List Str} {k : Nat} {sp : Sp} (F : Fun K x qual st f fd) (S : FnScope N ps (defScope st))
    (long : ∀ xs H Q E, sp xs H Q E → xs.length = ps.length)
    (inner : ∀ (cdv : Value) (A : Around) (out : List Env) (s : Shared) (H : Hp) (xs : List V) (Q : VK) (E : XK), Room k (A.deeper (envOfC qual (defScope st) s.heap.objs.size f cdv)) →
      Still (A.deeper (envOfC qual (defScope st) s.heap.objs.size f cdv)) → sp xs H Q E →
      ∃ t, PSs (cxOf CX0 P w K mg base N qual (defScope st) f cdv A out s H E).nox (defBody st) t ∧ t { nx := fun _ H2 => Q .non H2, rt := Q } (start N xs) H) :
    Kept P w K mg base CX0 (k + 1) f fd ps sp := by
  obtain ⟨oc, od, kV, doc, pm, an, cdv, ct, osl, e, look, code⟩ := F.ex
  subst e
  refine Kept.ok look code S long fun A out s H xs Q E room still hsp => ?_
  obtain ⟨t, h, q⟩ := inner cdv A out s H xs Q E room still hsp
  exact ⟨t, h.nox, q⟩
end

section
variable {X : Cx} {cx : CXT} {k : Nat} {f : Addr} {fd : FuncData} {ps : List Str} {sp : Sp} {dvs : List V} {ds : List Value} {E : XK} {x : Str} {p pos : Pos} {e : Expr} {es : List Expr} {t : TA}
theorem Kept.runs {pins : List (Addr × Obj)} {σ : L2.St} {H : Hp} {s : Shared} {Q : VK} {us : List Value} {xs : List V} (F : Kept X.prog X.w X.K X.mg X.base cx k f fd ps sp) (room : Room k X.A) (still : Still X.A)
    (hb : Binds X.K fd ps ds) (hd : Vals dvs ds) (hx : Passes cx X E) (I : Inv X pins σ H s) (r : Vals xs us) (h : sp (xs ++ dvs) H Q E) :
    wpAny (model X.prog X.w) X.A (call (.ref f) us) (EP X pins σ Q) X.xe s := by
  have r2 : Vals (xs ++ dvs) (us ++ ds) := r.append hd
  have hl : (us ++ ds).length = ps.length := r2.length.symm.trans (F.long _ _ _ _ h)
  refine wpAny_call (codeAny_mono (F.goes X.A X.stack s H ⟨us, []⟩ (us ++ ds) (xs ++ dvs) Q E room still I.env0 (hb s us I.kIn hl) r2 h) fun r z hq => ?_)
  match r, hq with
  | .error e, hq => exact hx pins σ H s e z I hq
  | .ok (.ret u), hq => exact I.after hq
  | .ok .next, hq => exact False.elim hq
  | .ok .brk, hq => exact False.elim hq
  | .ok .cont, hq => exact False.elim hq
/-- f(e, ..) of such a def -/
theorem pe_callG (F : Kept X.prog X.w X.K X.mg X.base cx k f fd ps sp) (room : Room k X.A) (still : Still X.A) (hg : Gl X x) (hm : X.mg x = some (.ref f)) (hk : PySem.W.keepIn X.K (.ref f) = true)
    (hb : Binds X.K fd ps ds) (hd : Vals dvs ds) (hx : Passes cx X E) (ha : PA X (e :: es) t) (hdb : (x == ("__debug__" : Str)) = false := by decide)
    (he : starEach (e :: es) X.env = (false, eval e X.env) :: starEach es X.env := by rfl) (hpl : (backTo pos (starEach es X.env)).any (·.1) = false := by rfl) :
    PE X (.Call (.Name x p) (e :: es) [] pos) (tCall sp dvs E t) := by
  constructor
  intro pins s σ H Q I h
  refine wpAny_Call_Name_kw (ld_glob I hg hm ?_ hdb)
  refine PySem.W.callWith_K (h₀ := X.base) I.ok.mod.kin hk ?_ he hpl
  exact thn (ha.run pos pins s σ H _ I h) fun us z ⟨xs, H1, J, r, q⟩ => ⟨J.kIn, F.runs room still hb hd hx J r q⟩

/-- data as it stands in the abstract heap: none, bools, ints, texts, lists, tuples, and dicts of texts and ints -/
inductive Data (K : PySem.W.Frag) (H : Hp) : V → PyData → Prop
  | flat {v : V} {d : PyData} (h : Dp K H v d) (n : d.hasDict = false) : Data K H v d
  | dict {a : Addr} {kvs : List (Str × Int)} (h : H a = some (.dK (kvs.map fun p => (Sum.inr p.1, V.int p.2)))) : Data K H (.ref a) (.dict (kvs.map fun p => (.str p.1, .int p.2)))

theorem keys_flat (h : Heap) : ∀ (kvs : List (Str × Int)) (es : List DictEntry) (vs : List (Key × Value)), Pairs (mixKind X.prog X.w) es vs → KV (kvs.map fun p => (Sum.inr p.1, V.int p.2)) vs →
    ReadsAll h (es.map (·.key)) ((kvs.map fun p => ((PyData.str p.1, PyData.int p.2) : PyData × PyData)).map (·.1)) [] ∧ ReadsAll h (es.map (·.val)) ((kvs.map fun p => ((PyData.str p.1, PyData.int p.2) : PyData × PyData)).map (·.2)) [] := by
  intro kvs
  induction kvs with
  | nil =>
    intro es vs hp rel
    cases rel
    cases hp
    exact ⟨.nil, .nil⟩
  | cons p kvs ih =>
    intro es vs hp rel
    cases rel with
    | @cons _ kv _ vs' r1 r2 =>
      cases hp with
      | @cons e _ es' _ hk hv hp' =>
        obtain ⟨q1, q2⟩ := ih _ _ hp' r2
        obtain ⟨k0, v0⟩ := kv
        obtain ⟨r3, r4⟩ := r1
        dsimp only at r3 r4 hk hv
        subst r3
        obtain ⟨t, r4⟩ := r4
        rcases keyIs_shape (show keyIs (Sum.inr p.1 : Key) e.key = true from hk) with ⟨i, t', z, _⟩ | ⟨x, t', z, e'⟩
        · cases z
        · cases z
          refine ⟨?_, ?_⟩
          · show ReadsAll h (e.key :: _) (PyData.str p.1 :: _) ([] ++ [])
            rw [e']
            exact .cons (.str _ _) q1
          · show ReadsAll h (e.val :: _) (PyData.int p.2 :: _) ([] ++ [])
            rw [hv, r4]
            exact .cons (.int _ _) q2
theorem Data.reads {pins : List (Addr × Obj)} {σ : L2.St} {H : Hp} {s : Shared} (I : Inv X pins σ H s) {v : V} {u : Value} {d : PyData} (h : Data X.K H v d) (r : RelV v u) :
    ∃ as, Reads s.heap u d as ∧ (d.hasDict = true → sysModules ∉ as) := by
  cases h with
  | flat h n =>
    obtain ⟨as, q⟩ := Dp.reads I d v u h r
    exact ⟨as, q, fun z => by rw [n] at z; cases z⟩
  | @dict a kvs h =>
    cases r
    obtain ⟨hz, hs, vs, rel, o, es, ep, ho, hx, hd, _, hp, _⟩ := I.hok a _ h
    obtain ⟨q1, q2⟩ := keys_flat (X := X) s.heap kvs _ _ hp rel
    refine ⟨_, Reads.dict ho hx.1 hd q1 q2, fun _ z => ?_⟩
    simp only [List.append_nil, List.mem_singleton] at z
    rw [z] at hs
    simp at hs

/-- repr(x) -/
def rShow (K : PySem.W.Frag) : List V → Hp → VK → Prop := fun xs H Q => ∃ (x : V) (d : PyData), xs = [x] ∧ Data K H x d ∧ d.showable = true ∧ d.depth < 60 ∧ d.shown.length ≤ sizeLine ∧ Q (.str d.shown) H
theorem call_show (still : Still X.A) (hu : X.A.units + 64 < cLine) : CallR X (.builtin "repr") (rShow X.K) := by
  intro pins s σ H xs us Q I r h
  obtain ⟨x, d, rfl, hd, h1, h3, h4, q⟩ := h
  obtain ⟨u, rfl, r1⟩ : ∃ u, us = [u] ∧ RelV x u := by
    cases r with
    | cons a b => cases b; exact ⟨_, rfl, a⟩
  obtain ⟨as, rd, hsm⟩ := Data.reads I hd r1
  cases rd with
  | none => exact P.repr_of_none ⟨.str (PyData.shown .none), H, I.tok _, ⟨_, rfl⟩, q⟩
  | bool b => exact P.repr_of_bool ⟨.str (PyData.shown (.bool b)), H, I.tok _, ⟨_, rfl⟩, q⟩
  | int i t => exact P.repr_of_int (of_decide_eq_true h1) ⟨.str (PyData.shown (.int i)), H, I.tok _, ⟨_, rfl⟩, q⟩
  | str z t => exact P.repr_of_str ⟨.str (PyData.shown (.str z)), H, I.tok _, ⟨_, rfl⟩, q⟩ h4
  | list a1 a2 a3 a4 => exact repr_of_reads' (Reads.list a1 a2 a3 a4) h1 hsm still (by omega) (fun _ _ e => e) (fun h' u tk hk => ⟨.str (PyData.shown _), H, I.kept (t' := tk) hk, ⟨_, rfl⟩, q⟩) h4
  | tuple a1 a2 a3 a4 => exact repr_of_reads' (Reads.tuple a1 a2 a3 a4) h1 hsm still (by omega) (fun _ _ e => e) (fun h' u tk hk => ⟨.str (PyData.shown _), H, I.kept (t' := tk) hk, ⟨_, rfl⟩, q⟩) h4
  | dict a1 a2 a3 a4 a5 => exact repr_of_reads' (Reads.dict a1 a2 a3 a4 a5) h1 hsm still (by omega) (fun _ _ e => e) (fun h' u tk hk => ⟨.str (PyData.shown _), H, I.kept (t' := tk) hk, ⟨_, rfl⟩, q⟩) h4
end

/-! ### the head: the law's call, nothing being shown -/
section
variable {P : Program} {w : World} {K : PySem.W.Frag} {mg mb : Str → Option Value} {cx : CXT} {k : Nat} {fa a : Addr} {fd : FuncData} {x : Str} {sp : Sp} {s₁ : Shared} {vs : List Value} {ns : List Int}
/-- from one abstract heap in which at most the script stands -/
theorem law_core (KX : K.In s₁.heap) (hns : s₁.heap.Ns mainGlobals mg) (hb : s₁.heap.Ns builtinsNs mb) (hbb : ∀ x : Str, x ≠ "__name__" → mb x = bootBuiltins x) (hlim : s₁.heap.NoLimit) (hg : s₁.gens = #[])
    (ha : s₁.heap.get? a = some { cls := .type "list", data := .seq vs.toArray }) (room : Room k callerA)
    (F : ∀ base : Heap, K.In base → base.Ns mainGlobals mg → Kept P w K mg base cx k fa fd [x] sp) (hbind : ∀ (s : Shared) (u : Value), BindsTo s fd ⟨[u], []⟩ [(x, u)])
    (hcx : ∀ H e z, cx [] H s₁ (fun _ _ _ => False) e z → False)
    (H : Hp) (only : Only H) (want : sp [.ref a] H (fun v _ => v = .bl true) fun _ _ _ => False) (hok : HOk P w H s₁.heap) (at_a : ∀ b, H b ≠ none → b = a) (notK : H a ≠ none → K.lookup a = none) :
    codeAny (model P w) callerA (.call (.ref fa) ⟨[.ref a], []⟩) (fun r z => r = .ok (.ret (.bool true)) ∧ OldK s₁.heap z.heap ∧ z.os = s₁.os ∧ AllBare z.gens) s₁ := by
  have under : ∀ {b : Addr} {o : Obj}, s₁.heap.get? b = some o → H b = none → (hidT s₁.heap H).get? b = some o := fun e n => hidT_get e n
  have away : ∀ {b : Addr}, (b = a → False) → H b = none := by
    intro b n
    cases q : H b with
    | none => rfl
    | some u => exact (n (at_a b (by rw [q]; simp))).elim
  have noDict : ∀ {b : Addr} {o : Obj} {es : Array DictEntry} {ep : Nat}, s₁.heap.get? b = some o → o.data = .dict es ep → H b = none := by
    intro b o es ep e d
    refine away fun z => ?_
    subst z
    rw [ha] at e
    cases e
    cases d
  have names : ∀ {b : Addr} {m : Str → Option Value}, s₁.heap.Ns b m → (hidT s₁.heap H).Ns b m := by
    rintro b m ⟨o, es, ep, e, d, r⟩
    exact ⟨o, es, ep, under e (noDict e d), d, r⟩
  have inB : K.In (hidT s₁.heap H) := by
    intro b o e
    refine under (KX b o e) ?_
    cases q : H b with
    | none => rfl
    | some u =>
      have z := at_a b (by rw [q]; simp)
      subst z
      have n := notK (by rw [q]; simp)
      rw [n] at e
      cases e
  have md : Mod K mg (hidT s₁.heap H) := ⟨inB, names hns, ⟨mb, names hb, hbb⟩, let ⟨mc, h1, h2⟩ := hlim; ⟨mc, names h1, h2⟩⟩
  have e0 : Env0 P w K mg (hidT s₁.heap H) callerA [] s₁ H := by
    refine ⟨rfl, md, fun b o e => of_hidT e, Nat.le_of_eq (hidT_size _ _), trivial, fun b hb => ?_, hok, .of_eq hg⟩
    exact absurd (show b ∈ ([] : List Addr) from hb) (by simp)
  refine codeAny_mono ((F _ inB (names hns)).goes callerA [] s₁ H ⟨[.ref a], []⟩ [.ref a] [.ref a] _ _ room rfl e0 (hbind s₁ (.ref a)) (.cons rfl .nil) want) fun r z h => ?_
  match r, h with
  | .error e, h => exact (hcx H e z h).elim
  | .ok .next, h => exact False.elim h
  | .ok .brk, h => exact False.elim h
  | .ok .cont, h => exact False.elim h
  | .ok (.ret u), h =>
    obtain ⟨v, H2, os, bare, un, hok2, r2, q⟩ := h
    have q' : v = .bl true := q
    subst q'
    obtain rfl : u = Value.bool true := r2
    refine ⟨rfl, OldK.of_keep fun b o e => ?_, os, bare⟩
    cases q : H b with
    | none =>
      refine un.keep b o e q (fun y => ?_) (by simp)
      exact absurd (show b ∈ ([] : List Addr) from y) (by simp)
    | some u =>
      rcases only b with y | ⟨ob, xs, y⟩
      · rw [q] at y
        cases y
      · have y2 := un.frzs b ob _ y
        obtain ⟨e1, _⟩ := hok b _ y
        obtain ⟨e2, _⟩ := hok2 b _ y2
        rw [e] at e1
        cases e1
        exact e2

theorem law_call (KX : K.In s₁.heap) (hns : s₁.heap.Ns mainGlobals mg) (hb : s₁.heap.Ns builtinsNs mb) (hbb : ∀ x : Str, x ≠ "__name__" → mb x = bootBuiltins x) (hlim : s₁.heap.NoLimit) (hg : s₁.gens = #[])
    (ha : s₁.heap.get? a = some { cls := .type "list", data := .seq vs.toArray }) (hi : IntsAre vs ns) (hl : ns.length ≤ sizeLine) (room : Room k callerA)
    (F : ∀ base : Heap, K.In base → base.Ns mainGlobals mg → Kept P w K mg base cx k fa fd [x] sp) (hbind : ∀ (s : Shared) (u : Value), BindsTo s fd ⟨[u], []⟩ [(x, u)])
    (hsp : ∀ H : Hp, Only H → SqL K H a (ns.map V.int) → sp [.ref a] H (fun v _ => v = .bl true) fun _ _ _ => False)
    (hcx : ∀ H e z, cx [] H s₁ (fun _ _ _ => False) e z → False) :
    codeAny (model P w) callerA (.call (.ref fa) ⟨[.ref a], []⟩) (fun r z => r = .ok (.ret (.bool true)) ∧ OldK s₁.heap z.heap ∧ z.os = s₁.os ∧ AllBare z.gens) s₁ := by
  have rel := vals_ints hi
  have len := hi.length
  have core := law_core KX hns hb hbb hlim hg ha room F hbind hcx
  cases hk : K.lookup a with
  | some o =>
    have e := KX a o hk
    rw [ha] at e
    cases e
    have only : Only (fun _ => none) := fun _ => .inl rfl
    refine core (fun _ => none) only (hsp _ only ?_) (fun b u z => nomatch (show (none : Option HO) = some u from z)) (fun b z => absurd rfl z) fun z => absurd rfl z
    exact .inr ⟨_, vs.toArray, _, hk, rfl, rfl, rfl, by rw [List.size_toArray, len]; exact hl, by simpa using rel⟩
  | none =>
    have only : Only (fun b => if b = a then some (.frz { cls := .type "list", data := .seq vs.toArray } (.lst (ns.map V.int))) else none) := by
      intro b
      by_cases z : b = a
      · exact .inr ⟨_, _, if_pos z⟩
      · exact .inl (if_neg z)
    refine core _ only (hsp _ only ?_) (fun b u z => ?_) (fun b z => ?_) fun _ => hk
    · exact .inl (.inr ⟨{ cls := .type "list", data := .seq vs.toArray }, if_pos rfl⟩)
    · by_cases y : b = a
      · have z' := (if_pos y).symm.trans z
        cases z'
        subst y
        exact ⟨ha, by rw [List.length_map]; exact hl, vs, _, rel, ha⟩
      · have z' := (if_neg y).symm.trans z
        cases z'
    · by_cases y : b = a
      · exact y
      · exact absurd (if_neg y) z
end

/-- the goal that the head leaves -/
theorem walk {l : PySem.W.OpenLaw} {n k : Nat} {q : Program} {loose : List Str} {XP : (Str → Option Value) → Heap → Prop} {YP : World → Heap → Prop} {d : DefRec} {K : Params → PySem.W.Frag} {cx : World → CXT} {sp : World → Sp} {x : Str}
    (hn : l.most = some n) (hn2 : n ≤ sizeLine) (hdf : d.params.defaults = []) (room : Room k callerA) (hY : ∀ (w : World) (h : Heap), YP w h → (K w.params).In h)
    (F : ∀ (w : World) (mg : Str → Option Value) (fa : Addr) (h : Heap), (K w.params).In h → h.Ns mainGlobals mg → mg d.name = some (.ref fa) → XP mg h →
      ∃ fd : FuncData, (∀ (s : Shared) (u : Value), BindsTo s fd ⟨[u], []⟩ [(x, u)]) ∧
        ∀ base : Heap, (K w.params).In base → base.Ns mainGlobals mg → Kept l.prog w (K w.params) mg base (cx w) k fa fd [x] (sp w))
    (hsp : ∀ (w : World) (H : Hp) (a : Addr) (ns : List Int), ns.length ≤ n → Only H → SqL (K w.params) H a (ns.map V.int) → sp w [.ref a] H (fun v _ => v = .bl true) fun _ _ _ => False)
    (hcx : ∀ (w : World) (H : Hp) (s : Shared) (e : Value) (z : Shared), cx w [] H s (fun _ _ _ => False) e z → False) :
    PySem.W.WalkO q loose XP YP l.row.toRowW d [] (fun f vs => PySem.call f vs) := by
  refine Att.attach_call hn hdf ?_
  intro w s₀ s₁ mg mb fa o pm cd doc a vs ns G Y ho hd hcd hmg hobj hints hlen hg
  have KX := hY w _ Y
  obtain ⟨fd, hb, hF⟩ := F w mg fa _ KX G.T.g hmg G.X
  exact law_call KX G.T.g G.T.b G.T.builtins G.T.nolimit hg hobj hints (Nat.le_trans hlen hn2) room hF hb (fun H hO hS => hsp w H a ns hlen hO hS) fun H e z => hcx w H s₁ e z
end Tg

set_option Elab.async false
set_option linter.all false
set_option maxRecDepth 100000
set_option maxHeartbeats 3200000
/-! set(a text), sorted(it), list(a text), as rules -/
namespace Tx
open PySem PySem.Spec PyProof.Rows L2

/-- the signs of a text, each once, rising -/
def ups (l : List Nat) : List Nat := (met [] l).mergeSort (fun a b => decide (a ≤ b))
theorem ups_perm (l : List Nat) : (ups l).Perm (met [] l) := List.mergeSort_perm _ _
theorem ups_mem (l : List Nat) (c : Nat) : c ∈ ups l ↔ c ∈ l := by
  rw [(ups_perm l).mem_iff, met_mem]
  simp
theorem ups_nodup (l : List Nat) : (ups l).Nodup := (ups_perm l).nodup_iff.mpr (met_nodup l [] List.nodup_nil)
theorem ups_up (l : List Nat) : (ups l).Pairwise (· < ·) := by
  have h1 : (ups l).Pairwise (fun a b => decide (a ≤ b) = true) :=
    List.pairwise_mergeSort (le := fun a b : Nat => decide (a ≤ b)) (fun a b c h1 h2 => by
      have h1' := of_decide_eq_true h1
      have h2' := of_decide_eq_true h2
      exact decide_eq_true (Nat.le_trans h1' h2')) (fun a b => by
      rcases Nat.le_total a b with z | z
      · simp [z]
      · simp [z]) (met [] l)
  have h2 : (ups l).Pairwise (· ≠ ·) := ups_nodup l
  refine List.Pairwise.imp₂ (fun x y a b => ?_) h1 h2
  have a' := of_decide_eq_true a
  omega
theorem up_eq : ∀ {l m : List Nat}, l.Pairwise (· < ·) → m.Pairwise (· < ·) → (∀ c, c ∈ l ↔ c ∈ m) → l = m
  | [], [], _, _, _ => rfl
  | [], y :: m, _, _, h => by have := (h y).mpr List.mem_cons_self; simp at this
  | x :: l, [], _, _, h => by have := (h x).mp List.mem_cons_self; simp at this
  | x :: l, y :: m, h1, h2, h => by
    obtain ⟨a1, a2⟩ := List.pairwise_cons.mp h1
    obtain ⟨b1, b2⟩ := List.pairwise_cons.mp h2
    have e : x = y := by
      rcases List.mem_cons.mp ((h x).mp List.mem_cons_self) with z | z
      · exact z
      · rcases List.mem_cons.mp ((h y).mpr List.mem_cons_self) with u | u
        · exact u.symm
        · have := a1 y u
          have := b1 x z
          omega
    subst e
    rw [up_eq a2 b2 fun c => ?_]
    constructor
    · intro q
      rcases List.mem_cons.mp ((h c).mp (List.mem_cons_of_mem _ q)) with z | z
      · subst z
        exact absurd (a1 _ q) (Nat.lt_irrefl _)
      · exact z
    · intro q
      rcases List.mem_cons.mp ((h c).mpr (List.mem_cons_of_mem _ q)) with z | z
      · subst z
        exact absurd (b1 _ q) (Nat.lt_irrefl _)
      · exact z
theorem ups_of {l ns : List Nat} (h : ns.Pairwise (· < ·)) (p : ns.Perm (met [] l)) : ns = ups l :=
  up_eq h (ups_up l) fun c => by rw [p.mem_iff, ups_mem, met_mem]; simp

/-- one-sign texts as values -/
abbrev ones (l : List Nat) : List V := l.map fun c => V.str (one c)
theorem ones_map (l : List Nat) : ones l = (l.map one).map V.str := by rw [List.map_map]; rfl

/-- the set of texts at a -/
def TO (w : World) (a : Addr) (acc : List Nat) : HO := .ext fun h => At w h a (acc.map one)
section
variable {X : Cx}
theorem to_new {w : World} {P : Program} {H : Hp} {h : Heap} {a : Addr} {acc : List Nat} (R : At w h a (acc.map one)) : ObjOk P w H h a (TO w a acc) :=
  ⟨R, let ⟨o, _, _, _, ho, _⟩ := R; ⟨o, ho⟩, fun _ _ p k => At.stays p k⟩
/-- set(s), s a text of few different signs -/
def rSetTx (w : World) : List V → Hp → VK → Prop := fun xs H Q => ∃ z : Str, xs = [.str z] ∧ (met [] z.cps.toList).length < 64 ∧ ∀ p, H p = none → Q (.ref p) (upd H p (TO w p (met [] z.cps.toList)))
theorem cr_setTx (hc : X.calm = true) : CallR X (.type "set") (rSetTx X.w) := by
  intro pins s σ H xs us Q I r h
  obtain ⟨z, rfl, hf, q⟩ := h
  obtain ⟨t, rfl⟩ : ∃ t, us = [Value.str z t] := by
    cases r with
    | cons a b =>
      cases b
      obtain ⟨t, rfl⟩ := a
      exact ⟨t, rfl⟩
  have hb : (met [] z.cps.toList).length + 1 < scanBound := by
    have : (64 : Nat) + 1 < scanBound := by decide
    omega
  refine call_set_text (P := X.prog) (w := X.w) (I.ok.hd hc) hb fun h' tk R k => ?_
  exact ⟨.ref _, upd H s.heap.objs.size (TO X.w s.heap.objs.size (met [] z.cps.toList)), I.laid (t' := tk) k (Nat.le_refl _) (to_new R), rfl, q _ (I.hok.fresh (Nat.le_refl _))⟩
/-- sorted(a set of texts) -/
def rSortTx (w : World) : List V → Hp → VK → Prop := fun xs H Q => ∃ (a : Addr) (l : List Nat), xs = [.ref a] ∧ H a = some (TO w a (met [] l)) ∧ (met [] l).length < 64 ∧ ∀ p, H p = none → Q (.ref p) (upd H p (.lst (ones (ups l))))
theorem cr_sortTx (hc : X.calm = true) : CallR X (.builtin "sorted") (rSortTx X.w) := by
  intro pins s σ H vs us Q I r h
  obtain ⟨a, l, rfl, ha, h64, q⟩ := h
  have R : At X.w s.heap a ((met [] l).map one) := (I.hok a _ ha).1
  rw [Vals.ref1 r]
  refine sorted_text (P := X.prog) R (met_nodup l [] List.nodup_nil) (I.ok.hd hc) h64 fun z p out c ns k g o hp hg hS up pm => ?_
  obtain rfl := ups_of up pm
  have hlen : (ones (ups l)).length ≤ sizeLine := by
    rw [List.length_map, pm.length_eq, sizeLine_eq]
    omega
  have hn : H p = none := I.hok.fresh hp
  have hv : Vals (ones (ups l)) out.toList := by rw [ones_map]; exact vals_of_strs hS
  have J : Inv X pins σ (upd H p (.lst (ones (ups l)))) { s with heap := z.heap, gens := z.gens, drawn := z.drawn, toks := z.toks } :=
    I.call (ch := []) (Un.laid k hp hn) (I.hok.laid k hp ⟨hlen, out.toList, c, hv, hg⟩) (by rw [g]; exact I.bare) (fun _ y => nomatch y)
  have e : z = { s with heap := z.heap, gens := z.gens, drawn := z.drawn, toks := z.toks } := by
    cases z
    cases s
    cases o
    rfl
  rw [e]
  exact ⟨.ref p, _, J, rfl, q p hn⟩
/-- list(s), s a text -/
def rListTx : List V → Hp → VK → Prop := fun xs H Q => ∃ z : Str, xs = [.str z] ∧ z.length ≤ sizeLine ∧ ∀ p, H p = none → Q (.ref p) (upd H p (.lst (ones z.cps.toList)))
theorem signs_vals {z : Str} {acc : Array Value} (h : ItemsOf (SignAt z) acc z.cps.size) : Vals (ones z.cps.toList) acc.toList := by
  have all : ∀ (l : List Nat) (us : List Value), us.length = l.length → (∀ (j : Nat) (v : Value), us[j]? = some v → ∃ (c : Nat) (u : Tok), l[j]? = some c ∧ v = Value.str (one c) u) → Vals (ones l) us := by
    intro l
    induction l with
    | nil =>
      intro us hl _
      cases us with
      | nil => exact .nil
      | cons u us => simp at hl
    | cons c l ih =>
      intro us hl hg
      cases us with
      | nil => simp at hl
      | cons u us =>
        obtain ⟨d, t, h1, h2⟩ := hg 0 u rfl
        have e : c = d := Option.some.inj h1
        subst e
        refine .cons ⟨t, h2⟩ (ih us (by simpa using hl) fun j v hv => ?_)
        exact hg (j + 1) v hv
  refine all _ _ (by rw [Array.length_toList, Array.length_toList]; exact h.1) fun j v hv => ?_
  rw [Array.getElem?_toList] at hv
  obtain ⟨c, u, h1, h2⟩ := h.2 j v hv
  exact ⟨c, u, by rw [Array.getElem?_toList]; exact h1, h2⟩
theorem cr_listTx (hc : X.calm = true) : CallR X (.type "list") rListTx := by
  intro pins s σ H xs us Q I r h
  obtain ⟨z, rfl, hl, q⟩ := h
  cases r with
  | cons a b =>
    cases b
    obtain ⟨t, rfl⟩ := a
    refine call_list_str (I.ok.hd hc) z t (hn := hl) fun h' tk acc c k hg hi => ?_
    have hz : (ones z.cps.toList).length ≤ sizeLine := by
      rw [List.length_map, Array.length_toList]
      exact hl
    exact ⟨.ref _, upd H s.heap.objs.size (.lst (ones z.cps.toList)), I.laid (t' := tk) k (Nat.le_refl _) ⟨hz, acc.toList, c, signs_vals hi, by simpa using hg⟩, rfl, q _ (I.hok.fresh (Nat.le_refl _))⟩
/-- a ** b, the result below 2 ^ 27 bits -/
theorem op_powW : OpR X (binaryOp .Pow) (rI (fun i j => 0 ≤ j ∧ (Builtin.Int.intBits i : Int) * j ≤ 2 ^ 27) fun i j => .int (i ^ j.toNat)) := opI fun _ _ _ _ _ _ _ hc q => pow_int hc.1 hc.2 q
end
end Tx

set_option Elab.async false
set_option linter.all false
set_option maxRecDepth 100000
set_option maxHeartbeats 3200000
/-! what the judges are worth, over plain data -/
namespace Tm
open PySem PySem.Spec PySem.Builtin PySem.Builtin.Str PyProof.Rows L2 Tx

abbrev cds (z : Str) : List Nat := z.cps.toList
theorem cds_ext {y z : Str} (h : cds y = cds z) : y = z := by
  cases y with
  | mk a =>
    cases z with
    | mk b =>
      have e : a = b := Array.toList_inj.mp h
      rw [e]
theorem cds_len (z : Str) : (cds z).length = z.length := by
  show z.cps.toList.length = z.cps.size
  rw [Array.length_toList]
/-- every sign of z is one of sg -/
def only (z sg : Str) : Bool := (cds z).all fun c => decide (c ∈ cds sg)
theorem only_iff {z sg : Str} : only z sg = true ↔ ∀ c ∈ cds z, c ∈ cds sg := by
  unfold only
  rw [List.all_eq_true]
  exact ⟨fun h c hc => of_decide_eq_true (h c hc), fun h c hc => decide_eq_true (h c hc)⟩
theorem getD_mem {z : Str} {k : Nat} (h : k < z.length) : z.cps.getD k 0 ∈ cds z := by
  have h' : k < z.cps.size := h
  have e : z.cps.getD k 0 = z.cps[k] := by simp [Array.getD, h']
  rw [e]
  exact Array.getElem_mem_toList h'
theorem mem_getD {z : Str} {c : Nat} (h : c ∈ cds z) : ∃ k, k < z.length ∧ z.cps.getD k 0 = c := by
  obtain ⟨k, hk, e⟩ := List.getElem_of_mem h
  have hk' : k < z.cps.size := by rw [Array.length_toList] at hk; exact hk
  refine ⟨k, hk', ?_⟩
  rw [← e]
  simp [Array.getD, hk']
theorem goes_iff {sg : Str} {c : Nat} : sg.cps.contains c = true ↔ c ∈ cds sg := by
  rw [Array.contains_iff_mem, Array.mem_toList_iff]
/-- strip with all the signs of sg leaves nothing exactly if there is no other sign -/
theorem strip_only (z sg : Str) : decide (Txt.stripChars z sg = Str.empty) = only z sg := by
  unfold Txt.stripChars
  rw [stripBy_eq]
  obtain ⟨a1, a2, a3⟩ := lo_facts sg.cps.contains z
  obtain ⟨b1, b2, b3, b4⟩ := hi_facts sg.cps.contains z _ a1
  generalize stripLo sg.cps.contains true z = lo at a1 a2 a3 b1 b2 b3 b4 ⊢
  generalize stripHi sg.cps.contains true z lo = hi at b1 b2 b3 b4 ⊢
  have key : strSub z lo hi = Str.empty ↔ lo = hi := by
    constructor
    · intro h
      have e : (z.cps.extract lo hi).size = 0 := by
        have := congrArg (fun y : Str => y.cps.size) h
        exact this
      rw [Array.size_extract] at e
      have hb : hi ≤ z.cps.size := b2
      omega
    · intro h
      subst h
      refine cds_ext ?_
      show (z.cps.extract lo lo).toList = (Str.empty).cps.toList
      rw [Array.extract_empty_of_stop_le_start (Nat.le_refl _)]
      rfl
  by_cases h : only z sg = true
  · rw [h]
    refine decide_eq_true (key.mpr ?_)
    have all := only_iff.mp h
    rcases Nat.lt_or_ge lo z.length with hl | hl
    · exfalso
      rcases a3 with e | e
      · omega
      · have := goes_iff.mpr (all _ (getD_mem hl))
        rw [e] at this
        cases this
    · have c2 : hi ≤ z.length := b2
      omega
  · have h' : only z sg = false := by simpa using h
    rw [h']
    refine decide_eq_false fun q => h (only_iff.mpr fun c hc => ?_)
    have e := key.mp q
    obtain ⟨k, hk, rfl⟩ := mem_getD hc
    rcases Nat.lt_or_ge k lo with u | u
    · exact goes_iff.mp (a2 k u)
    · exact goes_iff.mp (b3 k (by omega) hk)

/-! ### the judges -/
def big : Int := 10 ^ 200
def isInt : PyData → Bool
  | .int n => decide (n.natAbs < 10 ^ 200)
  | _ => false
def has (sg : Str) (most : Nat) : PyData → Bool
  | .str z => decide (z.length ≤ most) && only z sg
  | _ => false
def alpha : Str := "abcdefghijklmnopqrstuvwxyz"
def name : PyData → Bool
  | .str z => decide (z.length ≤ 8) && only z alpha && decide (z ≠ Str.empty)
  | _ => false
def rise (z : Str) : Bool := decide (cds z = ups (cds z))
def letters : PyData → Bool
  | .str z => decide (z.length ≤ 3) && only z alpha && decide (z ≠ Str.empty) && rise z
  | _ => false
def prime : PyData → Bool
  | .int n => decide (n = 2 ∨ n = 3 ∨ n = 5 ∨ n = 7)
  | _ => false
def lows (z : Str) : Bool := (cds z).all fun c => decide (97 ≤ c) && decide (c ≤ 122)
def small (most : Nat) : PyData → Bool
  | .str z => decide (1 ≤ z.length) && decide (z.length ≤ most) && lows z
  | _ => false
theorem alpha_iff (c : Nat) : c ∈ cds alpha ↔ 97 ≤ c ∧ c ≤ 122 := by
  have e : cds alpha = (List.range 26).map (· + 97) := by decide +kernel
  rw [e, List.mem_map]
  constructor
  · rintro ⟨k, hk, rfl⟩
    have := List.mem_range.mp hk
    omega
  · rintro ⟨h1, h2⟩
    exact ⟨c - 97, List.mem_range.mpr (by omega), by omega⟩
theorem only_alpha (z : Str) : only z alpha = lows z := by
  unfold only lows
  congr 1
  funext c
  by_cases h : c ∈ cds alpha
  · have := (alpha_iff c).mp h
    simp [h, this.1, this.2]
  · have h2 : ¬ (97 ≤ c ∧ c ≤ 122) := fun q => h ((alpha_iff c).mpr q)
    rw [decide_eq_false h, ← Bool.decide_and, decide_eq_false h2]
theorem nonempty_iff (z : Str) : z ≠ Str.empty ↔ 1 ≤ z.length := by
  constructor
  · intro h
    rcases Nat.eq_zero_or_pos z.length with e | e
    · exfalso
      apply h
      apply cds_ext
      have : (cds z).length = 0 := by rw [cds_len]; exact e
      rw [List.length_eq_zero_iff.mp this]
      rfl
    · exact e
  · intro h e
    subst e
    exact absurd h (by decide)
theorem name_small (d : PyData) : name d = small 8 d := by
  cases d with
  | str z =>
    show (decide (z.length ≤ 8) && only z alpha && decide (z ≠ Str.empty)) = (decide (1 ≤ z.length) && decide (z.length ≤ 8) && lows z)
    rw [only_alpha, decide_eq_decide.mpr (nonempty_iff z)]
    cases decide (z.length ≤ 8) <;> cases lows z <;> cases decide (1 ≤ z.length) <;> rfl
  | _ => rfl
theorem letters_small (d : PyData) : letters d = (small 3 d && (match d with | .str z => rise z | _ => false)) := by
  cases d with
  | str z =>
    show (decide (z.length ≤ 3) && only z alpha && decide (z ≠ Str.empty) && rise z) = (decide (1 ≤ z.length) && decide (z.length ≤ 3) && lows z && rise z)
    rw [only_alpha, decide_eq_decide.mpr (nonempty_iff z)]
    cases decide (z.length ≤ 3) <;> cases lows z <;> cases decide (1 ≤ z.length) <;> cases rise z <;> rfl
  | _ => rfl

/-! ### how numbers and texts are shown -/
theorem shown_int {n k : Int} (h : (toString n : String) = toString k) : n = k := by
  have e := congrArg String.toInt? h
  simpa using e

/-- a text that is judged: short, plain signs, few unlike ones -/
structure Fine (z : Str) : Prop where
  long : z.length ≤ 4001
  few : (met [] (cds z)).length < 64
  plain : ∀ c ∈ cds z, c < 128
/-- the four texts of the primes -/
abbrev four : List V := [.str "2", .str "3", .str "5", .str "7"]
/-- data that is judged -/
def Ok : PyData → Prop
  | .int n => n.natAbs.log2 < 1920
  | .str z => Fine z
  | d => d.showable = true ∧ d.depth < 60 ∧ d.shown.length ≤ sizeLine ∧ inV (.str d.shown) four = false
end Tm

set_option Elab.async false
set_option linter.all false
set_option maxRecDepth 100000
set_option maxHeartbeats 3200000
/-! data with dicts of texts: read, shown, compared -/
namespace Da
open PySem PySem.Spec PyProof.Rows L2 Tg
mutual
inductive Dr (K : PySem.W.Frag) (H : Hp) : V → PyData → Prop
  | non : Dr K H .non .none
  | bl (b : Bool) : Dr K H (.bl b) (.bool b)
  | int (i : Int) : Dr K H (.int i) (.int i)
  | str (z : Str) : Dr K H (.str z) (.str z)
  | lst {a : Addr} {xs : List V} {ds : List PyData} (h : SqL K H a xs) (r : DrAll K H xs ds) : Dr K H (.ref a) (.list ds)
  | tup {a : Addr} {xs : List V} {ds : List PyData} (h : SqT K H a xs) (r : DrAll K H xs ds) : Dr K H (.ref a) (.tuple ds)
  | dct {a : Addr} {kvs : List (Key × V)} {es : List (PyData × PyData)} (h : H a = some (.dK kvs)) (r : DrKv K H kvs es) : Dr K H (.ref a) (.dict es)
inductive DrAll (K : PySem.W.Frag) (H : Hp) : List V → List PyData → Prop
  | nil : DrAll K H [] []
  | cons {v : V} {vs : List V} {d : PyData} {ds : List PyData} (h : Dr K H v d) (r : DrAll K H vs ds) : DrAll K H (v :: vs) (d :: ds)
inductive DrKv (K : PySem.W.Frag) (H : Hp) : List (Key × V) → List (PyData × PyData) → Prop
  | nil : DrKv K H [] []
  | cons {x : Str} {v : V} {kvs : List (Key × V)} {d : PyData} {es : List (PyData × PyData)} (h : Dr K H v d) (r : DrKv K H kvs es) : DrKv K H ((Sum.inr x, v) :: kvs) ((.str x, d) :: es)
end
theorem sqL_same {K : PySem.W.Frag} {H H' : Hp} {a : Addr} {xs : List V} (s : Same H H') (h : SqL K H a xs) : SqL K H' a xs := s.seq h
theorem sqT_same {K : PySem.W.Frag} {H H' : Hp} {a : Addr} {xs : List V} (s : Same H H') (h : SqT K H a xs) : SqT K H' a xs := by
  rcases h with h | h
  · rcases h with h | ⟨o, h⟩
    · exact .inl (.inl (s _ _ h))
    · exact .inl (.inr ⟨o, s _ _ h⟩)
  · exact .inr h
section
variable {K : PySem.W.Frag} {H H' : Hp}
mutual
theorem Dr.same (s : Same H H') : ∀ (d : PyData) (v : V), Dr K H v d → Dr K H' v d
  | .none, _, h => by cases h; exact .non
  | .bool b, _, h => by cases h; exact .bl b
  | .int i, _, h => by cases h; exact .int i
  | .str z, _, h => by cases h; exact .str z
  | .list ds, _, h => by
    cases h with
    | lst h r => exact .lst (sqL_same s h) (DrAll.same s ds _ r)
  | .tuple ds, _, h => by
    cases h with
    | tup h r => exact .tup (sqT_same s h) (DrAll.same s ds _ r)
  | .dict es, _, h => by
    cases h with
    | dct h r => exact .dct (s _ _ h) (DrKv.same s es _ r)
theorem DrAll.same (s : Same H H') : ∀ (ds : List PyData) (vs : List V), DrAll K H vs ds → DrAll K H' vs ds
  | [], _, h => by cases h; exact .nil
  | d :: ds, _, h => by
    cases h with
    | cons h r => exact .cons (Dr.same s d _ h) (DrAll.same s ds _ r)
theorem DrKv.same (s : Same H H') : ∀ (es : List (PyData × PyData)) (kvs : List (Key × V)), DrKv K H kvs es → DrKv K H' kvs es
  | [], _, h => by cases h; exact .nil
  | (k, d) :: es, _, h => by
    cases h with
    | cons h r => exact .cons (Dr.same s d _ h) (DrKv.same s es _ r)
end
end
/-! no list within -/
mutual
def noL : PyData → Bool
  | .none | .bool _ | .int _ | .str _ => true
  | .list _ => false
  | .tuple ds => noLAll ds
  | .dict es => noLKv es
def noLAll : List PyData → Bool
  | [] => true
  | d :: ds => noL d && noLAll ds
def noLKv : List (PyData × PyData) → Bool
  | [] => true
  | (_, d) :: es => noL d && noLKv es
end
/-! ### read off -/
section
variable {X : Cx} {pins : List (Addr × Obj)} {σ : L2.St} {H : Hp} {s : Shared}
theorem dict_entries {kvs : List (Key × V)} {vs : List (Key × Value)} : ∀ {es : List DictEntry}, Pairs (mixKind X.prog X.w) es vs → KV kvs vs → ∀ ds : List (PyData × PyData), DrKv X.K H kvs ds →
    (∀ (d : PyData) (v : V) (u : Value), (∃ k, (k, d) ∈ ds) → Dr X.K H v d → RelV v u → ∃ as, Reads s.heap u d as ∧ (noL d = true → sysModules ∉ as)) →
    ∃ as bs, ReadsAll s.heap (es.map (·.key)) (ds.map (·.1)) as ∧ ReadsAll s.heap (es.map (·.val)) (ds.map (·.2)) bs ∧ sysModules ∉ as ∧ (noLKv ds = true → sysModules ∉ bs) := by
  intro es hp rel ds hd ih
  induction ds generalizing kvs vs es with
  | nil =>
    cases hd
    cases rel
    cases hp
    exact ⟨[], [], .nil, .nil, nofun, fun _ => nofun⟩
  | cons p ds ihd =>
    cases hd with
    | @cons x v kvs d _ h r =>
      cases rel with
      | @cons _ kv _ vs' r1 r2 =>
        cases hp with
        | @cons e _ es' _ hk hv hp' =>
          obtain ⟨as, bs, q1, q2, n1, n2⟩ := ihd hp' r2 r fun d v u ⟨k, hk⟩ => ih d v u ⟨k, List.mem_cons_of_mem _ hk⟩
          obtain ⟨k0, v0⟩ := kv
          obtain ⟨r3, r4⟩ := r1
          dsimp only at r3 r4 hk hv
          subst r3
          obtain ⟨cs, q3, n3⟩ := ih d v v0 ⟨_, List.mem_cons_self⟩ h r4
          rcases keyIs_shape (show keyIs (Sum.inr x : Key) e.key = true from hk) with ⟨i, t', z, _⟩ | ⟨y, t', z, e'⟩
          · cases z
          · cases z
            refine ⟨[] ++ as, cs ++ bs, ?_, ?_, n1, fun hn z => ?_⟩
            · show ReadsAll s.heap (e.key :: _) (PyData.str x :: _) _
              rw [e']
              exact .cons (.str _ _) q1
            · show ReadsAll s.heap (e.val :: _) (d :: _) _
              rw [hv]
              exact .cons q3 q2
            · have hn : (noL d && noLKv ds) = true := hn
              rw [Bool.and_eq_true] at hn
              rcases List.mem_append.mp z with z | z
              · exact n3 hn.1 z
              · exact n2 hn.2 z
mutual
theorem Dr.reads (I : Inv X pins σ H s) : ∀ (d : PyData) (v : V) (u : Value), Dr X.K H v d → RelV v u → ∃ as, Reads s.heap u d as ∧ (noL d = true → sysModules ∉ as)
  | .none, _, _, h, r => by
    cases h
    cases r
    exact ⟨_, Reads.none, fun _ => nofun⟩
  | .bool b, _, _, h, r => by
    cases h
    cases r
    exact ⟨_, Reads.bool b, fun _ => nofun⟩
  | .int i, _, _, h, r => by
    cases h
    obtain ⟨t, rfl⟩ := r
    exact ⟨_, Reads.int i t, fun _ => nofun⟩
  | .str x, _, _, h, r => by
    cases h
    obtain ⟨t, rfl⟩ := r
    exact ⟨_, Reads.str x t, fun _ => nofun⟩
  | .list ds, _, _, h, r => by
    cases h with
    | @lst a xs _ hs ha =>
      cases r
      obtain ⟨its, rv, ⟨o, n, ho, hc, _, hd⟩, _⟩ := I.list hs
      obtain ⟨as, hr, n1⟩ := Dr.readsAll I ds _ its ha rv
      exact ⟨_, Reads.list ho hc hd hr, fun z => nomatch z⟩
  | .tuple ds, _, _, h, r => by
    cases h with
    | tup hs ha =>
      cases r
      obtain ⟨its, rv, ⟨o, ho, hc, n, hd⟩, _⟩ := I.tuple hs
      obtain ⟨as, hr, n1⟩ := Dr.readsAll I ds _ its ha rv
      exact ⟨_, Reads.tuple ho hc hd hr, n1⟩
  | .dict es, _, _, h, r => by
    cases h with
    | @dct a kvs _ hh hr =>
      cases r
      obtain ⟨hz, hs, vs, rel, o, ens, ep, ho, hx, hd, _, hp, _⟩ := I.hok a _ hh
      obtain ⟨as, bs, q1, q2, n1, n2⟩ := dict_entries (X := X) (s := s) hp rel es hr (Dr.readsKv I es)
      refine ⟨_, Reads.dict ho hx.1 hd q1 q2, fun hn z => ?_⟩
      rw [List.cons_append] at z
      rcases List.mem_cons.mp z with z | z
      · rw [z] at hs
        simp at hs
      · rcases List.mem_append.mp z with z | z
        · exact n1 z
        · exact n2 hn z
theorem Dr.readsAll (I : Inv X pins σ H s) : ∀ (ds : List PyData) (vs : List V) (us : List Value), DrAll X.K H vs ds → Vals vs us → ∃ as, ReadsAll s.heap us ds as ∧ (noLAll ds = true → sysModules ∉ as)
  | [], _, _, h, r => by
    cases h
    cases r
    exact ⟨_, ReadsAll.nil, fun _ => nofun⟩
  | d :: ds, _, _, h, r => by
    cases h with
    | cons h1 h2 =>
      cases r with
      | cons r1 r2 =>
        obtain ⟨as, q1, n1⟩ := Dr.reads I d _ _ h1 r1
        obtain ⟨bs, q2, n2⟩ := Dr.readsAll I ds _ _ h2 r2
        refine ⟨_, ReadsAll.cons q1 q2, fun hn z => ?_⟩
        have hn : (noL d && noLAll ds) = true := hn
        rw [Bool.and_eq_true] at hn
        rcases List.mem_append.mp z with z | z
        · exact n1 hn.1 z
        · exact n2 hn.2 z
theorem Dr.readsKv (I : Inv X pins σ H s) : ∀ (es : List (PyData × PyData)) (d : PyData) (v : V) (u : Value), (∃ k, (k, d) ∈ es) → Dr X.K H v d → RelV v u → ∃ as, Reads s.heap u d as ∧ (noL d = true → sysModules ∉ as)
  | [], _, _, _, ⟨_, h⟩, _, _ => nomatch h
  | (k, d) :: es, d', v, u, h, hd, r => by
    by_cases e : d' = d
    · subst e
      exact Dr.reads I d' v u hd r
    · refine Dr.readsKv I es d' v u ?_ hd r
      obtain ⟨k', hk⟩ := h
      rcases List.mem_cons.mp hk with hk | hk
      · exact absurd (congrArg Prod.snd hk) e
      · exact ⟨k', hk⟩
end
end
/-! ### a list display that says where it stands -/
def tLstN (t : TA) : TE := fun σ H Q => t σ H fun xs H1 => xs.length ≤ sizeLine ∧ ∀ p, H1 p = none → p ≠ sysModules → Q (.ref p) (upd H1 p (.lst xs))
section
variable {X : Cx} {es : List Expr} {t : TA} {pos : Pos}
theorem pe_lstN (h : PA X es t) : PE X (.List es pos) (tLstN t) := by
  refine ⟨fun pins s σ H Q I hq => ?_⟩
  refine wpAny_List_spliced (thn (h.run pos pins s σ H _ I hq) fun us s1 ⟨xs, H1, I1, r, z, q⟩ => ⟨by rw [← r.length]; exact z, ?_⟩)
  have hf : H1 s1.heap.objs.size = none := I1.hok.fresh (Nat.le_refl _)
  refine ⟨.ref s1.heap.objs.size, upd H1 s1.heap.objs.size (.lst xs), I1.laid (t' := s1.toks) (fun b u e => Heap.get?_push_of_some _ e) (Nat.le_refl _) ?_, rfl, q _ hf (Nat.ne_of_gt I1.big)⟩
  exact ⟨z, us, 0, r, Heap.get?_push_size _ rfl⟩
end
/-! ### repr -/
/-- what may be shown: no list within, or a list that stands apart with no list within -/
def ShowAt (K : PySem.W.Frag) (H : Hp) (x : V) (d : PyData) : Prop := (Dr K H x d ∧ noL d = true) ∨ ∃ a xs ds, x = .ref a ∧ d = .list ds ∧ a ≠ sysModules ∧ SqL K H a xs ∧ DrAll K H xs ds ∧ noLAll ds = true
def rShowD (K : PySem.W.Frag) : List V → Hp → VK → Prop := fun xs H Q => ∃ (x : V) (d : PyData), xs = [x] ∧ ShowAt K H x d ∧ d.showable = true ∧ d.depth < 60 ∧ d.shown.length ≤ sizeLine ∧ Q (.str d.shown) H
section
variable {X : Cx}
theorem call_showD (still : Still X.A) (hu : X.A.units + 64 < cLine) : CallR X (.builtin "repr") (rShowD X.K) := by
  intro pins s σ H xs us Q I r h
  obtain ⟨x, d, rfl, hd, h1, h3, h4, q⟩ := h
  obtain ⟨u, rfl, r1⟩ : ∃ u, us = [u] ∧ RelV x u := by
    cases r with
    | cons a b => cases b; exact ⟨_, rfl, a⟩
  have rd : ∃ as, Reads s.heap u d as ∧ sysModules ∉ as := by
    rcases hd with ⟨hd, hn⟩ | ⟨a, xs, ds, rfl, rfl, na, hs, ha, hn⟩
    · obtain ⟨as, q1, q2⟩ := Dr.reads I d x u hd r1
      exact ⟨as, q1, q2 hn⟩
    · cases r1
      obtain ⟨its, rv, ⟨o, n, ho, hc, _, hd⟩, _⟩ := I.list hs
      obtain ⟨as, hr, n1⟩ := Dr.readsAll I ds _ its ha rv
      refine ⟨_, Reads.list ho hc hd hr, fun z => ?_⟩
      rcases List.mem_cons.mp z with z | z
      · exact na z.symm
      · exact n1 hn z
  obtain ⟨as, rd, hsm⟩ := rd
  cases rd with
  | none => exact P.repr_of_none ⟨.str (PyData.shown .none), H, I.tok _, ⟨_, rfl⟩, q⟩
  | bool b => exact P.repr_of_bool ⟨.str (PyData.shown (.bool b)), H, I.tok _, ⟨_, rfl⟩, q⟩
  | int i t => exact P.repr_of_int (of_decide_eq_true h1) ⟨.str (PyData.shown (.int i)), H, I.tok _, ⟨_, rfl⟩, q⟩
  | str z t => exact P.repr_of_str ⟨.str (PyData.shown (.str z)), H, I.tok _, ⟨_, rfl⟩, q⟩ h4
  | list a1 a2 a3 a4 => exact repr_of_reads' (Reads.list a1 a2 a3 a4) h1 (fun _ => hsm) still (by omega) (fun _ _ e => e) (fun h' u tk hk => ⟨.str (PyData.shown _), H, I.kept (t' := tk) hk, ⟨_, rfl⟩, q⟩) h4
  | tuple a1 a2 a3 a4 => exact repr_of_reads' (Reads.tuple a1 a2 a3 a4) h1 (fun _ => hsm) still (by omega) (fun _ _ e => e) (fun h' u tk hk => ⟨.str (PyData.shown _), H, I.kept (t' := tk) hk, ⟨_, rfl⟩, q⟩) h4
  | dict a1 a2 a3 a4 a5 => exact repr_of_reads' (Reads.dict a1 a2 a3 a4 a5) h1 (fun _ => hsm) still (by omega) (fun _ _ e => e) (fun h' u tk hk => ⟨.str (PyData.shown _), H, I.kept (t' := tk) hk, ⟨_, rfl⟩, q⟩) h4
end
end Da

set_option Elab.async false
set_option linter.all false
set_option maxRecDepth 100000
set_option maxHeartbeats 3200000
/-! data with dicts of texts: compared -/
namespace Da
open PySem PySem.Spec PyProof.Rows L2 Tg
mutual
def dq : PyData → PyData → Bool
  | .none, .none => true
  | .bool a, .bool b => a == b
  | .int a, .int b => a == b
  | .str a, .str b => a == b
  | .list xs, .list ys => dqAll xs ys
  | .tuple xs, .tuple ys => dqAll xs ys
  | .dict es, .dict fs => dqKv es fs
  | _, _ => false
def dqAll : List PyData → List PyData → Bool
  | [], [] => true
  | x :: xs, y :: ys => dq x y && dqAll xs ys
  | _, _ => false
def dqKv : List (PyData × PyData) → List (PyData × PyData) → Bool
  | [], [] => true
  | (_, x) :: es, (_, y) :: fs => dq x y && dqKv es fs
  | _, _ => false
end
mutual
inductive Alike : PyData → PyData → Prop
  | non : Alike .none .none
  | bl (a b : Bool) : Alike (.bool a) (.bool b)
  | int (a b : Int) : Alike (.int a) (.int b)
  | str (a b : Str) : Alike (.str a) (.str b)
  | noneI (b : Int) : Alike .none (.int b)
  | intN (a : Int) : Alike (.int a) .none
  | lst {xs ys : List PyData} : AlikeAll xs ys → Alike (.list xs) (.list ys)
  | tup {xs ys : List PyData} : AlikeAll xs ys → Alike (.tuple xs) (.tuple ys)
  | dct {es fs : List (PyData × PyData)} : AlikeKv es fs → Alike (.dict es) (.dict fs)
inductive AlikeAll : List PyData → List PyData → Prop
  | nilL (ys : List PyData) : AlikeAll [] ys
  | nilR (xs : List PyData) : AlikeAll xs []
  | cons {x y : PyData} {xs ys : List PyData} : Alike x y → AlikeAll xs ys → AlikeAll (x :: xs) (y :: ys)
inductive AlikeKv : List (PyData × PyData) → List (PyData × PyData) → Prop
  | nil : AlikeKv [] []
  | cons {k : Str} {x y : PyData} {es fs : List (PyData × PyData)} : Alike x y → AlikeKv es fs → AlikeKv ((.str k, x) :: es) ((.str k, y) :: fs)
end
theorem dqAll_len : ∀ {xs ys : List PyData}, dqAll xs ys = true → xs.length = ys.length
  | [], [], _ => rfl
  | x :: xs, y :: ys, h => by
    have h : (dq x y && dqAll xs ys) = true := h
    rw [Bool.and_eq_true] at h
    exact congrArg (· + 1) (dqAll_len h.2)
  | [], _ :: _, h => nomatch h
  | _ :: _, [], h => nomatch h
theorem getD_at {α : Type} {xs : List α} {j : Nat} {z : α} (h : j < xs.length) : xs.getD j z = xs[j] := by
  rw [List.getD_eq_getElem?_getD, List.getElem?_eq_getElem h]
  rfl
theorem all_range (f : Nat → Bool) (n : Nat) : (List.range (n + 1)).all f = (f 0 && (List.range n).all fun i => f (i + 1)) := by
  rw [List.range_succ_eq_map, List.all_cons, List.all_map]
  rfl
theorem dqAll_range : ∀ (xs ys : List PyData), ((List.range (min xs.length ys.length)).all (fun j => dq (xs.getD j .none) (ys.getD j .none)) && xs.length == ys.length) = dqAll xs ys
  | [], [] => rfl
  | [], _ :: _ => by
    show (_ && (0 == _ + 1)) = false
    simp
  | _ :: _, [] => by
    show (_ && (_ + 1 == 0)) = false
    simp
  | x :: xs, y :: ys => by
    have ih := dqAll_range xs ys
    show ((List.range (min (xs.length + 1) (ys.length + 1))).all _ && (xs.length + 1 == ys.length + 1)) = (dq x y && dqAll xs ys)
    rw [show min (xs.length + 1) (ys.length + 1) = min xs.length ys.length + 1 by omega, all_range, ← ih, Bool.and_assoc]
    have e : (xs.length + 1 == ys.length + 1) = (xs.length == ys.length) := by
      by_cases h : xs.length = ys.length
      · rw [h]; simp
      · rw [beq_eq_false_iff_ne.mpr h, beq_eq_false_iff_ne.mpr (by omega)]
    rw [e]
    rfl
theorem rel_inj {x y : V} {u : Value} (h : L2.RelV x u) (k : L2.RelV y u) : x = y := by
  cases x <;> cases y <;> simp only [L2.RelV] at h k <;> first
    | rfl
    | (subst h; cases k <;> rfl)
    | (obtain ⟨t, h⟩ := h; obtain ⟨t', k⟩ := k; rw [h] at k; cases k <;> rfl)
    | (obtain ⟨t, h⟩ := h; rw [h] at k; cases k; done)
    | (obtain ⟨t, k⟩ := k; rw [h] at k; cases k; done)
    | (rw [h] at k; cases k; rfl)
    | (rw [h] at k; cases k; done)
theorem vals_inj : ∀ {xs ys : List V} {us : List Value}, Vals xs us → Vals ys us → xs = ys
  | _, _, _, .nil, .nil => rfl
  | _, _, _, .cons a r, .cons b t => by rw [rel_inj a b, vals_inj r t]
theorem kv_inj : ∀ {xs ys : List (Key × V)} {us : List (Key × Value)}, KV xs us → KV ys us → xs = ys
  | _, _, _, .nil, .nil => rfl
  | _, _, _, .cons a r, .cons b t => by
    rw [kv_inj r t, Prod.ext (a.1.trans b.1.symm) (rel_inj a.2 b.2)]
section
variable {X : Cx} {pins : List (Addr × Obj)} {σ : L2.St} {H : Hp} {s : Shared}
theorem seqT_inj {a : Addr} {xs ys : List V} (I : Inv X pins σ H s) (h : SqT X.K H a xs) (k : SqT X.K H a ys) : xs = ys := by
  obtain ⟨i1, r1, ⟨o, ho, _, n, hd⟩, _⟩ := I.tuple h
  obtain ⟨i2, r2, ⟨o', ho', _, n', hd'⟩, _⟩ := I.tuple k
  rw [ho] at ho'
  cases ho'
  rw [hd] at hd'
  injection hd' with e _
  have e : i1 = i2 := congrArg Array.toList e
  rw [← e] at r2
  exact vals_inj r1 r2
theorem seqL_inj {a : Addr} {xs ys : List V} (I : Inv X pins σ H s) (h : SqL X.K H a xs) (k : SqL X.K H a ys) : xs = ys := by
  obtain ⟨i1, r1, ⟨o, n, ho, _, _, hd⟩, _⟩ := I.list h
  obtain ⟨i2, r2, ⟨o', n', ho', _, _, hd'⟩, _⟩ := I.list k
  rw [ho] at ho'
  cases ho'
  rw [hd] at hd'
  injection hd' with e _
  have e : i1 = i2 := congrArg Array.toList e
  rw [← e] at r2
  exact vals_inj r1 r2
theorem seqLT_no {a : Addr} {xs ys : List V} (I : Inv X pins σ H s) (h : SqL X.K H a xs) (k : SqT X.K H a ys) : False := by
  obtain ⟨i1, r1, ⟨o, n, ho, hc, _, hd⟩, _⟩ := I.list h
  obtain ⟨i2, r2, ⟨o', ho', hc', _⟩, _⟩ := I.tuple k
  rw [ho] at ho'
  cases ho'
  rw [hc] at hc'
  injection hc' with e
  exact absurd e (by decide)
theorem seqLD_no {a : Addr} {xs : List V} {kvs : List (Key × V)} (I : Inv X pins σ H s) (h : SqL X.K H a xs) (k : H a = some (.dK kvs)) : False := by
  obtain ⟨i1, r1, ⟨o, n, ho, hc, _, hd⟩, _⟩ := I.list h
  obtain ⟨_, _, _, _, o', _, _, ho', _, hd', _⟩ := I.hok a _ k
  rw [ho] at ho'
  cases ho'
  rw [hd] at hd'
  exact nomatch hd'
theorem seqTD_no {a : Addr} {xs : List V} {kvs : List (Key × V)} (I : Inv X pins σ H s) (h : SqT X.K H a xs) (k : H a = some (.dK kvs)) : False := by
  obtain ⟨i1, r1, ⟨o, ho, hc, _, hd⟩, _⟩ := I.tuple h
  obtain ⟨_, _, _, _, o', _, _, ho', _, hd', _⟩ := I.hok a _ k
  rw [ho] at ho'
  cases ho'
  rw [hd] at hd'
  exact nomatch hd'
mutual
theorem Dr.uniq (I : Inv X pins σ H s) : ∀ (d e : PyData) (v : V), Dr X.K H v d → Dr X.K H v e → d = e
  | .none, _, _, h, k => by cases h; cases k; rfl
  | .bool b, _, _, h, k => by cases h; cases k; rfl
  | .int b, _, _, h, k => by cases h; cases k; rfl
  | .str b, _, _, h, k => by cases h; cases k; rfl
  | .list ds, _, _, h, k => by
    cases h with
    | lst h r =>
      cases k with
      | lst h' r' =>
        rw [seqL_inj I h h'] at r
        rw [DrAll.uniq I ds _ _ r r']
      | tup h' r' => exact (seqLT_no I h h').elim
      | dct h' r' => exact (seqLD_no I h h').elim
  | .tuple ds, _, _, h, k => by
    cases h with
    | tup h r =>
      cases k with
      | tup h' r' =>
        rw [seqT_inj I h h'] at r
        rw [DrAll.uniq I ds _ _ r r']
      | lst h' r' => exact (seqLT_no I h' h).elim
      | dct h' r' => exact (seqTD_no I h h').elim
  | .dict es, _, _, h, k => by
    cases h with
    | dct h r =>
      cases k with
      | dct h' r' =>
        rw [h] at h'
        cases h'
        rw [DrKv.uniq I es _ _ r r']
      | lst h' r' => exact (seqLD_no I h' h).elim
      | tup h' r' => exact (seqTD_no I h' h).elim
theorem DrAll.uniq (I : Inv X pins σ H s) : ∀ (ds es : List PyData) (vs : List V), DrAll X.K H vs ds → DrAll X.K H vs es → ds = es
  | [], _, _, h, k => by cases h; cases k; rfl
  | d :: ds, _, _, h, k => by
    cases h with
    | cons h r =>
      cases k with
      | cons h' r' => rw [Dr.uniq I d _ _ h h', DrAll.uniq I ds _ _ r r']
theorem DrKv.uniq (I : Inv X pins σ H s) : ∀ (ds es : List (PyData × PyData)) (vs : List (Key × V)), DrKv X.K H vs ds → DrKv X.K H vs es → ds = es
  | [], _, _, h, k => by cases h; cases k; rfl
  | (_, d) :: ds, _, _, h, k => by
    cases h with
    | cons h r =>
      cases k with
      | cons h' r' => rw [Dr.uniq I d _ _ h h', DrKv.uniq I ds _ _ r r']
end
mutual
theorem dq_refl : ∀ d : PyData, dq d d = true
  | .none => rfl
  | .bool b => beq_self_eq_true b
  | .int i => beq_self_eq_true i
  | .str z => beq_self_eq_true z
  | .list ds => dqAll_refl ds
  | .tuple ds => dqAll_refl ds
  | .dict es => dqKv_refl es
theorem dqAll_refl : ∀ ds : List PyData, dqAll ds ds = true
  | [] => rfl
  | d :: ds => by
    show (dq d d && dqAll ds ds) = true
    rw [dq_refl d, dqAll_refl ds]
    rfl
theorem dqKv_refl : ∀ es : List (PyData × PyData), dqKv es es = true
  | [] => rfl
  | (_, d) :: es => by
    show (dq d d && dqKv es es) = true
    rw [dq_refl d, dqKv_refl es]
    rfl
end
/-! ### the comparison's tree -/
theorem drAll_get : ∀ {vs : List V} {ds : List PyData}, DrAll X.K H vs ds → ∀ (us : List Value), Vals vs us → ∀ j (h : j < us.length), ∃ (v : V) (hd : j < ds.length), L2.RelV v us[j] ∧ Dr X.K H v ds[j]
  | _, _, .nil, _, .nil, j, h => nomatch h
  | _, _, .cons (ds := ds) h r, _, .cons a b, 0, _ => ⟨_, Nat.succ_pos _, a, h⟩
  | _, _, .cons h r, _, .cons a b, j + 1, hj => by
    obtain ⟨v, hd, q1, q2⟩ := drAll_get r _ b j (Nat.lt_of_succ_lt_succ hj)
    exact ⟨v, Nat.succ_lt_succ hd, q1, q2⟩
theorem drAll_len : ∀ {vs : List V} {ds : List PyData}, DrAll X.K H vs ds → vs.length = ds.length
  | _, _, .nil => rfl
  | _, _, .cons _ r => congrArg (· + 1) (drAll_len r)
theorem alikeAll_get : ∀ {xs ys : List PyData}, AlikeAll xs ys → ∀ j (h : j < xs.length) (k : j < ys.length), Alike xs[j] ys[j]
  | _, _, .nilL _, _, h, _ => nomatch h
  | _, _, .nilR _, _, _, k => nomatch k
  | _, _, .cons a r, 0, _, _ => a
  | _, _, .cons a r, j + 1, h, k => alikeAll_get r j (Nat.lt_of_succ_lt_succ h) (Nat.lt_of_succ_lt_succ k)
theorem depthAll_get : ∀ {xs : List PyData} {n : Nat}, PyData.depthAll xs ≤ n → ∀ j (h : j < xs.length), xs[j].depth ≤ n
  | [], _, _, _, h => nomatch h
  | x :: xs, n, hn, 0, _ => Nat.le_trans (Nat.le_max_left _ _) hn
  | x :: xs, n, hn, j + 1, h => depthAll_get (xs := xs) (Nat.le_trans (Nat.le_max_right _ _) hn) j (Nat.lt_of_succ_lt_succ h)
/-- a tree for each item, a tree for the row -/
def TreeAll (X : Cx) (H : Hp) (s : Shared) (n : Nat) (ds : List PyData) : Prop :=
  ∀ j (h : j < ds.length) (e : PyData) (v y : V) (u w : Value), Alike ds[j] e → Dr X.K H v ds[j] → Dr X.K H y e → L2.RelV v u → L2.RelV y w → PySem.W.EqTree X.prog X.w s n u w (dq ds[j] e)
theorem all_same {α : Type} {f g : α → Bool} : ∀ {l : List α}, (∀ p ∈ l, f p = g p) → l.all f = l.all g
  | [], _ => rfl
  | p :: l, h => by rw [List.all_cons, List.all_cons, h p List.mem_cons_self, all_same fun q hq => h q (List.mem_cons_of_mem _ hq)]
theorem kv_tree {n : Nat} : ∀ {es fs : List (PyData × PyData)}, AlikeKv es fs → ∀ {k1 k2 : List (Key × V)} {a b : List (Key × Value)}, DrKv X.K H k1 es → DrKv X.K H k2 fs → KV k1 a → KV k2 b → (a.map (·.1)).Nodup →
    (∀ (d e : PyData) (v y : V) (u w : Value), (∃ k, (k, d) ∈ es) → Alike d e → Dr X.K H v d → Dr X.K H y e → L2.RelV v u → L2.RelV y w → PySem.W.EqTree X.prog X.w s n u w (dq d e)) →
    a.length = b.length ∧ ∃ f : Key → Bool, (∀ k v y, (k, v) ∈ a → PySem.valueAt b k = some y → PySem.W.EqTree X.prog X.w s n v y (f k)) ∧ (a.all fun p => (PySem.valueAt b p.1).isSome && f p.1) = dqKv es fs := by
  intro es
  induction es with
  | nil =>
    intro fs al k1 k2 a b h1 h2 r1 r2 _ _
    cases al
    cases h1
    cases h2
    cases r1
    cases r2
    exact ⟨rfl, fun _ => true, (fun k v y h => nomatch h), rfl⟩
  | cons p0 es ih =>
    intro fs al k1 k2 a b h1 h2 r1 r2 nd tr
    cases al with
    | @cons k x y _ fs hxy al =>
    cases h1 with
    | cons h1 t1 =>
    cases h2 with
    | cons h2 t2 =>
    cases r1 with
    | @cons _ p _ a' e1 r1 =>
    cases r2 with
    | @cons _ p' _ b' e2 r2 =>
    obtain ⟨pk, pv⟩ := p
    obtain ⟨pk', pv'⟩ := p'
    obtain ⟨q1, q2⟩ := e1
    obtain ⟨q3, q4⟩ := e2
    dsimp only at q1 q2 q3 q4
    subst q1
    subst q3
    rw [List.map_cons, List.nodup_cons] at nd
    obtain ⟨hl, f, hf, hall⟩ := ih al t1 t2 r1 r2 nd.2 fun d e v y u w ⟨k, hk⟩ => tr d e v y u w ⟨k, List.mem_cons_of_mem _ hk⟩
    have at0 : PySem.valueAt ((Sum.inr k, pv') :: b') (Sum.inr k : Key) = some pv' := by simp [PySem.valueAt]
    have at1 : ∀ j : Key, j ≠ Sum.inr k → PySem.valueAt ((Sum.inr k, pv') :: b') j = PySem.valueAt b' j := fun j hj => by
      simp only [PySem.valueAt, List.find?_cons]
      rw [decide_eq_false (fun e => hj e.symm)]
    refine ⟨congrArg (· + 1) hl, fun j => if j = Sum.inr k then dq x y else f j, fun j v z hm hz => ?_, ?_⟩
    · rcases List.mem_cons.mp hm with hm | hm
      · cases hm
        rw [at0] at hz
        cases hz
        show PySem.W.EqTree _ _ _ _ _ _ (if (Sum.inr k : Key) = Sum.inr k then dq x y else f (Sum.inr k))
        rw [if_pos rfl]
        exact tr x y _ _ _ _ ⟨_, List.mem_cons_self⟩ hxy h1 h2 q2 q4
      · have ne : j ≠ Sum.inr k := fun e => nd.1 (List.mem_map.mpr ⟨_, hm, e⟩)
        rw [at1 j ne] at hz
        show PySem.W.EqTree _ _ _ _ _ _ (if j = Sum.inr k then dq x y else f j)
        rw [if_neg ne]
        exact hf j v z hm hz
    · rw [List.all_cons, at0]
      show (true && (if (Sum.inr k : Key) = Sum.inr k then dq x y else f (Sum.inr k)) && _) = (dq x y && dqKv es fs)
      rw [if_pos rfl, Bool.true_and, ← hall]
      congr 1
      refine all_same fun p hp => ?_
      have ne : p.1 ≠ Sum.inr k := fun e => nd.1 (List.mem_map.mpr ⟨_, hp, e⟩)
      rw [at1 _ ne]
      show (_ && (if p.1 = Sum.inr k then dq x y else f p.1)) = _
      rw [if_neg ne]
mutual
theorem Dr.tree (I : Inv X pins σ H s) : ∀ (d e : PyData) (n : Nat) (v y : V) (u w : Value), d.depth ≤ n → Alike d e → Dr X.K H v d → Dr X.K H y e → L2.RelV v u → L2.RelV y w → PySem.W.EqTree X.prog X.w s n u w (dq d e)
  | .none, _, n, _, _, _, _, _, al, h, k, r1, r2 => by
    cases al with
    | non => cases h; cases k; cases r1; cases r2; exact .same
    | noneI b => cases h; cases k; cases r1; obtain ⟨t, rfl⟩ := r2; exact .leaf fun A _ => SeqAt.EqAt.none_int b t
  | .bool b, _, n, _, _, _, _, _, al, h, k, r1, r2 => by
    cases al with
    | bl _ c => cases h; cases k; cases r1; cases r2; exact .leaf fun A _ => SeqAt.EqAt.bool_bool b c
  | .int i, _, n, _, _, _, _, _, al, h, k, r1, r2 => by
    cases al with
    | int _ j => cases h; cases k; obtain ⟨t, rfl⟩ := r1; obtain ⟨t', rfl⟩ := r2; exact .leaf fun A _ => SeqAt.EqAt.int_int i t j t'
    | intN => cases h; cases k; obtain ⟨t, rfl⟩ := r1; cases r2; exact .leaf fun A _ => SeqAt.EqAt.int_none i t
  | .str z, _, n, _, _, _, _, _, al, h, k, r1, r2 => by
    cases al with
    | str _ z' => cases h; cases k; obtain ⟨t, rfl⟩ := r1; obtain ⟨t', rfl⟩ := r2; exact .leaf fun A _ => SeqAt.EqAt.str_str z t z' t'
  | .list ds, e, n, v, y, _, _, hn, al, h, k, r1, r2 => by
    cases n with
    | zero => exact absurd hn (Nat.not_succ_le_zero _)
    | succ n =>
    by_cases ne : v = y
    · subst ne
      have e2 := Dr.uniq I _ _ _ h k
      subst e2
      have : ∀ u w : Value, L2.RelV v u → L2.RelV v w → u = w := fun u w a b => by
        cases h with
        | lst => exact (show u = _ from a).trans (show w = _ from b).symm
      rw [this _ _ r1 r2, dq_refl]
      exact .same
    cases al with
    | @lst _ es al =>
    cases h with
    | @lst a xs _ h q =>
    cases k with
    | @lst b ys _ k q' =>
    cases r1
    cases r2
    obtain ⟨i1, v1, l1, _⟩ := I.list h
    obtain ⟨i2, v2, l2, _⟩ := I.list k
    have e1 : i1.length = ds.length := by rw [← v1.length, drAll_len q]
    have e2 : i2.length = es.length := by rw [← v2.length, drAll_len q']
    have nab : a ≠ b := fun z => ne (by rw [z])
    have L1 : s.heap.IsList a i1.toArray := l1.isList
    have L2 : s.heap.IsList b i2.toArray := l2.isList
    show PySem.W.EqTree _ _ _ _ _ _ (dqAll ds es)
    by_cases hl : ds.length = es.length
    · rw [← dqAll_range, hl, Nat.min_self, beq_self_eq_true, Bool.and_true, ← hl, ← e1]
      refine .lists nab L1 L2 (by show i1.length = i2.length; omega) fun j h1 h2 => ?_
      obtain ⟨p1, d1, a1, b1⟩ := drAll_get q _ v1 j h1
      obtain ⟨p2, d2, a2, b2⟩ := drAll_get q' _ v2 j h2
      rw [getD_at d1, getD_at d2]
      exact DrAll.tree I ds n (Nat.le_of_succ_le_succ hn) j d1 _ _ _ _ _ (alikeAll_get al j d1 d2) b1 b2 a1 a2
    · have : dqAll ds es = false := by
        cases hh : dqAll ds es with
        | false => rfl
        | true => exact absurd (dqAll_len hh) hl
      rw [this]
      exact .listsLen nab L1 L2 (by show (i1.length != i2.length) = true; rw [bne_iff_ne]; omega)
  | .tuple ds, e, n, v, y, _, _, hn, al, h, k, r1, r2 => by
    cases n with
    | zero => exact absurd hn (Nat.not_succ_le_zero _)
    | succ n =>
    by_cases ne : v = y
    · subst ne
      have e2 := Dr.uniq I _ _ _ h k
      subst e2
      have : ∀ u w : Value, L2.RelV v u → L2.RelV v w → u = w := fun u w a b => by
        cases h with
        | tup => exact (show u = _ from a).trans (show w = _ from b).symm
      rw [this _ _ r1 r2, dq_refl]
      exact .same
    cases al with
    | @tup _ es al =>
    cases h with
    | @tup a xs _ h q =>
    cases k with
    | @tup b ys _ k q' =>
    cases r1
    cases r2
    obtain ⟨i1, v1, l1, _⟩ := I.tuple h
    obtain ⟨i2, v2, l2, _⟩ := I.tuple k
    have e1 : i1.length = ds.length := by rw [← v1.length, drAll_len q]
    have e2 : i2.length = es.length := by rw [← v2.length, drAll_len q']
    have nab : a ≠ b := fun z => ne (by rw [z])
    show PySem.W.EqTree _ _ _ _ _ _ (dqAll ds es)
    rw [← dqAll_range, ← e1, ← e2]
    refine .tuples nab l1 l2 fun j h1 h2 => ?_
    obtain ⟨p1, d1, a1, b1⟩ := drAll_get q _ v1 j h1
    obtain ⟨p2, d2, a2, b2⟩ := drAll_get q' _ v2 j h2
    rw [getD_at d1, getD_at d2]
    exact DrAll.tree I ds n (Nat.le_of_succ_le_succ hn) j d1 _ _ _ _ _ (alikeAll_get al j d1 d2) b1 b2 a1 a2
  | .dict es, e, n, v, y, _, _, hn, al, h, k, r1, r2 => by
    cases n with
    | zero => exact absurd hn (Nat.not_succ_le_zero _)
    | succ n =>
    by_cases ne : v = y
    · subst ne
      have e2 := Dr.uniq I _ _ _ h k
      subst e2
      have : ∀ u w : Value, L2.RelV v u → L2.RelV v w → u = w := fun u w a b => by
        cases h with
        | dct => exact (show u = _ from a).trans (show w = _ from b).symm
      rw [this _ _ r1 r2, dq_refl]
      exact .same
    cases al with
    | @dct _ fs al =>
    cases h with
    | @dct a k1 _ h q =>
    cases k with
    | @dct b k2 _ k q' =>
    cases r1
    cases r2
    obtain ⟨_, s1, vs1, kv1, D1⟩ := dk_of I.hok h
    obtain ⟨_, s2, vs2, kv2, D2⟩ := dk_of I.hok k
    have nab : a ≠ b := fun z => ne (by rw [z])
    have nd : (vs1.map (·.1)).Nodup := by
      obtain ⟨_, _, _, _, _, _, _, _, nd⟩ := D1
      exact nd
    obtain ⟨hl, f, hf, hall⟩ := kv_tree (X := X) (H := H) (s := s) (n := n) al q q' kv1 kv2 nd (DrKv.tree I es n (Nat.le_of_succ_le_succ hn))
    show PySem.W.EqTree _ _ _ _ _ _ (dqKv es fs)
    have e := PySem.W.EqTree.dicts (n := n) nab s1 s2 D1 D2 hf
    rw [hl, beq_self_eq_true, Bool.true_and, hall] at e
    exact e
theorem DrAll.tree (I : Inv X pins σ H s) : ∀ (ds : List PyData) (n : Nat), PyData.depthAll ds ≤ n → TreeAll X H s n ds
  | [], _, _ => fun j h => nomatch h
  | d :: ds, n, hn => fun j h e v y u w al h1 h2 r1 r2 => by
    cases j with
    | zero => exact Dr.tree I d e n v y u w (Nat.le_trans (Nat.le_max_left _ _) hn) al h1 h2 r1 r2
    | succ j => exact DrAll.tree I ds n (Nat.le_trans (Nat.le_max_right _ _) hn) j (Nat.lt_of_succ_lt_succ h) e v y u w al h1 h2 r1 r2
theorem DrKv.tree (I : Inv X pins σ H s) : ∀ (es : List (PyData × PyData)) (n : Nat), PyData.depthKv es ≤ n → ∀ (d e : PyData) (v y : V) (u w : Value), (∃ k, (k, d) ∈ es) → Alike d e → Dr X.K H v d → Dr X.K H y e → L2.RelV v u → L2.RelV y w → PySem.W.EqTree X.prog X.w s n u w (dq d e)
  | [], _, _, _, _, _, _, _, _, ⟨_, h⟩, _, _, _, _, _ => nomatch h
  | (k, d) :: es, n, hn, d', e, v, y, u, w, h, al, h1, h2, r1, r2 => by
    have hn : max (max k.depth d.depth) (PyData.depthKv es) ≤ n := hn
    by_cases z : d' = d
    · subst z
      exact Dr.tree I d' e n v y u w (by omega) al h1 h2 r1 r2
    · refine DrKv.tree I es n (by omega) d' e v y u w ?_ al h1 h2 r1 r2
      obtain ⟨k', hk⟩ := h
      rcases List.mem_cons.mp hk with hk | hk
      · exact absurd (congrArg Prod.snd hk) z
      · exact ⟨k', hk⟩
end
end
/-! ### d == e, two dicts -/
def rEqK (K : PySem.W.Frag) : R2 := fun x y H Q => ∃ es fs, Dr K H x (.dict es) ∧ Dr K H y (.dict fs) ∧ AlikeKv es fs ∧ PyData.depthKv es ≤ 60 ∧ Q (.bl (dqKv es fs)) H
theorem op_eqK {X : Cx} (hu : X.A.units + 64 < cLine) : OpR X (compareOp .Eq) (rEqK X.K) := by
  intro pins s σ H x y u w Q I r1 r2 h
  obtain ⟨es, fs, h1, h2, al, hd, q⟩ := h
  cases h1 with
  | @dct a k1 _ h q1 =>
  cases h2 with
  | @dct b k2 _ k q2 =>
  cases r1
  cases r2
  obtain ⟨_, s1, vs1, kv1, D1⟩ := dk_of I.hok h
  obtain ⟨_, s2, vs2, kv2, D2⟩ := dk_of I.hok k
  have nd : (vs1.map (·.1)).Nodup := by
    obtain ⟨_, _, _, _, _, _, _, _, nd⟩ := D1
    exact nd
  obtain ⟨hl, f, hf, hall⟩ := kv_tree (X := X) (H := H) (s := s) (n := 60) al q1 q2 kv1 kv2 nd (DrKv.tree I es 60 hd)
  refine PySem.W.eq_dictsT (n := 60) s1 s2 D1 D2 hf (by omega) ?_
  rw [hl, beq_self_eq_true, Bool.true_and, hall]
  exact ⟨.bl _, H, I, rfl, q⟩
end Da

set_option linter.all false
/-! turns of points, as lists: put together, undone, and how often they lead all points back -/
namespace Pm
variable {n p q : Nat} {t u v : List Nat}
/-- where a turn leads a point -/
def to (t : List Nat) (p : Nat) : Nat := t.getD p 0
def Turn (n : Nat) (t : List Nat) : Prop := t.Perm (List.range n)
theorem to_get (h : p < t.length) : to t p = t[p] := by
  unfold to
  rw [List.getD_eq_getElem?_getD, List.getElem?_eq_getElem h]
  rfl
theorem Turn.len (h : Turn n t) : t.length = n := by
  have := h.length_eq
  rw [List.length_range] at this
  exact this
theorem Turn.mem (h : Turn n t) : p ∈ t ↔ p < n := h.mem_iff.trans List.mem_range
theorem Turn.nodup (h : Turn n t) : t.Nodup := h.nodup_iff.mpr List.nodup_range
theorem Turn.lt (h : Turn n t) (hp : p < n) : to t p < n := by
  have hp' : p < t.length := by rw [h.len]; exact hp
  rw [to_get hp']
  exact h.mem.mp (List.getElem_mem hp')
def joint (t u : List Nat) : List Nat := t.map (to u)
theorem range_map (h : u.length = n) : (List.range n).map (to u) = u := by
  apply List.ext_getElem
  · rw [List.length_map, List.length_range, h]
  · intro i h1 h2
    rw [List.getElem_map, List.getElem_range, to_get h2]
theorem turn_joint (h : Turn n t) (k : Turn n u) : Turn n (joint t u) := by
  have := h.map (to u)
  rw [range_map k.len] at this
  exact this.trans k
theorem joint_len : (joint t u).length = t.length := List.length_map ..
theorem to_joint (hp : p < t.length) : to (joint t u) p = to u (to t p) := by
  rw [to_get (by rw [joint_len]; exact hp), to_get hp]
  exact List.getElem_map ..
theorem joint_assoc (h : Turn n t) (k : Turn n u) : joint (joint t u) v = joint t (joint u v) := by
  unfold joint
  rw [List.map_map]
  refine List.map_congr_left fun x hx => ?_
  exact (to_joint (t := u) (u := v) (by rw [k.len]; exact h.mem.mp hx)).symm
theorem to_still (hp : p < n) : to (List.range n) p = p := by
  rw [to_get (by rw [List.length_range]; exact hp), List.getElem_range]
theorem joint_still (h : Turn n t) : joint t (List.range n) = t := by
  unfold joint
  have : t.map (to (List.range n)) = t.map id := List.map_congr_left fun x hx => to_still (h.mem.mp hx)
  rw [this, List.map_id]
theorem still_joint (h : Turn n t) : joint (List.range n) t = t := range_map h.len
theorem still_turn : Turn n (List.range n) := List.Perm.refl _
/-- two turns are the same if they lead all points so -/
theorem turn_ext (h : Turn n t) (k : Turn n u) (e : ∀ p, p < n → to t p = to u p) : t = u := by
  rw [← range_map h.len, ← range_map k.len]
  exact List.map_congr_left fun x hx => e x (List.mem_range.mp hx)
theorem nodup_inj {l : List Nat} (h : l.Nodup) {i j : Nat} (hi : i < l.length) (hj : j < l.length) (e : l[i] = l[j]) : i = j := by
  rcases Nat.lt_trichotomy i j with c | c | c
  · exact absurd e (List.pairwise_iff_getElem.mp h i j hi hj c)
  · exact c
  · exact absurd e.symm (List.pairwise_iff_getElem.mp h j i hj hi c)
def undone (t : List Nat) : List Nat := (List.range t.length).map fun q => t.idxOf q
theorem to_idx (h : Turn n t) (hq : q < n) : to t (t.idxOf q) = q := by
  have hm := h.mem.mpr hq
  rw [to_get (List.idxOf_lt_length_of_mem hm)]
  exact List.getElem_idxOf _
theorem idx_to (h : Turn n t) (hp : p < n) : t.idxOf (to t p) = p := by
  have hp' : p < t.length := by rw [h.len]; exact hp
  have hm : to t p ∈ t := h.mem.mpr (h.lt hp)
  have hl := List.idxOf_lt_length_of_mem hm
  have e : t[t.idxOf (to t p)] = t[p] := by
    rw [List.getElem_idxOf]
    exact to_get hp'
  exact nodup_inj h.nodup hl hp' e
theorem undone_len : (undone t).length = t.length := by
  unfold undone
  rw [List.length_map, List.length_range]
theorem to_undone (h : Turn n t) (hq : q < n) : to (undone t) q = t.idxOf q := by
  have hq' : q < t.length := by rw [h.len]; exact hq
  rw [to_get (by rw [undone_len]; exact hq')]
  unfold undone
  rw [List.getElem_map, List.getElem_range]
theorem turn_undone (h : Turn n t) : Turn n (undone t) := by
  have h1 : undone t = (List.range n).map fun q => t.idxOf q := by unfold undone; rw [h.len]
  have h2 : t.map (fun q => t.idxOf q) = List.range n := by
    apply List.ext_getElem
    · rw [List.length_map, h.len, List.length_range]
    · intro i h3 h4
      rw [List.length_range] at h4
      rw [List.getElem_map, List.getElem_range]
      have := idx_to h h4
      rw [to_get (by rw [h.len]; exact h4)] at this
      exact this
  have h3 := (h.symm).map fun q => t.idxOf q
  rw [h2] at h3
  rw [h1]
  exact h3
theorem joint_undone (h : Turn n t) : joint t (undone t) = List.range n :=
  turn_ext (turn_joint h (turn_undone h)) still_turn fun p hp => by
    rw [to_joint (by rw [h.len]; exact hp), to_undone h (h.lt hp), idx_to h hp, to_still hp]
theorem undone_joint (h : Turn n t) : joint (undone t) t = List.range n :=
  turn_ext (turn_joint (turn_undone h) h) still_turn fun p hp => by
    rw [to_joint (by rw [(turn_undone h).len]; exact hp), to_undone h hp, to_idx h hp, to_still hp]
theorem undone_undone (h : Turn n t) : undone (undone t) = t := by
  have k := turn_undone h
  have e : joint (joint (undone (undone t)) (undone t)) t = joint (undone (undone t)) (joint (undone t) t) := joint_assoc (turn_undone k) k
  rw [undone_joint k, undone_joint h, still_joint h, joint_still (turn_undone k)] at e
  exact e.symm
theorem undone_of_joint (h : Turn n t) (k : Turn n u) : undone (joint t u) = joint (undone u) (undone t) := by
  have hj := turn_joint h k
  have hu := turn_undone hj
  refine turn_ext hu (turn_joint (turn_undone k) (turn_undone h)) fun p hp => ?_
  rw [to_undone hj hp, to_joint (by rw [(turn_undone k).len]; exact hp), to_undone k hp]
  have hp1 : u.idxOf p < n := by
    have := List.idxOf_lt_length_of_mem (k.mem.mpr hp)
    rw [k.len] at this
    exact this
  rw [to_undone h hp1]
  have hp2 : t.idxOf (u.idxOf p) < n := by
    have := List.idxOf_lt_length_of_mem (h.mem.mpr hp1)
    rw [h.len] at this
    exact this
  have e : to (joint t u) (t.idxOf (u.idxOf p)) = p := by rw [to_joint (by rw [h.len]; exact hp2), to_idx h hp1, to_idx k hp]
  have := idx_to hj hp2
  rw [e] at this
  exact this
theorem to_inj (h : Turn n t) (hp : p < n) (hq : q < n) (e : to t p = to t q) : p = q := by
  rw [← idx_to h hp, e, idx_to h hq]
/-! again and again -/
def it (t : List Nat) : Nat → Nat → Nat
  | 0, p => p
  | k + 1, p => to t (it t k p)
theorem it_lt (h : Turn n t) (hp : p < n) : ∀ k, it t k p < n
  | 0 => hp
  | k + 1 => h.lt (it_lt h hp k)
theorem it_add (t : List Nat) (a : Nat) (p : Nat) : ∀ b, it t (b + a) p = it t b (it t a p)
  | 0 => by rw [Nat.zero_add]; rfl
  | b + 1 => by
    rw [show b + 1 + a = (b + a) + 1 by omega]
    show to t (it t (b + a) p) = to t (it t b (it t a p))
    rw [it_add t a p b]
theorem it_comm (t : List Nat) (a b p : Nat) : it t a (it t b p) = it t b (it t a p) := by rw [← it_add, ← it_add, Nat.add_comm]
theorem it_mul {m : Nat} (e : it t m p = p) : ∀ c, it t (m * c) p = p
  | 0 => rfl
  | c + 1 => by
    rw [Nat.mul_succ, it_add, e]
    exact it_mul e c
theorem it_inj (h : Turn n t) (hp : p < n) (hq : q < n) : ∀ k, it t k p = it t k q → p = q
  | 0, e => e
  | k + 1, e => it_inj h hp hq k (to_inj h (it_lt h hp k) (it_lt h hq k) e)
/-- if no earlier one comes back, then all that come back are multiples -/
theorem it_dvd {m : Nat} (h : Turn n t) (hp : p < n) (hm : 0 < m) (e : it t m p = p) (hl : ∀ k, 0 < k → k < m → it t k p ≠ p) (k : Nat) : it t k p = p ↔ m ∣ k := by
  constructor
  · intro hk
    have e2 : it t (k % m) p = p := by
      have := Nat.div_add_mod k m
      have e3 : it t (k % m + m * (k / m)) p = p := by rw [Nat.add_comm, this]; exact hk
      rw [it_add, it_mul e] at e3
      exact e3
    by_cases h0 : k % m = 0
    · exact Nat.dvd_of_mod_eq_zero h0
    · exact absurd e2 (hl _ (Nat.pos_of_ne_zero h0) (Nat.mod_lt _ hm))
  · rintro ⟨c, rfl⟩
    exact it_mul e c
/-- the order: just the multiples lead all points back -/
def Ord (n : Nat) (t : List Nat) (L : Nat) : Prop := 0 < L ∧ ∀ k, (∀ p, p < n → it t k p = p) ↔ L ∣ k
theorem ord_uniq {L M : Nat} (a : Ord n t L) (b : Ord n t M) : L = M :=
  Nat.dvd_antisymm ((a.2 M).mp ((b.2 M).mpr (Nat.dvd_refl M))) ((b.2 L).mp ((a.2 L).mpr (Nat.dvd_refl L)))
theorem ord_undone {L : Nat} (h : Turn n t) (a : Ord n t L) : Ord n (undone t) L := by
  refine ⟨a.1, fun k => Iff.trans ?_ (a.2 k)⟩
  have b1 : ∀ k p, p < n → it t k (it (undone t) k p) = p := by
    intro k
    induction k with
    | zero => intro p hp; rfl
    | succ k ih =>
      intro p hp
      have hq := it_lt (turn_undone h) hp k
      have e : it t (k + 1) (to (undone t) (it (undone t) k p)) = it t k (to t (to (undone t) (it (undone t) k p))) := it_add t 1 _ k
      show it t (k + 1) (to (undone t) (it (undone t) k p)) = p
      rw [e, to_undone h hq, to_idx h hq]
      exact ih p hp
  constructor
  · intro hk p hp
    have := b1 k p hp
    rw [hk p hp] at this
    exact this
  · intro hk p hp
    have := b1 k p hp
    rw [hk _ (it_lt (turn_undone h) hp k)] at this
    exact this
theorem ord_conj {L : Nat} {c d s : List Nat} (hc : Turn n c) (hd : Turn n d) (hs : Turn n s) (e : ∀ p, p < n → to d (to s p) = to s (to c p)) (a : Ord n c L) : Ord n d L := by
  refine ⟨a.1, fun k => Iff.trans ?_ (a.2 k)⟩
  have b1 : ∀ k p, p < n → it d k (to s p) = to s (it c k p) := by
    intro k
    induction k with
    | zero => intro p hp; rfl
    | succ k ih =>
      intro p hp
      show to d (it d k (to s p)) = to s (to c (it c k p))
      rw [ih p hp, e _ (it_lt hc hp k)]
  constructor
  · intro hk p hp
    have := b1 k p hp
    rw [hk _ (hs.lt hp)] at this
    exact (to_inj hs hp (it_lt hc hp k) this).symm
  · intro hk q hq
    have := b1 k (s.idxOf q) (by
      have := List.idxOf_lt_length_of_mem (hs.mem.mpr hq)
      rw [hs.len] at this
      exact this)
    rw [to_idx hs hq, hk _ (by
      have := List.idxOf_lt_length_of_mem (hs.mem.mpr hq)
      rw [hs.len] at this
      exact this), to_idx hs hq] at this
    exact this
theorem ord_one {L : Nat} (h : Turn n t) (a : Ord n t L) : L = 1 ↔ t = List.range n := by
  have e := a.2 1
  constructor
  · intro hl
    refine turn_ext h still_turn fun p hp => ?_
    rw [to_still hp]
    exact e.mpr (by rw [hl]; exact Nat.dvd_refl 1) p hp
  · intro ht
    exact Nat.dvd_one.mp (e.mp fun p hp => by
      show to t p = p
      rw [ht]
      exact to_still hp)
/-- so many of a turn -/
def pw (t : List Nat) : Nat → List Nat
  | 0 => t
  | k + 1 => joint (pw t k) t
theorem turn_pw (h : Turn n t) : ∀ k, Turn n (pw t k)
  | 0 => h
  | k + 1 => turn_joint (turn_pw h k) h
theorem to_pw (h : Turn n t) (hp : p < n) : ∀ k, to (pw t k) p = it t (k + 1) p
  | 0 => rfl
  | k + 1 => by
    show to (joint (pw t k) t) p = to t (it t (k + 1) p)
    rw [to_joint (by rw [(turn_pw h k).len]; exact hp), to_pw h hp k]
theorem pw_still {L k : Nat} (h : Turn n t) (a : Ord n t L) : pw t k = List.range n ↔ L ∣ k + 1 := by
  rw [← a.2 (k + 1)]
  constructor
  · intro e p hp
    rw [← to_pw h hp, e, to_still hp]
  · intro e
    exact turn_ext (turn_pw h k) still_turn fun p hp => by rw [to_pw h hp, e p hp, to_still hp]
end Pm

set_option linter.all false
/-! the rows of points that a turn leads round -/
namespace Pm
variable {n : Nat} {t : List Nat}
theorem len_le : ∀ {l r : List Nat}, l.Nodup → (∀ x ∈ l, x ∈ r) → l.length ≤ r.length
  | [], _, _, _ => Nat.zero_le _
  | a :: l, r, hn, hs => by
    have ha := hs a List.mem_cons_self
    have hn' := List.nodup_cons.mp hn
    have := len_le (l := l) (r := r.erase a) hn'.2 fun x hx => by
      have hne : x ≠ a := fun e => hn'.1 (e ▸ hx)
      exact (List.mem_erase_of_ne hne).mpr (hs x (List.mem_cons_of_mem _ hx))
    have h1 := List.length_erase_of_mem ha
    have h2 := List.length_pos_of_mem ha
    rw [List.length_cons]
    omega
theorem small_len {l : List Nat} (h : l.Nodup) (hl : ∀ x ∈ l, x < n) : l.length ≤ n := by
  have := len_le (r := List.range n) h fun x hx => List.mem_range.mpr (hl x hx)
  rw [List.length_range] at this
  exact this
/-- what is known ahead of the start i -/
structure Out (n : Nat) (t : List Nat) (i : Nat) (S M : List Nat) : Prop where
  nd : S.Nodup
  lt : ∀ p ∈ S, p < n
  cl : ∀ p, p < n → (p ∈ S ↔ to t p ∈ S)
  all : ∀ p, p < i → p ∈ S
  per : ∀ k, (∀ p ∈ S, it t k p = p) ↔ ∀ m ∈ M, m ∣ k
  sz : ∀ m ∈ M, 1 ≤ m ∧ m ≤ n
  ln : M.length ≤ i
def walk (t : List Nat) (s j : Nat) : List Nat := (List.range j).map fun k => it t k s
theorem walk_succ (t : List Nat) (s j : Nat) : walk t s (j + 1) = walk t s j ++ [it t j s] := by
  unfold walk
  rw [List.range_succ, List.map_append]
  rfl
theorem mem_walk {s j x : Nat} : x ∈ walk t s j ↔ ∃ k, k < j ∧ it t k s = x := by
  unfold walk
  rw [List.mem_map]
  constructor
  · rintro ⟨k, hk, e⟩
    exact ⟨k, List.mem_range.mp hk, e⟩
  · rintro ⟨k, hk, e⟩
    exact ⟨k, List.mem_range.mpr hk, e⟩
theorem walk_len (t : List Nat) (s j : Nat) : (walk t s j).length = j := by
  unfold walk
  rw [List.length_map, List.length_range]
/-- what is known on the way from the start s -/
structure In (S : List Nat) (t : List Nat) (s j : Nat) : Prop where
  nd : (walk t s j).Nodup
  off : ∀ x ∈ walk t s j, x ∉ S
theorem in_zero (S : List Nat) (t : List Nat) (s : Nat) : In S t s 0 := ⟨List.nodup_nil, fun x hx => by cases hx⟩
theorem in_succ {S : List Nat} {s j : Nat} (h : In S t s j) (hp : it t j s ∉ S ++ walk t s j) : In S t s (j + 1) := by
  rw [List.mem_append, not_or] at hp
  constructor
  · rw [walk_succ]
    refine List.nodup_append.mpr ⟨h.nd, by simp, fun x hx y hy e => ?_⟩
    rw [List.mem_singleton.mp hy] at e
    exact hp.2 (e ▸ hx)
  · intro x hx
    rw [walk_succ] at hx
    rcases List.mem_append.mp hx with hx | hx
    · exact h.off x hx
    · rw [List.mem_singleton.mp hx]
      exact hp.1
theorem in_le {S : List Nat} {s j : Nat} (ht : Turn n t) (hs : s < n) (h : In S t s j) : j ≤ n := by
  have := small_len (n := n) h.nd fun x hx => by
    obtain ⟨k, _, e⟩ := mem_walk.mp hx
    rw [← e]
    exact it_lt ht hs k
  rw [walk_len] at this
  exact this
theorem out_zero : Out n t 0 [] [] := ⟨List.nodup_nil, (fun p hp => (by cases hp)), (fun p _ => ⟨(fun h => (by cases h)), (fun h => (by cases h))⟩), (fun p hp => absurd hp (Nat.not_lt_zero p)), (fun k => ⟨(fun _ m hm => (by cases hm)), (fun _ p hp => (by cases hp))⟩), (fun m hm => (by cases hm)), Nat.le_refl 0⟩
theorem out_same {i : Nat} {S M : List Nat} (h : Out n t i S M) (hi : i ∈ S) : Out n t (i + 1) S M :=
  ⟨h.nd, h.lt, h.cl, fun p hp => by
    rcases Nat.lt_succ_iff_lt_or_eq.mp hp with c | c
    · exact h.all p c
    · rw [c]; exact hi, h.per, h.sz, by have := h.ln; omega⟩
theorem it_mem {i : Nat} {S M : List Nat} (ht : Turn n t) (h : Out n t i S M) {s : Nat} (hs : s < n) : ∀ k, it t k s ∈ S → s ∈ S
  | 0, e => e
  | k + 1, e => it_mem ht h hs k ((h.cl _ (it_lt ht hs k)).mpr e)
theorem it_back {s j : Nat} {S M : List Nat} {i : Nat} (ht : Turn n t) (h : Out n t i S M) (hs : s < n) (hI : In S t s (j + 1)) (hp : it t (j + 1) s ∈ S ++ walk t s (j + 1)) : it t (j + 1) s = s := by
  have h0 : s ∉ S := hI.off s (mem_walk.mpr ⟨0, Nat.succ_pos j, rfl⟩)
  rcases List.mem_append.mp hp with hp | hp
  · exact absurd (it_mem ht h hs _ hp) h0
  · obtain ⟨k, hk, e⟩ := mem_walk.mp hp
    cases k with
    | zero => exact e.symm
    | succ k =>
      have e2 : it t k s = it t j s := to_inj ht (it_lt ht hs k) (it_lt ht hs j) e
      have hl : (walk t s (j + 1)).length = j + 1 := walk_len ..
      have e3 : (walk t s (j + 1))[k]'(by omega) = (walk t s (j + 1))[j]'(by omega) := by
        unfold walk
        rw [List.getElem_map, List.getElem_map, List.getElem_range, List.getElem_range]
        exact e2
      have := nodup_inj hI.nd _ _ e3
      omega
theorem out_succ {j i : Nat} {S M : List Nat} (ht : Turn n t) (h : Out n t i S M) (hs : i < n) (hI : In S t i (j + 1)) (hp : it t (j + 1) i ∈ S ++ walk t i (j + 1)) : Out n t (i + 1) (S ++ walk t i (j + 1)) (M ++ [j + 1]) := by
  have hb := it_back ht h hs hI hp
  have hne : ∀ k, 0 < k → k < j + 1 → it t k i ≠ i := by
    intro k h0 hk e
    have hl : (walk t i (j + 1)).length = j + 1 := walk_len ..
    have e3 : (walk t i (j + 1))[k]'(by omega) = (walk t i (j + 1))[0]'(by omega) := by
      unfold walk
      rw [List.getElem_map, List.getElem_map, List.getElem_range, List.getElem_range]
      exact e
    have := nodup_inj hI.nd _ _ e3
    omega
  refine ⟨?_, ?_, ?_, ?_, ?_, ?_, ?_⟩
  · refine List.nodup_append.mpr ⟨h.nd, hI.nd, fun x hx y hy e => ?_⟩
    exact hI.off y hy (e ▸ hx)
  · intro p hp'
    rcases List.mem_append.mp hp' with c | c
    · exact h.lt p c
    · obtain ⟨k, _, e⟩ := mem_walk.mp c
      rw [← e]
      exact it_lt ht hs k
  · intro p hpn
    rw [List.mem_append, List.mem_append]
    constructor
    · rintro (c | c)
      · exact .inl ((h.cl p hpn).mp c)
      · obtain ⟨k, hk, e⟩ := mem_walk.mp c
        refine .inr (mem_walk.mpr ?_)
        by_cases hk2 : k + 1 < j + 1
        · exact ⟨k + 1, hk2, by show to t (it t k i) = to t p; rw [e]⟩
        · have : k = j := by omega
          subst this
          exact ⟨0, by omega, by
            show i = to t p
            rw [← e]
            exact hb.symm⟩
    · rintro (c | c)
      · exact .inl ((h.cl p hpn).mpr c)
      · obtain ⟨k, hk, e⟩ := mem_walk.mp c
        refine .inr (mem_walk.mpr ?_)
        cases k with
        | zero =>
          refine ⟨j, Nat.lt_succ_self j, to_inj ht (it_lt ht hs j) hpn ?_⟩
          exact hb.trans e
        | succ k => exact ⟨k, by omega, to_inj ht (it_lt ht hs k) hpn e⟩
  · intro p hp'
    rcases Nat.lt_succ_iff_lt_or_eq.mp hp' with c | c
    · exact List.mem_append_left _ (h.all p c)
    · rw [c]
      exact List.mem_append_right _ (mem_walk.mpr ⟨0, Nat.succ_pos j, rfl⟩)
  · intro k
    have e1 : (∀ p ∈ walk t i (j + 1), it t k p = p) ↔ (j + 1) ∣ k := by
      rw [← it_dvd ht hs (Nat.succ_pos j) hb hne k]
      constructor
      · intro a
        exact a i (mem_walk.mpr ⟨0, Nat.succ_pos j, rfl⟩)
      · intro a p hp'
        obtain ⟨m, _, e⟩ := mem_walk.mp hp'
        rw [← e, it_comm, a]
    constructor
    · intro a m hm
      rcases List.mem_append.mp hm with c | c
      · exact (h.per k).mp (fun p hp' => a p (List.mem_append_left _ hp')) m c
      · rw [List.mem_singleton.mp c]
        exact e1.mp fun p hp' => a p (List.mem_append_right _ hp')
    · intro a p hp'
      rcases List.mem_append.mp hp' with c | c
      · exact (h.per k).mpr (fun m hm => a m (List.mem_append_left _ hm)) p c
      · exact e1.mpr (a _ (List.mem_append_right _ (List.mem_singleton.mpr rfl))) p c
  · intro m hm
    rcases List.mem_append.mp hm with c | c
    · exact h.sz m c
    · rw [List.mem_singleton.mp c]
      exact ⟨by omega, in_le ht hs hI⟩
  · have := h.ln
    rw [List.length_append, List.length_singleton]
    omega
/-- what the lengths tell -/
structure Lens (n : Nat) (t : List Nat) (M : List Nat) : Prop where
  per : ∀ k, (∀ p, p < n → it t k p = p) ↔ ∀ m ∈ M, m ∣ k
  sz : ∀ m ∈ M, 1 ≤ m ∧ m ≤ n
  ln : M.length ≤ n
theorem out_end {S M : List Nat} (h : Out n t n S M) : Lens n t M :=
  ⟨fun k => Iff.trans ⟨fun a p hp => a p (h.lt p hp), fun a p hp => a p (h.all p hp)⟩ (h.per k), h.sz, h.ln⟩
def lcmOf (M : List Nat) : Nat := M.foldl (fun a m => Nat.lcm a m) 1
theorem lcm_dvd (k : Nat) : ∀ (M : List Nat) (a : Nat), M.foldl (fun a m => Nat.lcm a m) a ∣ k ↔ a ∣ k ∧ ∀ m ∈ M, m ∣ k
  | [], a => by simp
  | m :: M, a => by
    show M.foldl (fun a m => Nat.lcm a m) (Nat.lcm a m) ∣ k ↔ _
    rw [lcm_dvd k M, Nat.lcm_dvd_iff]
    constructor
    · rintro ⟨⟨h1, h2⟩, h3⟩
      refine ⟨h1, fun x hx => ?_⟩
      rcases List.mem_cons.mp hx with rfl | hx
      · exact h2
      · exact h3 x hx
    · rintro ⟨h1, h2⟩
      exact ⟨⟨h1, h2 m List.mem_cons_self⟩, fun x hx => h2 x (List.mem_cons_of_mem _ hx)⟩
theorem lcm_take {M : List Nat} {i m : Nat} (h : M[i]? = some m) : lcmOf (M.take (i + 1)) = Nat.lcm (lcmOf (M.take i)) m := by
  unfold lcmOf
  rw [List.take_add_one, h, List.foldl_append]
  rfl
theorem lcm_pos : ∀ (M : List Nat), (∀ m ∈ M, 1 ≤ m) → ∀ a, 0 < a → 0 < M.foldl (fun a m => Nat.lcm a m) a
  | [], _, a, h => h
  | m :: M, hM, a, h => lcm_pos M (fun x hx => hM x (List.mem_cons_of_mem _ hx)) _ (Nat.lcm_pos h (hM m List.mem_cons_self))
theorem lcm_bound {b : Nat} (hb : 1 ≤ b) : ∀ (M : List Nat), (∀ m ∈ M, m ≤ b) → ∀ a, M.foldl (fun a m => Nat.lcm a m) a ≤ a * b ^ M.length
  | [], _, a => by simp
  | m :: M, hM, a => by
    have h1 := lcm_bound hb M (fun x hx => hM x (List.mem_cons_of_mem _ hx)) (Nat.lcm a m)
    have h2 : Nat.lcm a m ≤ a * m := by
      unfold Nat.lcm
      exact Nat.div_le_self _ _
    have h3 : a * m ≤ a * b := Nat.mul_le_mul_left _ (hM m List.mem_cons_self)
    show M.foldl (fun a m => Nat.lcm a m) (Nat.lcm a m) ≤ a * b ^ (M.length + 1)
    refine Nat.le_trans h1 (Nat.le_trans (Nat.mul_le_mul_right _ (Nat.le_trans h2 h3)) ?_)
    rw [Nat.pow_succ, Nat.mul_assoc, Nat.mul_comm b]
    exact Nat.le_refl _
theorem ord_lcm {M : List Nat} (h : Lens n t M) : Ord n t (lcmOf M) :=
  ⟨lcm_pos M (fun m hm => (h.sz m hm).1) 1 Nat.one_pos, fun k => by
    rw [h.per k]
    unfold lcmOf
    rw [lcm_dvd k M 1]
    exact ⟨fun a => ⟨Nat.one_dvd k, a⟩, fun a => a.2⟩⟩
end Pm

set_option Elab.async false
set_option linter.all false
set_option maxRecDepth 100000
set_option maxHeartbeats 3200000
namespace K16
open PySem L2 Tx Tg Tm Da
def top (i : Nat) : Stmt := PySem.Challenge.pw_whatcounts_k17_whole_weights_of_tallies.main.body.getD i (.Pass ⟨0, 0, 0, 0⟩)
abbrev sRest : Stmt := top 2
abbrev sInt : Stmt := top 18
abbrev sLetters : Stmt := top 19
abbrev sText : Stmt := top 20
abbrev sPrimeQ : Stmt := top 21
abbrev sCheck : Stmt := top 22
abbrev sHas : Stmt := top 23
abbrev sCText : Stmt := top 25
abbrev sCInt : Stmt := top 26
abbrev sCPrime : Stmt := top 27
abbrev sCSome : Stmt := top 28
abbrev sCMost : Stmt := top 29
abbrev sMadeC : Stmt := top 31
abbrev sDot : Stmt := top 33
abbrev sRestRow : Stmt := top 34
abbrev sRestSq : Stmt := top 35
abbrev sTurned : Stmt := top 36
abbrev sScaled : Stmt := top 37
abbrev sPairedR : Stmt := top 38
abbrev sPairedS : Stmt := top 39
abbrev sJoined : Stmt := top 40
abbrev sRaisedSq : Stmt := top 41
abbrev sBehindR : Stmt := top 42
abbrev sAheadC : Stmt := top 43
abbrev sCTally : Stmt := top 46
abbrev sIsRow : Stmt := top 47
abbrev sIsSq : Stmt := top 48
abbrev sAreMoves : Stmt := top 49
abbrev sCheckParts : Stmt := top 50
abbrev sTally : Stmt := top 51
abbrev sWeighed : Stmt := top 52
abbrev sSummed : Stmt := top 53
abbrev sRaised : Stmt := top 54
abbrev sCup : Stmt := top 56
abbrev sBit : Stmt := top 57
abbrev sPick : Stmt := top 58
abbrev sSigns : Stmt := top 59
abbrev sKind : Stmt := top 60
abbrev sLRest : Stmt := top 61
abbrev sLine : Stmt := top 62
abbrev sSpread : Stmt := top 63
abbrev sFew : Stmt := top 64
abbrev sBare : Stmt := top 65
abbrev sMadeT : Stmt := top 66
abbrev sPicks : Stmt := top 67
abbrev sWeightOf : Stmt := top 68
abbrev sNumOf : Stmt := top 69
abbrev sSumOf : Stmt := top 70
abbrev sRight : Stmt := top 71
abbrev sLaw : Stmt := top 72
/-! ### values -/
inductive Val (H : Hp) : V → PyData → Prop
  | non : Val H .non .none
  | bl (b : Bool) : Val H (.bl b) (.bool b)
  | int (n : Int) : Val H (.int n) (.int n)
  | str (z : Str) : Val H (.str z) (.str z)
  | lst {a : Addr} (l : List Str) (h : H a = some (.lst (l.map V.str))) : Val H (.ref a) (.list (l.map PyData.str))
  | tup {a : Addr} (l : List Str) (h : H a = some (.tup (l.map V.str))) : Val H (.ref a) (.tuple (l.map PyData.str))
  | tupI {a : Addr} (l : List Int) (h : H a = some (.tup (l.map V.int))) : Val H (.ref a) (.tuple (l.map PyData.int))
  | dct {a : Addr} (kvs : List (Str × Int)) (h : H a = some (.dK (kvs.map fun p => (Sum.inr p.1, V.int p.2)))) : Val H (.ref a) (.dict (kvs.map fun p => (.str p.1, .int p.2)))
theorem Val.same {H H' : Hp} {v : V} {d : PyData} (s : Same H H') (h : Val H v d) : Val H' v d := by
  cases h with
  | non => exact .non
  | bl b => exact .bl b
  | int n => exact .int n
  | str z => exact .str z
  | lst l h => exact .lst l (s _ _ h)
  | tup l h => exact .tup l (s _ _ h)
  | tupI l h => exact .tupI l (s _ _ h)
  | dct l h => exact .dct l (s _ _ h)
def intTy : PyData → Bool
  | .int _ => true
  | .bool _ => true
  | _ => false
def strTy : PyData → Bool
  | .str _ => true
  | _ => false
def blTy : PyData → Bool
  | .bool _ => true
  | _ => false
theorem k_NoneType_int : kitB "NoneType" "int" = some false := by decide +kernel
theorem k_NoneType_str : kitB "NoneType" "str" = some false := by decide +kernel
theorem k_NoneType_bool : kitB "NoneType" "bool" = some false := by decide +kernel
theorem k_bool_int : kitB "bool" "int" = some true := by decide +kernel
theorem k_bool_str : kitB "bool" "str" = some false := by decide +kernel
theorem k_bool_bool : kitB "bool" "bool" = some true := by decide +kernel
theorem k_int_int : kitB "int" "int" = some true := by decide +kernel
theorem k_int_str : kitB "int" "str" = some false := by decide +kernel
theorem k_int_bool : kitB "int" "bool" = some false := by decide +kernel
theorem k_str_int : kitB "str" "int" = some false := by decide +kernel
theorem k_str_str : kitB "str" "str" = some true := by decide +kernel
theorem k_str_bool : kitB "str" "bool" = some false := by decide +kernel
theorem k_list_int : kitB "list" "int" = some false := by decide +kernel
theorem k_list_str : kitB "list" "str" = some false := by decide +kernel
theorem k_list_bool : kitB "list" "bool" = some false := by decide +kernel
theorem k_tuple_int : kitB "tuple" "int" = some false := by decide +kernel
theorem k_tuple_str : kitB "tuple" "str" = some false := by decide +kernel
theorem k_tuple_bool : kitB "tuple" "bool" = some false := by decide +kernel
theorem k_dict_int : kitB "dict" "int" = some false := by decide +kernel
theorem k_dict_str : kitB "dict" "str" = some false := by decide +kernel
theorem k_dict_bool : kitB "dict" "bool" = some false := by decide +kernel
theorem Val.ty {K : PySem.W.Frag} {H : Hp} {v : V} {d : PyData} (h : Val H v d) : ∃ t, TyX K H v t ∧ PySem.W.kitOne K t (.type "int") = some (intTy d) ∧ PySem.W.kitOne K t (.type "str") = some (strTy d) ∧ PySem.W.kitOne K t (.type "bool") = some (blTy d) := by
  cases h with
  | non => exact ⟨_, .base .non, kit_ty k_NoneType_int, kit_ty k_NoneType_str, kit_ty k_NoneType_bool⟩
  | bl b => exact ⟨_, .base (.bl b), kit_ty k_bool_int, kit_ty k_bool_str, kit_ty k_bool_bool⟩
  | int n => exact ⟨_, .base (.int n), kit_ty k_int_int, kit_ty k_int_str, kit_ty k_int_bool⟩
  | str z => exact ⟨_, .base (.str z), kit_ty k_str_int, kit_ty k_str_str, kit_ty k_str_bool⟩
  | lst l h => exact ⟨_, .base (.lst h), kit_ty k_list_int, kit_ty k_list_str, kit_ty k_list_bool⟩
  | tup l h => exact ⟨_, .base (.tup h), kit_ty k_tuple_int, kit_ty k_tuple_str, kit_ty k_tuple_bool⟩
  | tupI l h => exact ⟨_, .base (.tup h), kit_ty k_tuple_int, kit_ty k_tuple_str, kit_ty k_tuple_bool⟩
  | dct l h => exact ⟨_, .base (.dK h), kit_ty k_dict_int, kit_ty k_dict_str, kit_ty k_dict_bool⟩

/-- what the walk asks of the module's names -/
structure Txt (K : PySem.W.Frag) (mg : Str → Option Value) : Prop where
  isi : mg "isinstance" = none
  int : mg "int" = none
  str : mg "str" = none
  bool : mg "bool" = none
  abs : mg "abs" = none
  len : mg "len" = none
  list : mg "list" = none
  set : mg "set" = none
  sorted : mg "sorted" = none
  repr : mg "repr" = none
  range : mg "range" = none
  max : mg "max" = none
  min : mg "min" = none
  all : mg "all" = none
  tuple : mg "tuple" = none
  dict : mg "dict" = none
  zip : mg "zip" = none
  long : ∃ t, mg "LEAST_TOO_LONG" = some (.int (10 ^ 200) t)
  alpha : ∃ t, mg "ALPHABET" = some (.str alpha t)
  mLet : ∃ t, mg "MAX_LETTERS" = some (.int 3 t)
  mText : ∃ t, mg "MAX_TEXT" = some (.int 4000 t)
  mWid : ∃ t, mg "MAX_WIDTH" = some (.int 60 t)
  sum : mg "sum" = none
  primes : ∃ p, mg "PRIMES" = some (.ref p) ∧ ∀ H, SqT K H p [.int 2, .int 3, .int 5, .int 7]
  enumerate : mg "enumerate" = none

theorem fine_line {z : Str} (h : Fine z) : z.length ≤ sizeLine := Nat.le_trans h.long (by decide)

/-! ### the program's judges -/
def spHas : Sp := fun vs H Q _ => ∃ (v : V) (d : PyData) (sg : Str) (m : Nat), vs = [v, .str sg, .int m] ∧ Val H v d ∧ Ok d ∧ Q (.bl (has sg m d)) H
section
variable {P : Program} {w : World} {K : PySem.W.Frag} {mg : Str → Option Value} {base : Heap}
theorem scHas : FnScope ["value", "signs", "most"] ["value", "signs", "most"] (defScope sHas) := ⟨rfl, rfl, rfl, by decide +kernel, rfl, by decide +kernel, by decide +kernel⟩
theorem ok_has {f : Addr} {fd : FuncData} (F : Fun K "has_only" "has_only" sHas f fd) (T : Txt K mg) : FnOk P w K mg base CX0 1 f fd ["value", "signs", "most"] spHas := by
  refine F.ok scHas (fun vs H Q E h => ?_) (fun cdv A outer s H vs Q E hr h => ?_)
  · obtain ⟨v, d, sg, m, rfl, _⟩ := h
    rfl
  · obtain ⟨v, d, sg, m, rfl, hv, hd, q⟩ := h
    refine ⟨_, pss_one (ps_ret (pe_and (pe_callB call_isi (by rfl) T.isi (by decide +kernel) (pa_cons (pv 0) (pa_cons (pe_bltn (v := .ty "str") (by rfl) T.str (by decide +kernel) rfl) pa_nil)))
      (pe_and (pe_cmpR op_le (pe_callB call_len_str (by rfl) T.len PySem.boot_len (pa_cons (pv 0) pa_nil)) (pv 2) (nomark _))
      (pe_one (pe_cmpR op_eq (pe_bm PySem.F.plainAttrs_str PySem.F.slot_str_strip PySem.F.type_str_strip mt_stripChars (pv 0) (pa_cons (pv 1) pa_nil)) pe_str (nomark _)))))), ?_⟩
    obtain ⟨t, ty, _, k, _⟩ := Val.ty (K := K) hv
    refine ⟨_, rfl, _, _, _, _, _, rfl, .ty "str", ty, k, strTy d, rfl, ?_⟩
    cases hv with
    | str z =>
      have hz := fine_line (show Fine z from hd)
      refine iteT ?_
      refine ⟨_, rfl, z, rfl, hz, _, rfl, _, _, rfl, rfl, _, rfl, ?_⟩
      have e1 : decide ((z.length : Int) ≤ (m : Int)) = decide (z.length ≤ m) := decide_eq_decide.mpr (by omega)
      rw [e1]
      have e0 : has sg m (.str z) = (decide (z.length ≤ m) && only z sg) := rfl
      rw [e0] at q
      by_cases hm : z.length ≤ m
      · rw [decide_eq_true hm] at q ⊢
        refine iteT ?_
        refine ⟨_, rfl, rfl, _, rfl, z, sg, rfl, rfl, hz, rfl, ?_⟩
        have e2 : decide (V.str (Txt.stripChars z sg) = V.str (Str.ofString "")) = only z sg := by
          rw [← strip_only]
          exact decide_eq_decide.mpr ⟨fun e => by injection e, fun e => by rw [e]; rfl⟩
        rw [e2]
        exact q
      · rw [decide_eq_false hm] at q ⊢
        exact iteF q
    | _ => exact iteF q

def spInt : Sp := fun vs H Q _ => ∃ (v : V) (d : PyData), vs = [v] ∧ Val H v d ∧ Q (.bl (isInt d)) H
theorem scInt : FnScope ["value"] ["value"] (defScope sInt) := ⟨rfl, rfl, rfl, by decide +kernel, rfl, by decide +kernel, by decide +kernel⟩
theorem isInt_abs (n : Int) : decide ((if n < 0 then -n else n) < 10 ^ 200) = isInt (.int n) := by
  show _ = decide (n.natAbs < 10 ^ 200)
  have e : ((10 ^ 200 : Nat) : Int) = 10 ^ 200 := by norm_cast
  rw [← e]
  generalize (10 ^ 200 : Nat) = M
  refine decide_eq_decide.mpr ?_
  split <;> omega
theorem ok_int {f : Addr} {fd : FuncData} (F : Fun K "is_integer" "is_integer" sInt f fd) (T : Txt K mg) : FnOk P w K mg base CX0 1 f fd ["value"] spInt := by
  refine F.ok scInt (fun vs H Q E h => ?_) (fun cdv A outer s H vs Q E hr h => ?_)
  · obtain ⟨v, d, rfl, _⟩ := h
    rfl
  · obtain ⟨v, d, rfl, hv, q⟩ := h
    obtain ⟨tl, hl⟩ := T.long
    refine ⟨_, pss_one (ps_ret (pe_and (pe_callB call_isi (by rfl) T.isi (by decide +kernel) (pa_cons (pv 0) (pa_cons (pe_bltn (v := .ty "int") (by rfl) T.int (by decide +kernel) rfl) pa_nil)))
      (pe_and (pe_not (pe_callB call_isi (by rfl) T.isi (by decide +kernel) (pa_cons (pv 0) (pa_cons (pe_bltn (v := .ty "bool") (by rfl) T.bool (by decide +kernel) rfl) pa_nil))))
      (pe_one (pe_cmpR op_lt (pe_callB call_abs (by rfl) T.abs (by decide +kernel) (pa_cons (pv 0) pa_nil)) (pe_glob (v := .int (10 ^ 200)) rfl hl ⟨_, rfl⟩) (nomark _)))))), ?_⟩
    obtain ⟨t, ty, k1, _, k3⟩ := Val.ty (K := K) hv
    refine ⟨_, rfl, _, _, _, _, _, rfl, .ty "int", ty, k1, intTy d, rfl, ?_⟩
    cases hv with
    | int n =>
      refine iteT ⟨_, rfl, _, _, _, _, _, rfl, .ty "bool", ty, k3, _, rfl, _, rfl, iteT ?_⟩
      refine ⟨_, rfl, n, rfl, _, _, rfl, rfl, ?_⟩
      show Q (.bl (decide ((if n < 0 then -n else n) < 10 ^ 200))) H
      rw [isInt_abs]
      exact q
    | bl b => exact iteT ⟨_, rfl, _, _, _, _, _, rfl, .ty "bool", ty, k3, _, rfl, _, rfl, iteF q⟩
    | _ => exact iteF q

end
/-- a def of the text, found under its name -/
structure Df (K : PySem.W.Frag) (mg : Str → Option Value) (x : Str) (st : Stmt) (ps : List Str) (f : Addr) (fd : FuncData) : Prop where
  F : Fun K x x st f fd
  m : mg x = some (.ref f)
  b : Binds K fd ps []

/-! ### rows of one-sign texts as data -/
abbrev onesD (l : List Nat) : List PyData := l.map fun c => PyData.str (one c)
theorem all_ones (K : PySem.W.Frag) (H : Hp) : ∀ l : List Nat, DpAll K H (ones l) (onesD l)
  | [] => .nil
  | c :: l => .cons (.str _) (all_ones K H l)
theorem eqv_ones : ∀ l m : List Nat, PyData.eqvAll (onesD l) (onesD m) = decide (l = m)
  | [], [] => rfl
  | [], _ :: _ => rfl
  | _ :: _, [] => rfl
  | c :: l, d :: m => by
    show ((one c == one d) && PyData.eqvAll (onesD l) (onesD m)) = _
    rw [eqv_ones l m]
    by_cases h : c = d
    · subst h
      simp
    · have e : (one c == one d) = false := beq_eq_false_iff_ne.mpr fun q => h (one_inj q)
      rw [e]
      simp [h]
theorem lay_all (l : List Nat) (h : ∀ c ∈ l, c < 128) : PyData.canLayAll0 (onesD l) = true := by
  induction l with
  | nil => rfl
  | cons c l ih =>
    have hc := h c List.mem_cons_self
    have e1 : PyData.canLay0 (.str (one c)) = true := by
      show (one c).cps.all (· < 0x110000) = true
      simp
      omega
    show (PyData.canLay0 (.str (one c)) && PyData.canLayAll0 (onesD l)) = true
    rw [ih fun d hd => h d (List.mem_cons_of_mem _ hd), e1]
    rfl
theorem deep_all (l : List Nat) : PyData.depthAll (onesD l) ≤ 1 := by
  induction l with
  | nil => decide
  | cons c l ih =>
    show max _ (PyData.depthAll (onesD l)) ≤ 1
    exact Nat.max_le.mpr ⟨(by show 0 ≤ 1; decide), ih⟩
theorem shaped_ones (l : List Nat) (h : ∀ c ∈ l, c < 128) : SeqAt.shaped (.list (onesD l)) = true := by
  unfold SeqAt.shaped
  rw [Bool.and_eq_true]
  refine ⟨lay_all l h, decide_eq_true ?_⟩
  show PyData.depthAll (onesD l) + 1 ≤ 64
  have := deep_all l
  omega

section
variable {P : Program} {w : World} {K : PySem.W.Frag} {mg : Str → Option Value} {base : Heap}
theorem scLetters : FnScope ["value"] ["value"] (defScope sLetters) := ⟨rfl, rfl, rfl, by decide +kernel, rfl, by decide +kernel, by decide +kernel⟩
def spLetters : Sp := fun vs H Q _ => ∃ (v : V) (d : PyData), vs = [v] ∧ Val H v d ∧ Ok d ∧ ∀ H', Same H H' → Q (.bl (letters d)) H'
theorem same_upd {H : Hp} {p : Addr} {o : HO} (h : H p = none) : Same H (upd H p o) := fun b u e => by
  rw [upd_ne (ne_of_none e h)]
  exact e
theorem ok_letters {f fH : Addr} {fd fdH : FuncData} (F : Fun K "is_letters" "is_letters" sLetters f fd) (T : Txt K mg) (DH : Df K mg "has_only" sHas ["value", "signs", "most"] fH fdH) :
    FnOk P w K mg base CX0 2 f fd ["value"] spLetters := by
  have G := ok_has (P := P) (w := w) (base := base) DH.F T
  refine F.ok scLetters (fun vs H Q E h => ?_) (fun cdv A outer s H vs Q E hr h => ?_)
  · obtain ⟨v, d, rfl, _⟩ := h
    rfl
  · obtain ⟨v, d, rfl, hv, hd, q⟩ := h
    obtain ⟨ta, ha⟩ := T.alpha
    obtain ⟨tn, hn⟩ := T.mLet
    refine ⟨_, pss_one (ps_ret (pe_and (pe_call G hr (by rfl) DH.m DH.F.kp DH.b .nil pass0 (pa_cons (pv 0) (pa_cons (pe_glob (v := .str alpha) rfl ha ⟨_, rfl⟩) (pa_cons (pe_glob (v := .int 3) rfl hn ⟨_, rfl⟩) pa_nil))))
      (pe_and (pe_cmpR op_ne (pv 0) pe_str (nomark _))
      (pe_one (pe_cmpR (op_eqD hr.units) (pe_callTy (cr_listTx rfl) (by rfl) T.list (by decide +kernel) (pa_cons (pv 0) pa_nil))
        (pe_callB (cr_sortTx rfl) (by rfl) T.sorted (by decide +kernel) (pa_cons (pe_callTy (cr_setTx rfl) (by rfl) T.set (by decide +kernel) (pa_cons (pv 0) pa_nil)) pa_nil)) (nomark _)))))), ?_⟩
    refine ⟨_, rfl, v, d, alpha, 3, rfl, hv, hd, _, rfl, ?_⟩
    cases hv with
    | str z =>
      have hz : Fine z := hd
      have e0 : letters (.str z) = (has alpha 3 (.str z) && decide (z ≠ Str.empty) && rise z) := rfl
      rw [e0] at q
      cases hb : has alpha 3 (.str z) with
      | true =>
        rw [hb] at q
        refine iteT ⟨_, rfl, rfl, ?_⟩
        have e : (!decide (V.str z = V.str (Str.ofString ""))) = decide (z ≠ Str.empty) := by
          rw [← decide_not]
          exact decide_eq_decide.mpr ⟨fun h e => h (by rw [e]; rfl), fun h e => h (by injection e)⟩
        refine ⟨_, rfl, ?_⟩
        rw [e]
        by_cases hne : z ≠ Str.empty
        · rw [decide_eq_true hne] at q ⊢
          refine iteT ?_
          refine ⟨_, rfl, z, rfl, fine_line hz, fun p1 n1 => ?_⟩
          refine ⟨_, rfl, z, rfl, hz.few, fun p2 n2 => ?_⟩
          refine ⟨p2, cds z, rfl, upd_same, hz.few, fun p3 n3 => ?_⟩
          have s1 : Same H (upd H p1 (.lst (ones (cds z)))) := same_upd n1
          have s2 := same_upd (o := TO w p2 (met [] (cds z))) n2
          have s3 := same_upd (o := .lst (ones (ups (cds z)))) n3
          have h1 := s3 _ _ (s2 _ _ (upd_same (H := H) (a := p1) (o := .lst (ones (cds z)))))
          refine ⟨.list (onesD (cds z)), .list (onesD (ups (cds z))), .lst (SqL.of h1) (all_ones _ _ _), .lst (SqL.of upd_same) (all_ones _ _ _), shaped_ones _ hz.plain, shaped_ones _ (fun c hc => hz.plain c ((ups_mem _ _).mp hc)), ?_⟩
          have e2 : PyData.eqv (.list (onesD (cds z))) (.list (onesD (ups (cds z)))) = rise z := eqv_ones _ _
          rw [e2]
          exact q _ ((s1.trans s2).trans s3)
        · have hne' : decide (z ≠ Str.empty) = false := decide_eq_false hne
          rw [hne'] at q ⊢
          exact iteF (q _ (Same.refl H))
      | false =>
        rw [hb] at q
        exact iteF (q _ (Same.refl H))
    | _ => exact iteF (q _ (Same.refl H))

/-! ### the law's drawer -/
/-- a drawer: three ints -/
def Cup (H : Hp) (c : Addr) : Prop := ∃ a0 a1 a2 : Int, H c = some (.lst [.int a0, .int a1, .int a2])
/-- all but what stands at c stays -/
def But (c : Addr) (H H' : Hp) : Prop := ∀ b o, b ≠ c → H b = some o → H' b = some o
theorem But.refl (c : Addr) (H : Hp) : But c H H := fun _ _ _ e => e
theorem But.trans {c : Addr} {H H1 H2 : Hp} (a : But c H H1) (b : But c H1 H2) : But c H H2 := fun x o n e => b x o n (a x o n e)
theorem But.of {c : Addr} {H H' : Hp} (s : Same H H') : But c H H' := fun b o _ e => s b o e
theorem But.put {c : Addr} {H : Hp} {o : HO} : But c H (upd H c o) := fun b u n e => by rw [upd_ne n]; exact e

def spCup (K : PySem.W.Frag) : Sp := fun vs H Q _ => ∃ (a : Addr) (ns : List Int) (k : Nat), vs = [.ref a, .int k] ∧ SqL K H a (ns.map V.int) ∧ ns.length ≤ 63 ∧ k ≤ 100 ∧ ∀ p H', H p = none → Same H H' → Cup H' p → Q (.ref p) H'
theorem scCup : FnScope ["_law_script", "_law_at", "_law_cell", "_law_great", "_law_blend"] ["_law_script", "_law_at"] (defScope sCup) := ⟨rfl, rfl, rfl, by decide +kernel, rfl, by decide +kernel, by decide +kernel⟩
theorem ok_cup {f : Addr} {fd : FuncData} (F : Fun K "_law_cup" "_law_cup" sCup f fd) (T : Txt K mg) : FnOk P w K mg base CX0 1 f fd ["_law_script", "_law_at"] (spCup K) := by
  refine F.ok scCup (fun vs H Q E h => ?_) (fun cdv A outer s H vs Q E hr h => ?_)
  · obtain ⟨a, ns, k, rfl, _⟩ := h
    rfl
  · obtain ⟨a, ns, k, rfl, hS, hlen, hk, q⟩ := h
    refine ⟨_, pss_cons (ps_set (i := 2) scCup.nd rfl (Or.inl rfl) (pe_ifExp (pt_cmpR op_lt (pv 1) (pe_callB call_len (by rfl) T.len PySem.boot_len (pa_cons (pv 0) pa_nil)) (nomark _))
        (pe_ix ix_list (pv 0) (pv 1) (fun _ _ => rfl)) (pe_op op_add (pe_op op_mul pe_int (pv 1)) pe_int)))
      (pss_cons (ps_set (i := 3) scCup.nd rfl (Or.inl rfl) (pe_op op_modN (pe_callTy call_int1 (by rfl) T.int (by decide +kernel) (pa_cons (pe_callB call_abs (by rfl) T.abs (by decide +kernel) (pa_cons (pv 2) pa_nil)) pa_nil))
        (pe_op op_powW (pe_op op_pow pe_int pe_int) pe_int)))
      (pss_cons (ps_set (i := 4) scCup.nd rfl (Or.inl rfl) (pe_op op_add (pe_op op_add (pe_op op_add
          (pe_op op_mul (pe_op op_modN (pe_callTy call_int1 (by rfl) T.int (by decide +kernel) (pa_cons (pv 3) pa_nil)) pe_int) pe_int) (pe_op op_mul pe_int (pv 1)))
          (pe_op op_mul pe_int (pe_callTy call_int1 (by rfl) T.int (by decide +kernel) (pa_cons (pe_cmpR op_lt (pv 2) pe_int (nomark _)) pa_nil)))) pe_int))
      (pss_one (ps_ret (pe_lst (pa_cons (pe_callB (call_max2 rfl) (by rfl) T.max (by decide +kernel) (pa_cons pe_int (pa_cons (pe_op op_sub (pv 3) (pe_op op_pow pe_int pe_int)) pa_nil)))
        (pa_cons (pe_op op_modN (pe_callTy call_int1 (by rfl) T.int (by decide +kernel) (pa_cons (pv 4) pa_nil)) pe_int) (pa_cons pe_int pa_nil)))))))), ?_⟩
    refine ⟨_, rfl, _, rfl, _, ns.length, rfl, .inl ⟨_, hS, by rw [List.length_map]⟩, _, _, rfl, rfl, _, rfl, ?_⟩
    refine ite2 (fun hc => ?_) (fun _ => ?_)
    · have hk2 : k < ns.length := by
        have := of_decide_eq_true hc
        omega
      refine ⟨_, rfl, _, rfl, a, _, _, .int ns[k], rfl, rfl, hS, atI_nat (by rw [List.getElem?_map, List.getElem?_eq_getElem hk2]; rfl), ?_⟩
      refine ⟨_, rfl, _, rfl, .inl ⟨_, rfl, _, _, rfl, rfl, ⟨by decide, by decide, by decide⟩, _, _, rfl, rfl, ⟨by decide, by decide +kernel⟩, _, _, rfl, rfl, (show (((10 : Int) ^ Int.toNat 61) ^ Int.toNat 11) ≠ 0 by decide +kernel), ?_⟩⟩
      refine ⟨_, rfl, .inl ⟨_, rfl, _, _, rfl, rfl, (show (2147483179 : Int) ≠ 0 by decide), _, _, rfl, rfl, .inr ⟨by decide, by decide⟩, _, rfl, _, _, rfl, rfl, .inl ⟨by decide, by decide⟩, _, _, rfl, rfl, _, rfl, _, _, rfl, rfl,
        .inr ⟨_, rfl, _, _, rfl, rfl, .inl ⟨by decide, by decide⟩, _, _, rfl, rfl, _, _, rfl, rfl, ?_⟩⟩⟩
      refine ⟨_, rfl, _, _, rfl, rfl, ⟨by decide, by decide, by decide⟩, _, _, rfl, rfl, _, _, rfl, _, rfl, .inl ⟨_, rfl, _, _, rfl, rfl, (show (2305843009213693907 : Int) ≠ 0 by decide), by show 3 ≤ sizeLine; decide, fun p hp => ?_⟩⟩
      exact q p _ hp (same_upd hp) ⟨_, _, _, upd_same⟩
    · refine ⟨_, rfl, _, _, rfl, rfl, .inl ⟨by decide, by decide⟩, _, _, rfl, rfl, ?_⟩
      refine ⟨_, rfl, _, rfl, .inl ⟨_, rfl, _, _, rfl, rfl, ⟨by decide, by decide, by decide⟩, _, _, rfl, rfl, ⟨by decide, by decide +kernel⟩, _, _, rfl, rfl, (show (((10 : Int) ^ Int.toNat 61) ^ Int.toNat 11) ≠ 0 by decide +kernel), ?_⟩⟩
      refine ⟨_, rfl, .inl ⟨_, rfl, _, _, rfl, rfl, (show (2147483179 : Int) ≠ 0 by decide), _, _, rfl, rfl, .inr ⟨by decide, by decide⟩, _, rfl, _, _, rfl, rfl, .inl ⟨by decide, by decide⟩, _, _, rfl, rfl, _, rfl, _, _, rfl, rfl,
        .inr ⟨_, rfl, _, _, rfl, rfl, .inl ⟨by decide, by decide⟩, _, _, rfl, rfl, _, _, rfl, rfl, ?_⟩⟩⟩
      refine ⟨_, rfl, _, _, rfl, rfl, ⟨by decide, by decide, by decide⟩, _, _, rfl, rfl, _, _, rfl, _, rfl, .inl ⟨_, rfl, _, _, rfl, rfl, (show (2305843009213693907 : Int) ≠ 0 by decide), by show 3 ≤ sizeLine; decide, fun p hp => ?_⟩⟩
      exact q p _ hp (same_upd hp) ⟨_, _, _, upd_same⟩

def spBit : Sp := fun vs H Q _ => ∃ (c : Addr) (m : Int), vs = [.ref c, .int m] ∧ Cup H c ∧ 0 < m ∧ m.natAbs < 2 ^ 9000 ∧ ∀ r H', 0 ≤ r → r < m → Cup H' c → But c H H' → Q (.int r) H'
theorem scBit : FnScope ["_law_cup_here", "_law_much", "_law_found", "_law_first", "_law_later"] ["_law_cup_here", "_law_much"] (defScope sBit) := ⟨rfl, rfl, rfl, by decide +kernel, rfl, by decide +kernel, by decide +kernel⟩
theorem ok_bit {f : Addr} {fd : FuncData} (F : Fun K "_law_bit" "_law_bit" sBit f fd) (T : Txt K mg) : FnOk P w K mg base CX0 1 f fd ["_law_cup_here", "_law_much"] spBit := by
  refine F.ok scBit (fun vs H Q E h => ?_) (fun cdv A outer s H vs Q E hr h => ?_)
  · obtain ⟨c, m, rfl, _⟩ := h
    rfl
  · obtain ⟨c, m, rfl, ⟨a0, a1, a2, hc⟩, hm, hm2, q⟩ := h
    refine ⟨_, pss_cons (ps_if (pt_cmpR op_gt (pe_ix ix_list (pv 0) pe_int (fun _ _ => rfl)) pe_int (nomark _))
        (pss_cons (ps_set (i := 2) scBit.nd rfl (Or.inl rfl) (pe_op op_modN (pe_callTy call_int1 (by rfl) T.int (by decide +kernel) (pa_cons (pe_ix ix_list (pv 0) pe_int (fun _ _ => rfl)) pa_nil)) (pv 1)))
        (pss_cons (ps_asg (pe_op op_fdivW (pe_ix ix_list (pv 0) pe_int (fun _ _ => rfl)) (pv 1)) (pg_sub (pv 0) pe_int set_list))
        (pss_one (ps_ret (pv 2))))) pss_nil)
      (pss_cons (ps_asg (pe_op op_add (pe_ix ix_list (pv 0) pe_int (fun _ _ => rfl)) pe_int) (pg_sub (pv 0) pe_int set_list))
      (pss_cons (ps_set (i := 3) scBit.nd rfl (Or.inl rfl) (pe_op op_modN (pe_callTy call_int1 (by rfl) T.int (by decide +kernel) (pa_cons (pe_op op_add (pe_ix ix_list (pv 0) pe_int (fun _ _ => rfl))
          (pe_op op_mul pe_int (pe_ix ix_list (pv 0) pe_int (fun _ _ => rfl)))) pa_nil)) pe_int))
      (pss_cons (ps_set (i := 4) scBit.nd rfl (Or.inl rfl) (pe_op op_add (pe_op op_mul (pe_op op_modN (pe_callTy call_int1 (by rfl) T.int (by decide +kernel) (pa_cons (pe_op op_mul (pv 3) (pv 3)) pa_nil)) pe_int) (pv 3))
          (pe_op op_mul pe_int (pe_ix ix_list (pv 0) pe_int (fun _ _ => rfl)))))
      (pss_one (ps_ret (pe_op op_modN (pe_callTy call_int1 (by rfl) T.int (by decide +kernel) (pa_cons (pe_op op_fdivN (pe_op op_modN (pe_callTy call_int1 (by rfl) T.int (by decide +kernel) (pa_cons (pv 4) pa_nil)) pe_int) pe_int) pa_nil)) (pv 1))))))), ?_⟩
    have at0 : ∀ {x y z : V}, atI [x, y, z] (0 : Int) = some x := rfl
    have at1 : ∀ {x y z : V}, atI [x, y, z] (1 : Int) = some y := rfl
    have at2 : ∀ {x y z : V}, atI [x, y, z] (2 : Int) = some z := rfl
    have rest : ∀ i : Int, 0 ≤ i.fmod m ∧ i.fmod m < m := fun i => by
      rw [Int.fmod_eq_emod_of_nonneg i (Int.le_of_lt hm)]
      exact ⟨Int.emod_nonneg i (Int.ne_of_gt hm), Int.emod_lt_of_pos i hm⟩
    refine ⟨_, rfl, c, _, _, _, rfl, rfl, SqL.of hc, at0, _, _, rfl, rfl, _, rfl, ?_⟩
    refine ite2 (fun _ => ?_) (fun _ => ?_)
    · refine ⟨_, rfl, c, _, _, _, rfl, rfl, SqL.of hc, at0, .inl ⟨_, rfl, _, rfl, _, _, rfl, rfl, (Int.ne_of_gt hm), ?_⟩⟩
      refine ⟨_, rfl, c, _, _, _, rfl, rfl, SqL.of hc, at0, _, rfl, _, _, rfl, rfl, wide_div hm hm2 (by decide) (by decide), ?_⟩
      refine ⟨_, rfl, c, _, _, 0, rfl, rfl, hc, rfl, ?_⟩
      exact ⟨_, rfl, q _ _ (rest _).1 (rest _).2 ⟨_, _, _, upd_same⟩ But.put⟩
    · refine ⟨_, rfl, c, _, _, _, rfl, rfl, SqL.of hc, at2, _, _, rfl, rfl, _, rfl, c, _, _, 2, rfl, rfl, hc, rfl, ?_⟩
      have hc2 : (upd H c (.lst ([.int a0, .int a1, .int a2].set 2 (.int (a2 + 1))))) c = some (.lst [.int a0, .int a1, .int (a2 + 1)]) := upd_same
      refine ⟨_, rfl, c, _, _, _, rfl, rfl, SqL.of hc2, at1, _, rfl, c, _, _, _, rfl, rfl, SqL.of hc2, at2, _, _, rfl, rfl, .inl ⟨by decide, by decide⟩, _, _, rfl, rfl, .inl ⟨_, rfl, _, _, rfl, rfl, (show (2305843009213693951 : Int) ≠ 0 by decide), ?_⟩⟩
      have f1 := Int.emod_nonneg (a1 + 1000541 * (a2 + 1)) (b := 2305843009213693951) (by decide)
      have f2 := Int.emod_lt_of_pos (a1 + 1000541 * (a2 + 1)) (b := 2305843009213693951) (by decide)
      rw [← Int.fmod_eq_emod_of_nonneg (a1 + 1000541 * (a2 + 1)) (b := 2305843009213693951) (by decide)] at f1 f2
      have f3 : -(2 ^ 64 : Int) < Int.fmod (a1 + 1000541 * (a2 + 1)) 2305843009213693951 ∧ Int.fmod (a1 + 1000541 * (a2 + 1)) 2305843009213693951 < 2 ^ 64 :=
        ⟨Int.lt_of_lt_of_le (by decide) f1, Int.lt_trans f2 (by decide)⟩
      refine ⟨_, rfl, _, rfl, _, _, rfl, rfl, .inl f3, .inl ⟨_, rfl, _, _, rfl, rfl, (show (2305843009213693921 : Int) ≠ 0 by decide), _, rfl, _, _, rfl, rfl, .inr f3, _, rfl, c, _, _, _, rfl, rfl, SqL.of hc2, at2,
        _, _, rfl, rfl, .inl ⟨by decide, by decide⟩, _, _, rfl, rfl, ?_⟩⟩
      refine ⟨_, rfl, .inl ⟨_, rfl, _, _, rfl, rfl, (show (2305843009213693907 : Int) ≠ 0 by decide), _, _, rfl, rfl, (show (16384 : Int) ≠ 0 ∧ (16384 : Int).natAbs < 1073741824 by decide), .inl ⟨_, rfl, _, rfl, _, _, rfl, rfl, (Int.ne_of_gt hm), ?_⟩⟩⟩
      exact q _ _ (rest _).1 (rest _).2 ⟨_, _, _, hc2⟩ But.put
/-! ### drawing -/
theorem scPick : FnScope ["_law_cup_here", "_law_items"] ["_law_cup_here", "_law_items"] (defScope sPick) := ⟨rfl, rfl, rfl, by decide +kernel, rfl, by decide +kernel, by decide +kernel⟩
def spPick : Sp := fun vs H Q _ => ∃ (c : Addr), Cup H c ∧
  ((∃ (p : Addr) (xs : List V), vs = [.ref c, .ref p] ∧ p ≠ c ∧ H p = some (.lst xs) ∧ 0 < xs.length ∧ xs.length < 100 ∧ ∀ x H', x ∈ xs → Cup H' c → But c H H' → Q x H') ∨
   (∃ z : Str, vs = [.ref c, .str z] ∧ 0 < z.length ∧ z.length < 100 ∧ ∀ s H', s ∈ cds z → Cup H' c → But c H H' → Q (.str (one s)) H'))
theorem ok_pick {f fB : Addr} {fd fdB : FuncData} (F : Fun K "_law_pick" "_law_pick" sPick f fd) (T : Txt K mg) (DB : Df K mg "_law_bit" sBit ["_law_cup_here", "_law_much"] fB fdB) :
    FnOk P w K mg base CX0 2 f fd ["_law_cup_here", "_law_items"] spPick := by
  have G := ok_bit (P := P) (w := w) (base := base) DB.F T
  refine F.ok scPick (fun vs H Q E h => ?_) (fun cdv A outer s H vs Q E hr h => ?_)
  · obtain ⟨c, _, h⟩ := h
    rcases h with ⟨p, xs, rfl, _⟩ | ⟨z, rfl, _⟩ <;> rfl
  · obtain ⟨c, hc, h⟩ := h
    refine ⟨_, pss_one (ps_ret (pe_ix ix_seq (pv 1) (pe_call G hr (by rfl) DB.m DB.F.kp DB.b .nil pass0 (pa_cons (pv 0) (pa_cons (pe_callB call_len (by rfl) T.len PySem.boot_len (pa_cons (pv 1) pa_nil)) pa_nil))) (fun _ _ => rfl))), ?_⟩
    have small : ∀ n : Nat, n < 100 → (n : Int).natAbs < 2 ^ 9000 := fun n hn => Nat.lt_of_lt_of_le (show (n : Int).natAbs < 2 ^ 7 by omega) (Nat.pow_le_pow_right (by decide) (by decide))
    rcases h with ⟨p, xs, rfl, hpc, hp, h0, h1, q⟩ | ⟨z, rfl, h0, h1, q⟩
    · refine ⟨_, rfl, _, rfl, _, rfl, _, xs.length, rfl, .inl ⟨_, SqL.of hp, rfl⟩, c, xs.length, rfl, hc, by omega, small _ h1, fun r H' r0 r1 hc' but => ?_⟩
      obtain ⟨n, rfl⟩ := Int.eq_ofNat_of_zero_le r0
      have hn : n < xs.length := by omega
      exact .inl ⟨p, xs, _, xs[n], rfl, rfl, SqL.of (but _ _ hpc hp), atI_nat (List.getElem?_eq_getElem hn), q _ _ (List.getElem_mem hn) hc' but⟩
    · have hl : z.length ≤ sizeLine := Nat.le_trans (Nat.le_of_lt h1) (by decide)
      refine ⟨_, rfl, _, rfl, _, rfl, _, z.length, rfl, ⟨hl, rfl⟩, c, z.length, rfl, hc, by omega, small _ h1, fun r H' r0 r1 hc' but => ?_⟩
      obtain ⟨n, rfl⟩ := Int.eq_ofNat_of_zero_le r0
      have hn : n < (cds z).length := by rw [cds_len]; omega
      exact .inr (.inr ⟨z, _, (cds z)[n], rfl, rfl, hl, atI_nat (List.getElem?_eq_getElem hn), q _ _ (List.getElem_mem hn) hc' but⟩)

def Signs (z : Str) : Prop := z = "ab" ∨ z = "xy" ∨ z = "a" ∨ z = "abc" ∨ z = "b"
def spSigns : Sp := fun vs H Q _ => ∃ (c : Addr), vs = [.ref c] ∧ Cup H c ∧ ∀ z H', Signs z → Cup H' c → But c H H' → Q (.str z) H'
theorem scSigns : FnScope ["_law_cup_here"] ["_law_cup_here"] (defScope sSigns) := ⟨rfl, rfl, rfl, by decide +kernel, rfl, by decide +kernel, by decide +kernel⟩
theorem Cup.same {H H' : Hp} {c : Addr} (s : Same H H') (h : Cup H c) : Cup H' c := let ⟨a, b, d, e⟩ := h; ⟨a, b, d, s _ _ e⟩
theorem Cup.ne {H : Hp} {c p : Addr} (h : Cup H c) (n : H p = none) : p ≠ c := by
  obtain ⟨a, b, d, e⟩ := h
  exact (ne_of_none e n).symm
theorem ok_signs {f fB fP : Addr} {fd fdB fdP : FuncData} (F : Fun K "_law_signs" "_law_signs" sSigns f fd) (T : Txt K mg) (DB : Df K mg "_law_bit" sBit ["_law_cup_here", "_law_much"] fB fdB)
    (DP : Df K mg "_law_pick" sPick ["_law_cup_here", "_law_items"] fP fdP) : FnOk P w K mg base CX0 3 f fd ["_law_cup_here"] spSigns := by
  have G := ok_pick (P := P) (w := w) (base := base) DP.F T DB
  refine F.ok scSigns (fun vs H Q E h => ?_) (fun cdv A outer s H vs Q E hr h => ?_)
  · obtain ⟨c, rfl, _⟩ := h
    rfl
  · obtain ⟨c, rfl, hc, q⟩ := h
    refine ⟨_, pss_one (ps_ret (pe_call G hr (by rfl) DP.m DP.F.kp DP.b .nil pass0 (pa_cons (pv 0) (pa_cons (pe_lst (pa_cons pe_str (pa_cons pe_str (pa_cons pe_str (pa_cons pe_str (pa_cons pe_str (pa_cons pe_str pa_nil))))))) pa_nil)))), ?_⟩
    refine ⟨_, rfl, by show 6 ≤ sizeLine; decide, fun p np => ⟨c, hc.same (same_upd np), .inl ⟨p, _, rfl, hc.ne np, upd_same, by decide, by decide, fun x H' hx hc' but => ?_⟩⟩⟩
    have b2 : But c H H' := (But.of (same_upd np)).trans but
    simp only [List.mem_cons, List.not_mem_nil, or_false] at hx
    rcases hx with rfl | rfl | rfl | rfl | rfl | rfl
    · exact q _ _ (.inl rfl) hc' b2
    · exact q _ _ (.inl rfl) hc' b2
    · exact q _ _ (.inl rfl) hc' b2
    · exact q _ _ (.inr (.inl rfl)) hc' b2
    · exact q _ _ (.inr (.inr (.inl rfl))) hc' b2
    · exact q _ _ (.inr (.inr (.inr (.inl rfl)))) hc' b2
end
theorem signs_letters {sg : Str} (h : Signs sg) : letters (.str sg) = true := by
  have go : ∀ z : Str, (decide (z.length ≤ 3) && only z alpha && decide (z ≠ Str.empty)) = true → (cds z).Pairwise (· < ·) → letters (.str z) = true := fun z h1 h2 => by
    show (decide (z.length ≤ 3) && only z alpha && decide (z ≠ Str.empty) && rise z) = true
    rw [h1, Bool.true_and]
    exact decide_eq_true (up_eq h2 (ups_up _) fun c => (ups_mem _ c).symm)
  rcases h with rfl | rfl | rfl | rfl | rfl <;> exact go _ (by decide +kernel) (by decide +kernel)
theorem signs_fine {sg : Str} (h : Signs sg) : Fine sg := by
  rcases h with rfl | rfl | rfl | rfl | rfl <;> exact ⟨by decide +kernel, by decide +kernel, by decide +kernel⟩
section
variable {P : Program} {w : World} {K : PySem.W.Frag} {mg : Str → Option Value} {base : Heap}
def spPassL : Sp := fun vs H Q _ => ∃ (sg : Str), vs = [.str sg] ∧ Signs sg ∧ ∀ H', Same H H' → Q .non H'
theorem scCheck : FnScope ["value"] ["value"] (defScope sCheck) := ⟨rfl, rfl, rfl, by decide +kernel, rfl, by decide +kernel, by decide +kernel⟩
theorem ok_passL {f fH fL : Addr} {fd fdH fdL : FuncData} (F : Fun K "check_letters" "check_letters" sCheck f fd) (T : Txt K mg) (DH : Df K mg "has_only" sHas ["value", "signs", "most"] fH fdH)
    (DL : Df K mg "is_letters" sLetters ["value"] fL fdL) : FnOk P w K mg base CX0 3 f fd ["value"] spPassL := by
  have G := ok_letters (P := P) (w := w) (base := base) DL.F T DH
  refine F.ok scCheck (fun vs H Q E h => ?_) (fun cdv A outer s H vs Q E hr h => ?_)
  · obtain ⟨v, rfl, _⟩ := h
    rfl
  · obtain ⟨sg, rfl, hs, q⟩ := h
    refine ⟨_, pss_one (ps_if (pt_not (pt_val (pe_call G hr (by rfl) DL.m DL.F.kp DL.b .nil pass0 (pa_cons (pv 0) pa_nil)))) (pss_one ps_never) pss_nil), ?_⟩
    refine ⟨_, rfl, .str sg, .str sg, rfl, .str sg, signs_fine hs, fun H' s1 => ⟨_, rfl, ?_⟩⟩
    rw [signs_letters hs]
    exact iteF (q _ s1)
end
/-! ### heaps -/
def NoT (H : Hp) (a : Addr) : Prop := ∀ xs, H a ≠ some (.tup xs)
theorem NoT.none {H : Hp} {a : Addr} (h : H a = none) : NoT H a := fun xs e => by rw [h] at e; cases e
theorem NoT.lst {H : Hp} {a : Addr} {xs : List V} (h : H a = some (.lst xs)) : NoT H a := fun ys e => by rw [h] at e; cases e
theorem NoT.dK {H : Hp} {a : Addr} {xs : List (Key × V)} (h : H a = some (.dK xs)) : NoT H a := fun ys e => by rw [h] at e; cases e
theorem NoT.ins {H : Hp} {a C dx : Addr} {fs : List (Str × V)} (h : H a = some (.ins C dx fs)) : NoT H a := fun ys e => by rw [h] at e; cases e
theorem Cup.noT {H : Hp} {c : Addr} (h : Cup H c) : NoT H c := let ⟨_, _, _, e⟩ := h; .lst e
def KeepT (H H' : Hp) : Prop := ∀ p xs, H p = some (.tup xs) → H' p = some (.tup xs)
theorem KeepT.same {H H' : Hp} (s : Same H H') : KeepT H H' := fun _ _ e => s _ _ e
theorem KeepT.upd {H : Hp} {a : Addr} {o : HO} (n : NoT H a) : KeepT H (upd H a o) := fun p xs e => by
  rw [upd_ne fun z => n xs (by rw [← z]; exact e)]
  exact e
theorem KeepT.but {H H' : Hp} {c : Addr} (n : NoT H c) (b : But c H H') : KeepT H H' := fun p xs e => b _ _ (fun z => n xs (by rw [← z]; exact e)) e
theorem KeepT.trans {H H1 H2 : Hp} (a : KeepT H H1) (b : KeepT H1 H2) : KeepT H H2 := fun p xs e => b p xs (a p xs e)
theorem each_app {α β : Type} {R : α → β → Prop} : ∀ {as as' : List α} {bs bs' : List β}, PySem.W.EachIs R as bs → PySem.W.EachIs R as' bs' → PySem.W.EachIs R (as ++ as') (bs ++ bs')
  | _, _, _, _, .nil, r => r
  | _, _, _, _, .cons r t, q => .cons r (each_app t q)
theorem each_snoc {α β : Type} {R : α → β → Prop} {as : List α} {bs : List β} {a : α} {b : β} (h : PySem.W.EachIs R as bs) (r : R a b) : PySem.W.EachIs R (as ++ [a]) (bs ++ [b]) := each_app h (.cons r .nil)
theorem same_put {H H' : Hp} {D : Addr} {o : HO} (s : Same H H') (n : H D = none) : Same H (upd H' D o) := fun b u e => by
  rw [upd_ne (ne_of_none e n)]
  exact s b u e
theorem free_none {H H' : Hp} {p : Addr} (s : Same H H') (n : H' p = none) : H p = none := by
  cases hh : H p with
  | none => rfl
  | some o =>
    have := s _ _ hh
    rw [n] at this
    cases this
theorem ty_tup {K : PySem.W.Frag} {H : Hp} {a : Addr} {xs : List V} (h : SqT K H a xs) : TyX K H (.ref a) (.type "tuple") := by
  rcases h with h | ⟨o, its, n, hk, hc, _⟩
  · rcases h with h | ⟨o, h⟩
    · exact .base (.tup h)
    · exact .fTuple h
  · exact .kTuple hk hc
theorem k_tuple_tuple : kitB "tuple" "tuple" = some true := by decide +kernel
theorem sg_range {sg : Str} (h : Signs sg) : ∀ c ∈ cds sg, 97 ≤ c ∧ c ≤ 122 := by
  rcases h with rfl | rfl | rfl | rfl | rfl <;> decide +kernel
theorem sg_len {sg : Str} (h : Signs sg) : 0 < sg.length ∧ sg.length ≤ 3 := by
  rcases h with rfl | rfl | rfl | rfl | rfl <;> decide +kernel
def Over (sg z : Str) : Prop := ∀ c ∈ cds z, c ∈ cds sg
theorem over_fine {sg z : Str} (h : Signs sg) (v : Over sg z) (hl : z.length ≤ 4000) : Fine z := by
  refine ⟨by omega, ?_, fun c hc => ?_⟩
  · rw [← (ups_perm (cds z)).length_eq]
    have h1 := Pm.len_le (ups_nodup (cds z)) (r := cds sg) fun c hc => v c ((ups_mem _ c).mp hc)
    have h2 : (cds sg).length ≤ 6 := by rw [cds_len]; have := (sg_len h).2; omega
    omega
  · have := sg_range h c (v c hc)
    omega
theorem over_has {sg z : Str} (v : Over sg z) (hl : z.length ≤ 4000) : has sg 4000 (.str z) = true := by
  show (decide (z.length ≤ 4000) && only z sg) = true
  rw [decide_eq_true hl, only_iff.mpr v]
  rfl
theorem nat_isInt {n : Nat} (h : n < 10 ^ 200) : isInt (.int (n : Int)) = true := by
  show decide ((n : Int).natAbs < 10 ^ 200) = true
  rw [Int.natAbs_natCast]
  exact decide_eq_true h
def tx (l : List Nat) : Str := ⟨l.toArray⟩
theorem cds_tx (l : List Nat) : cds (tx l) = l := rfl
theorem tx_cds (z : Str) : tx (cds z) = z := cds_ext rfl
theorem cds_app (a b : Str) : cds (a ++ b) = cds a ++ cds b := by
  show (a.cps ++ b.cps).toList = _
  rw [Array.toList_append]
theorem tx_app (l m : List Nat) : tx l ++ tx m = tx (l ++ m) := cds_ext (by rw [cds_app]; rfl)
theorem tx_len (l : List Nat) : (tx l).length = l.length := by
  rw [← cds_len]
  rfl
def plainS (z : Str) : Prop := ∀ c ∈ cds z, c < 128
theorem lay_str {z : Str} (h : plainS z) : PyData.canLay0 (.str z) = true := by
  show z.cps.all (· < 0x110000) = true
  rw [Array.all_eq_true_iff_forall_mem]
  intro c hc
  have := h c (Array.mem_toList_iff.mpr hc)
  exact decide_eq_true (by omega)
theorem over_plain {sg z : Str} (h : Signs sg) (v : Over sg z) : plainS z := fun c hc => by
  have := sg_range h c (v c hc)
  omega
theorem Cup.put {H : Hp} {c D : Addr} {o : HO} (h : Cup H c) (n : D ≠ c) : Cup (upd H D o) c := by
  obtain ⟨c0, c1, c2, ec⟩ := h
  exact ⟨c0, c1, c2, by rw [upd_ne n.symm]; exact ec⟩
theorem But.putN {c D : Addr} {H H' : Hp} {o : HO} (b : But c H H') (n : H D = none) : But c H (upd H' D o) := fun x u nx e => by
  rw [upd_ne (ne_of_none e n)]
  exact b _ _ nx e
theorem str_len (a b : Str) : (a ++ b).length = a.length + b.length := Array.size_append
theorem empty_app (a : Str) : Str.empty ++ a = a := cds_ext (by rw [cds_app]; rfl)
theorem cds_join : ∀ l : List Str, cds (Txt.join "" l) = (l.map cds).flatten := by
  intro l
  rw [show Txt.join "" l = Str.join "" l from TL.join_eq _ _]
  have e0 : cds ("" : Str) = [] := by decide +kernel
  induction l with
  | nil => exact e0
  | cons x l ih =>
    cases l with
    | nil =>
      show cds x = cds x ++ []
      rw [List.append_nil]
    | cons y r =>
      show cds (x ++ ("" : Str) ++ Str.join "" (y :: r)) = cds x ++ ((y :: r).map cds).flatten
      rw [cds_app, cds_app, e0, List.append_nil, ih]
theorem join_ones : ∀ l : List Nat, cds (Txt.join "" (l.map one)) = l := fun l => by
  rw [cds_join, List.map_map]
  induction l with
  | nil => rfl
  | cons c l ih =>
    show [c] ++ (l.map (cds ∘ one)).flatten = c :: l
    rw [ih]
    rfl
theorem sum_ones (l : List Nat) : ((l.map one).map (·.length)).sum = l.length := by
  rw [List.map_map]
  induction l with
  | nil => rfl
  | cons c l ih =>
    show 1 + (l.map _).sum = l.length + 1
    rw [ih]
    omega
theorem small9000 {m : Int} (h0 : 0 ≤ m) (h : m ≤ 100) : m.natAbs < 2 ^ 9000 := Nat.lt_of_lt_of_le (show m.natAbs < 2 ^ 7 by omega) (Nat.pow_le_pow_right (by decide) (by decide))
section
variable {P : Program} {w : World} {K : PySem.W.Frag} {mg : Str → Option Value} {base : Heap}
def spText : Sp := fun vs H Q _ => ∃ sg z : Str, vs = [.str sg, .str z] ∧ Signs sg ∧ Over sg z ∧ z.length ≤ 100 ∧ ∀ H', Same H H' → Q (.bl true) H'
theorem scText : FnScope ["letters", "value"] ["letters", "value"] (defScope sText) := ⟨rfl, rfl, rfl, by decide +kernel, rfl, by decide +kernel, by decide +kernel⟩
structure Low (K : PySem.W.Frag) (mg : Str → Option Value) (fI fH fL fC fT : Addr) (dI dH dL dC dT : FuncData) : Prop where
  DI : Df K mg "is_integer" sInt ["value"] fI dI
  DH : Df K mg "has_only" sHas ["value", "signs", "most"] fH dH
  DL : Df K mg "is_letters" sLetters ["value"] fL dL
  DC : Df K mg "check_letters" sCheck ["value"] fC dC
  DT : Df K mg "is_text" sText ["letters", "value"] fT dT
theorem ok_text {f fI fH fL fC fT : Addr} {fd dI dH dL dC dT : FuncData} (F : Fun K "is_text" "is_text" sText f fd) (T : Txt K mg) (G : Low K mg fI fH fL fC fT dI dH dL dC dT) : FnOk P w K mg base CX0 4 f fd ["letters", "value"] spText := by
  have GC := ok_passL (P := P) (w := w) (base := base) G.DC.F T G.DH G.DL
  have GH := ok_has (P := P) (w := w) (base := base) G.DH.F T
  refine F.ok scText (fun vs H Q E h => ?_) (fun cdv A outer s H vs Q E hr h => ?_)
  · obtain ⟨sg, z, rfl, _⟩ := h
    rfl
  · obtain ⟨sg, z, rfl, hsg, hz, hl, q⟩ := h
    obtain ⟨tn, hn⟩ := T.mText
    refine ⟨_, pss_cons (ps_expr (pe_call GC hr (by rfl) G.DC.m G.DC.F.kp G.DC.b .nil pass0 (pa_cons (pv 0) pa_nil)))
      (pss_one (ps_ret (pe_call GH (hr.mono (by decide)) (by rfl) G.DH.m G.DH.F.kp G.DH.b .nil pass0 (pa_cons (pv 1) (pa_cons (pv 0) (pa_cons (pe_glob (v := .int 4000) rfl hn ⟨_, rfl⟩) pa_nil)))))), ?_⟩
    refine ⟨_, rfl, sg, rfl, hsg, fun H' s' => ?_⟩
    refine ⟨_, rfl, _, rfl, .str z, .str z, sg, 4000, rfl, .str z, over_fine hsg hz (by omega), ?_⟩
    rw [over_has hz (by omega)]
    exact q H' s'
def spCText : Sp := fun vs H Q _ => ∃ sg z : Str, vs = [.str sg, .str z] ∧ Signs sg ∧ Over sg z ∧ z.length ≤ 100 ∧ ∀ H', Same H H' → Q .non H'
theorem scCText : FnScope ["letters", "value"] ["letters", "value"] (defScope sCText) := ⟨rfl, rfl, rfl, by decide +kernel, rfl, by decide +kernel, by decide +kernel⟩
theorem ok_ctext {f fI fH fL fC fT : Addr} {fd dI dH dL dC dT : FuncData} (F : Fun K "check_text" "check_text" sCText f fd) (T : Txt K mg) (G : Low K mg fI fH fL fC fT dI dH dL dC dT) : FnOk P w K mg base CX0 5 f fd ["letters", "value"] spCText := by
  have GT := ok_text (P := P) (w := w) (base := base) G.DT.F T G
  refine F.ok scCText (fun vs H Q E h => ?_) (fun cdv A outer s H vs Q E hr h => ?_)
  · obtain ⟨sg, z, rfl, _⟩ := h
    rfl
  · obtain ⟨sg, z, rfl, hsg, hz, hl, q⟩ := h
    refine ⟨_, pss_one (ps_if (pt_not (pt_val (pe_call GT hr (by rfl) G.DT.m G.DT.F.kp G.DT.b .nil pass0 (pa_cons (pv 0) (pa_cons (pv 1) pa_nil))))) (pss_one ps_never) pss_nil), ?_⟩
    exact ⟨_, rfl, _, rfl, sg, z, rfl, hsg, hz, hl, fun H' s' => ⟨_, rfl, iteF (q H' s')⟩⟩
abbrev nLine : List Str := ["_law_cup_here", "_law_signs_here", "_law_most", "_law_turn"]
def spLine : Sp := fun vs H Q _ => ∃ (c : Addr) (sg : Str) (m : Nat), vs = [.ref c, .str sg, .int (m : Int)] ∧ Cup H c ∧ Signs sg ∧ m ≤ 20 ∧ ∀ z H', Over sg z → z.length ≤ m → Cup H' c → But c H H' → Q (.str z) H'
theorem scLine : FnScope nLine ["_law_cup_here", "_law_signs_here", "_law_most"] (defScope sLine) := ⟨rfl, rfl, rfl, by decide +kernel, rfl, by decide +kernel, by decide +kernel⟩
theorem ok_line {f fB fP : Addr} {fd dB dP : FuncData} (F : Fun K "_law_line" "_law_line" sLine f fd) (T : Txt K mg) (DB : Df K mg "_law_bit" sBit ["_law_cup_here", "_law_much"] fB dB) (DP : Df K mg "_law_pick" sPick ["_law_cup_here", "_law_items"] fP dP) :
    FnOk P w K mg base CX0 3 f fd ["_law_cup_here", "_law_signs_here", "_law_most"] spLine := by
  have GB := ok_bit (P := P) (w := w) (base := base) DB.F T
  have GP := ok_pick (P := P) (w := w) (base := base) DP.F T DB
  refine F.ok scLine (fun vs H Q E h => ?_) (fun cdv A outer s H vs Q E hr h => ?_)
  · obtain ⟨c, sg, m, rfl, _⟩ := h
    rfl
  · obtain ⟨c, sg, m, rfl, hc, hsg, hm, q⟩ := h
    have r1 : Room 1 _ := hr.mono (by decide)
    refine ⟨_, pss_one (ps_ret (pe_join pe_str (pe_lc (own := [("_law_turn", 3)]) (g := gName 3) (tt := tYes) rfl scLine.nd
      (pi_range1 rfl T.range (pa_cons (pe_call GB r1 (by rfl) DB.m DB.F.kp DB.b .nil pass0 (pa_cons (pv 0) (pa_cons (pe_op op_add (pv 2) pe_int) pa_nil))) pa_nil))
      (blkOk_by (own := [("_law_turn", 3)]) (N := nLine) (sc := defScope sLine) (by decide +kernel))
      (fun _ _ _ _ _ => pg_name (i := 3) scLine.nd rfl (Or.inl rfl)) (fun _ _ _ _ _ => pts_nil)
      (fun _ _ _ _ _ => pe_call GP hr (by rfl) DP.m DP.F.kp DP.b .nil pass0 (pa_cons (pv 0) (pa_cons (pv 1) pa_nil)))))), ?_⟩
    obtain ⟨l0, l1⟩ := sg_len hsg
    refine ⟨⟨_, rfl⟩, _, rfl, _, rfl, _, _, rfl, rfl, c, (m : Int) + 1, rfl, hc, by omega, small9000 (by omega) (by omega), fun r H1 r0 rm hc1 b1 => ?_⟩
    obtain ⟨k, rfl⟩ : ∃ k : Nat, r = (k : Int) := ⟨r.toNat, by omega⟩
    refine ⟨_, rfl, by omega, by omega, fun D hD => ?_⟩
    have nDc : D ≠ c := hc1.ne hD
    rw [Int.toNat_natCast]
    refine lc_range (lo := 0) (n := k) (fun i H2 => Cup H2 c ∧ But c H1 H2 ∧ ∃ cs : List Nat, H2 D = some (.lst ((cs.map one).map V.str)) ∧ cs.length = i ∧ ∀ d ∈ cs, d ∈ cds sg)
      ⟨hc1.same (same_upd hD), But.of (same_upd hD), [], upd_same, rfl, fun d hd => by cases hd⟩ ?_ ?_
    · rintro i H2 hi ⟨hc2, b2, cs, e2, hl, hv⟩
      refine ⟨rfl, iteT (B := False) ?_⟩
      refine ⟨_, rfl, _, rfl, c, hc2, .inr ⟨sg, rfl, l0, by omega, fun d H3 hd hc3 b3 => ?_⟩⟩
      have e3 := b3 _ _ nDc e2
      refine ⟨_, e3, ?_, ?_, ?_, cs ++ [d], ?_, by rw [List.length_append, hl]; rfl, ?_⟩
      · rw [List.length_map, List.length_map, hl]
        exact Nat.lt_of_lt_of_le (show i < 30 by omega) (by decide)
      · obtain ⟨c0, c1, c2, ec⟩ := hc3
        exact ⟨c0, c1, c2, by rw [upd_ne nDc.symm]; exact ec⟩
      · intro b o n' e
        rw [upd_ne (ne_of_none e hD)]
        exact b3 _ _ n' (b2 _ _ n' e)
      · rw [upd_same, List.map_append, List.map_append]
        rfl
      · intro x hx
        rcases List.mem_append.mp hx with hx | hx
        · exact hv x hx
        · rw [List.mem_singleton.mp hx]
          exact hd
    · rintro H2 ⟨hc2, b2, cs, e2, hl, hv⟩
      refine ⟨"", D, _, rfl, rfl, .inl (SqL.of e2), ?_, ?_⟩
      · rw [sum_ones]
        show _ + _ * 0 ≤ _
        exact Nat.le_trans (show _ ≤ 30 by omega) (by decide)
      · refine q _ H2 (fun d hd => ?_) ?_ hc2 (b1.trans b2)
        · rw [join_ones] at hd
          exact hv d hd
        · rw [← cds_len, join_ones]
          omega
end
theorem cut_to {z : Str} (i : Nat) : cds (cutS z none (some (i : Int))) = (cds z).take i := by
  unfold cutS
  show (((cds z).drop (HT.sIx z.length 0 none)).take (HT.sIx z.length z.length (some (i : Int)) - HT.sIx z.length 0 none)) = _
  rw [HT.sIx_none, HT.sIx_nat, List.drop_zero, Nat.sub_zero]
  by_cases h : i ≤ z.length
  · rw [Nat.min_eq_left h]
  · rw [Nat.min_eq_right (by omega), List.take_of_length_le (by rw [cds_len]; exact Nat.le_refl _), List.take_of_length_le (by rw [cds_len]; omega)]
structure Sh (n w : Nat) (d : PyData) : Prop where
  lay : d.canLay0 = true
  sh : d.showable = true
  sht : d.intsShort 20 = true
  dp : d.depth ≤ n
  wt : d.weight ≤ w
structure ShA (n w : Nat) (ds : List PyData) : Prop where
  lay : PyData.canLayAll0 ds = true
  sh : PyData.showableAll ds = true
  sht : PyData.intsShortAll 20 ds = true
  dp : PyData.depthAll ds ≤ n
  wt : PyData.weightAll ds ≤ w
theorem Sh.str {z : Str} {w : Nat} (h : plainS z) (hl : z.length ≤ w) : Sh 0 w (.str z) := ⟨lay_str h, rfl, rfl, Nat.le_refl _, hl⟩
theorem int_facts : ∀ m < 1001, (PyData.showable (.int ((m : Nat) : Int)) && PyData.intsShort 20 (.int ((m : Nat) : Int)) && decide (PyData.weight (.int ((m : Nat) : Int)) ≤ 12)) = true := by decide +kernel
theorem Sh.int {m w : Nat} (h : m ≤ 1000) (hw : 12 ≤ w) : Sh 0 w (.int (m : Int)) := by
  have := int_facts m (by omega)
  rw [Bool.and_eq_true, Bool.and_eq_true, decide_eq_true_iff] at this
  exact ⟨rfl, this.1.1, this.1.2, Nat.le_refl _, Nat.le_trans this.2 hw⟩
theorem ShA.nil {n w : Nat} : ShA n w [] := ⟨rfl, rfl, rfl, Nat.zero_le _, Nat.zero_le _⟩
theorem ShA.cons {n m w v x : Nat} {d : PyData} {ds : List PyData} (h : Sh m v d) (k : ShA n w ds) (hm : m ≤ n) (hw : v + 1 + w ≤ x) : ShA n x (d :: ds) where
  lay := by show (d.canLay0 && PyData.canLayAll0 ds) = true; rw [h.lay, k.lay]; rfl
  sh := by show (d.showable && PyData.showableAll ds) = true; rw [h.sh, k.sh]; rfl
  sht := by show (d.intsShort 20 && PyData.intsShortAll 20 ds) = true; rw [h.sht, k.sht]; rfl
  dp := Nat.max_le.mpr ⟨Nat.le_trans h.dp hm, k.dp⟩
  wt := by show d.weight + 1 + PyData.weightAll ds ≤ x; have := h.wt; have := k.wt; omega
theorem ShA.tup {n w : Nat} {ds : List PyData} (h : ShA n w ds) : Sh (n + 1) w (.tuple ds) := ⟨h.lay, h.sh, h.sht, Nat.succ_le_succ h.dp, h.wt⟩
theorem ShA.lst {n w : Nat} {ds : List PyData} (h : ShA n w ds) : Sh (n + 1) w (.list ds) := ⟨h.lay, h.sh, h.sht, Nat.succ_le_succ h.dp, h.wt⟩
theorem Sh.len {n w : Nat} {d : PyData} (h : Sh n w d) (hw : w ≤ 200000) : d.shown.length ≤ sizeLine := by
  have h2 := PyData.shown_le 20 (by decide) d (PyData.leavesShort_of_canLay0 20 d h.lay h.sht)
  have := h.wt
  exact Nat.le_trans h2 (Nat.le_trans (show _ ≤ 22 * 200000 + 20 by omega) (by decide))
theorem sg_plain {sg : Str} (h : Signs sg) : plainS sg := fun c hc => by have := sg_range h c hc; omega
theorem plain_app {a b : Str} (h : plainS a) (k : plainS b) : plainS (a ++ b) := fun c hc => by
  rw [cds_app] at hc
  rcases List.mem_append.mp hc with hc | hc
  · exact h c hc
  · exact k c hc
end K16

set_option linter.all false
/-! TalM: core Lean alone. Tallies: a first row, a square for each letter, a last column, over the integers or their rests. -/
namespace Ty
/-- sum of f 0 .. f (n - 1) -/
def S : Nat → (Nat → Int) → Int
  | 0, _ => 0
  | n + 1, f => S n f + f n
theorem S_congr : ∀ {n : Nat} {f g : Nat → Int}, (∀ i, i < n → f i = g i) → S n f = S n g
  | 0, _, _, _ => rfl
  | n + 1, f, g, h => by
    show S n f + f n = S n g + g n
    rw [S_congr fun i hi => h i (Nat.lt_succ_of_lt hi), h n (Nat.lt_succ_self n)]
theorem S_zero : ∀ n : Nat, S n (fun _ => 0) = 0
  | 0 => rfl
  | n + 1 => by
    show S n _ + 0 = 0
    rw [S_zero n]
    rfl
theorem S_add : ∀ (n : Nat) (f g : Nat → Int), S n (fun i => f i + g i) = S n f + S n g
  | 0, _, _ => rfl
  | n + 1, f, g => by
    show S n _ + (f n + g n) = (S n f + f n) + (S n g + g n)
    rw [S_add n]
    omega
theorem S_mulL (k : Int) : ∀ (n : Nat) (f : Nat → Int), S n (fun i => k * f i) = k * S n f
  | 0, _ => (Int.mul_zero k).symm
  | n + 1, f => by
    show S n _ + _ = k * (S n f + f n)
    rw [S_mulL k n, Int.mul_add]
theorem S_mulR (k : Int) (n : Nat) (f : Nat → Int) : S n (fun i => f i * k) = S n f * k := by
  rw [Int.mul_comm, ← S_mulL]
  exact S_congr fun i _ => Int.mul_comm _ _
theorem S_swap (m : Nat) (f : Nat → Nat → Int) : ∀ n : Nat, S n (fun i => S m (f i)) = S m (fun j => S n (fun i => f i j))
  | 0 => (S_zero m).symm
  | n + 1 => by
    show S n (fun i => S m (f i)) + S m (f n) = S m (fun j => S n (fun i => f i j) + f n j)
    rw [S_add, S_swap m f n]
theorem S_cat (n : Nat) (f : Nat → Int) : ∀ m : Nat, S (n + m) f = S n f + S m (fun i => f (n + i))
  | 0 => (Int.add_zero _).symm
  | m + 1 => by
    show S (n + m) f + f (n + m) = S n f + (S m _ + f (n + m))
    rw [S_cat n f m]
    omega
theorem S_prod (m : Nat) (f : Nat → Int) : ∀ n : Nat, S (n * m) f = S n (fun a => S m (fun b => f (a * m + b)))
  | 0 => by rw [Nat.zero_mul]; rfl
  | n + 1 => by
    rw [Nat.succ_mul, S_cat, S_prod m f n]
    rfl
/-- a row times a square -/
def fv (n : Nat) (r : Nat → Int) (M : Nat → Nat → Int) : Nat → Int := fun j => S n (fun i => r i * M i j)
def dt (n : Nat) (r c : Nat → Int) : Int := S n (fun i => r i * c i)
def led (n : Nat) (r : Nat → Int) (Ms : List (Nat → Nat → Int)) : Nat → Int := Ms.foldl (fv n) r
def num (n : Nat) (r : Nat → Int) (Ms : List (Nat → Nat → Int)) (c : Nat → Int) : Int := dt n (led n r Ms) c
def tr (M : Nat → Nat → Int) : Nat → Nat → Int := fun i j => M j i
theorem dt_comm (n : Nat) (r c : Nat → Int) : dt n r c = dt n c r := S_congr fun i _ => Int.mul_comm _ _
/-- (r M) c = r (M c) -/
theorem adj (n : Nat) (r c : Nat → Int) (M : Nat → Nat → Int) : dt n (fv n r M) c = dt n r (fv n c (tr M)) := by
  unfold dt fv
  have e : S n (fun i => S n (fun i_1 => r i_1 * M i_1 i) * c i) = S n (fun i => S n (fun k => r k * M k i * c i)) := S_congr fun i _ => (S_mulR _ _ _).symm
  rw [e, S_swap]
  refine S_congr fun k _ => ?_
  rw [← S_mulL]
  refine S_congr fun i _ => ?_
  show r k * M k i * c i = r k * (c i * M k i)
  rw [Int.mul_assoc, Int.mul_comm (M k i)]
theorem led_congr {n : Nat} : ∀ {Ms : List (Nat → Nat → Int)} {r r' : Nat → Int}, (∀ i, i < n → r i = r' i) → ∀ i, i < n → led n r Ms i = led n r' Ms i
  | [], _, _, h => h
  | M :: Ms, r, r', h => led_congr (Ms := Ms) (r := fv n r M) (r' := fv n r' M) fun j _ => S_congr fun i hi => by rw [h i hi]
theorem led_app {n : Nat} {r : Nat → Int} {Ms Ns : List (Nat → Nat → Int)} : led n r (Ms ++ Ns) = led n (led n r Ms) Ns := List.foldl_append ..
/-- r M1 .. Mk c, from the right -/
theorem num_right (n : Nat) : ∀ (Ms : List (Nat → Nat → Int)) (r c : Nat → Int), num n r Ms c = dt n r (led n c (Ms.reverse.map tr))
  | [], _, _ => rfl
  | M :: Ms, r, c => by
    show num n (fv n r M) Ms c = _
    rw [num_right n Ms, adj, List.reverse_cons, List.map_append, led_app]
    rfl
theorem num_back (n : Nat) (Ms : List (Nat → Nat → Int)) (r c : Nat → Int) : num n c (Ms.reverse.map tr) r = num n r Ms c := by
  rw [num_right n Ms, dt_comm]
  rfl
/-- the text behind: M1 .. Mk on the column -/
theorem num_behind (n : Nat) (Ms Ns : List (Nat → Nat → Int)) (r c : Nat → Int) : num n r Ms (led n c (Ns.reverse.map tr)) = num n r (Ms ++ Ns) c := by
  show dt n (led n r Ms) _ = dt n (led n r (Ms ++ Ns)) c
  rw [led_app]
  exact (num_right n Ns (led n r Ms) c).symm
theorem num_ahead (n : Nat) (Ms Ns : List (Nat → Nat → Int)) (r c : Nat → Int) : num n (led n r Ms) Ns c = num n r (Ms ++ Ns) c := by
  show dt n (led n (led n r Ms) Ns) c = _
  rw [← led_app]
  rfl
/-! ### times a number -/
theorem led_scale (n : Nat) (k : Int) : ∀ (Ms : List (Nat → Nat → Int)) (r : Nat → Int), led n (fun i => k * r i) Ms = fun i => k * led n r Ms i
  | [], _ => rfl
  | M :: Ms, r => by
    have e : fv n (fun i => k * r i) M = fun j => k * fv n r M j := funext fun j => by
      show S n (fun i => k * r i * M i j) = k * S n _
      rw [← S_mulL]
      exact S_congr fun i _ => Int.mul_assoc ..
    show led n (fv n (fun i => k * r i) M) Ms = _
    rw [e, led_scale n k Ms]
    rfl
theorem num_scale (n : Nat) (k : Int) (Ms : List (Nat → Nat → Int)) (r c : Nat → Int) : num n (fun i => k * r i) Ms c = k * num n r Ms c := by
  show dt n (led n (fun i => k * r i) Ms) c = k * dt n (led n r Ms) c
  rw [led_scale]
  show S n (fun i => k * led n r Ms i * c i) = k * S n _
  rw [← S_mulL]
  exact S_congr fun i _ => Int.mul_assoc ..
/-! ### side by side -/
def cat (n : Nat) (r r' : Nat → Int) : Nat → Int := fun i => if i < n then r i else r' (i - n)
def blk (n : Nat) (A B : Nat → Nat → Int) : Nat → Nat → Int := fun i j => if i < n then (if j < n then A i j else 0) else (if j < n then 0 else B (i - n) (j - n))
theorem cat_lo {n i : Nat} {r r' : Nat → Int} (h : i < n) : cat n r r' i = r i := if_pos h
theorem cat_hi {n i : Nat} {r r' : Nat → Int} : cat n r r' (n + i) = r' i := by
  unfold cat
  rw [if_neg (by omega), Nat.add_sub_cancel_left]
theorem dt_cat (n m : Nat) (r r' c c' : Nat → Int) : dt (n + m) (cat n r r') (cat n c c') = dt n r c + dt m r' c' := by
  unfold dt
  rw [S_cat]
  have e1 : S n (fun i => cat n r r' i * cat n c c' i) = S n (fun i => r i * c i) := S_congr fun i hi => by rw [cat_lo hi, cat_lo hi]
  have e2 : S m (fun i => cat n r r' (n + i) * cat n c c' (n + i)) = S m (fun i => r' i * c' i) := S_congr fun i _ => by rw [cat_hi, cat_hi]
  rw [e1, e2]
theorem fv_blk (n m : Nat) (r r' : Nat → Int) (A B : Nat → Nat → Int) : fv (n + m) (cat n r r') (blk n A B) = cat n (fv n r A) (fv m r' B) := funext fun j => by
  show S (n + m) (fun i => cat n r r' i * blk n A B i j) = _
  rw [S_cat]
  by_cases h : j < n
  · have e1 : S n (fun i => cat n r r' i * blk n A B i j) = S n (fun i => r i * A i j) := S_congr fun i hi => by
      rw [cat_lo hi]
      unfold blk
      rw [if_pos hi, if_pos h]
    have e2 : S m (fun i => cat n r r' (n + i) * blk n A B (n + i) j) = 0 := (S_congr fun i _ => by
      unfold blk
      rw [if_neg (by omega), if_pos h, Int.mul_zero]).trans (S_zero m)
    rw [e1, e2, Int.add_zero, cat_lo h]
    rfl
  · have e1 : S n (fun i => cat n r r' i * blk n A B i j) = 0 := (S_congr fun i hi => by
      unfold blk
      rw [if_pos hi, if_neg h, Int.mul_zero]).trans (S_zero n)
    have e2 : S m (fun i => cat n r r' (n + i) * blk n A B (n + i) j) = S m (fun i => r' i * B i (j - n)) := S_congr fun i _ => by
      rw [cat_hi]
      unfold blk
      rw [if_neg (by omega), if_neg h, Nat.add_sub_cancel_left]
    rw [e1, e2, Int.zero_add]
    unfold cat
    rw [if_neg h]
    rfl
/-- the squares side by side, letter by letter -/
def blks (n : Nat) : List (Nat → Nat → Int) → List (Nat → Nat → Int) → List (Nat → Nat → Int)
  | A :: As, B :: Bs => blk n A B :: blks n As Bs
  | _, _ => []
theorem led_blk (n m : Nat) : ∀ {As Bs : List (Nat → Nat → Int)} {r r' : Nat → Int}, As.length = Bs.length → led (n + m) (cat n r r') (blks n As Bs) = cat n (led n r As) (led m r' Bs)
  | [], [], _, _, _ => rfl
  | A :: As, B :: Bs, r, r', h => by
    show led (n + m) (fv (n + m) (cat n r r') (blk n A B)) (blks n As Bs) = _
    rw [fv_blk, led_blk n m (Nat.succ.inj h)]
    rfl
  | [], _ :: _, _, _, h => nomatch h
  | _ :: _, [], _, _, h => nomatch h
theorem num_cat (n m : Nat) {As Bs : List (Nat → Nat → Int)} (h : As.length = Bs.length) (r r' c c' : Nat → Int) : num (n + m) (cat n r r') (blks n As Bs) (cat n c c') = num n r As c + num m r' Bs c' := by
  show dt (n + m) (led (n + m) (cat n r r') (blks n As Bs)) _ = _
  rw [led_blk n m h]
  exact dt_cat ..
/-! ### crossed -/
def prd (m : Nat) (r r' : Nat → Int) : Nat → Int := fun i => r (i / m) * r' (i % m)
def kro (m : Nat) (A B : Nat → Nat → Int) : Nat → Nat → Int := fun i j => A (i / m) (j / m) * B (i % m) (j % m)
theorem split_at {m a b : Nat} (h : b < m) : (a * m + b) / m = a ∧ (a * m + b) % m = b := by
  constructor
  · rw [Nat.mul_comm, Nat.mul_add_div (by omega), Nat.div_eq_of_lt h, Nat.add_zero]
  · rw [Nat.mul_comm, Nat.mul_add_mod, Nat.mod_eq_of_lt h]
theorem S_kro (n m : Nat) (f g : Nat → Int) : S (n * m) (fun i => f (i / m) * g (i % m)) = S n f * S m g := by
  rw [S_prod]
  have e : S n (fun a => S m (fun b => f ((a * m + b) / m) * g ((a * m + b) % m))) = S n (fun a => f a * S m g) := S_congr fun a _ => by
    rw [← S_mulL]
    exact S_congr fun b hb => by rw [(split_at hb).1, (split_at hb).2]
  rw [e, S_mulR]
theorem four (a b c d : Int) : a * b * (c * d) = a * c * (b * d) := by
  rw [Int.mul_assoc, Int.mul_assoc, ← Int.mul_assoc b, Int.mul_comm b c, Int.mul_assoc c]
theorem dt_prd (n m : Nat) (r r' c c' : Nat → Int) : dt (n * m) (prd m r r') (prd m c c') = dt n r c * dt m r' c' := by
  unfold dt
  rw [← S_kro]
  exact S_congr fun i _ => four ..
theorem fv_kro (n m : Nat) (r r' : Nat → Int) (A B : Nat → Nat → Int) : fv (n * m) (prd m r r') (kro m A B) = prd m (fv n r A) (fv m r' B) := funext fun j => by
  show S (n * m) (fun i => r (i / m) * r' (i % m) * (A (i / m) (j / m) * B (i % m) (j % m))) = S n (fun i => r i * A i (j / m)) * S m (fun i => r' i * B i (j % m))
  rw [← S_kro]
  exact S_congr fun i _ => four ..
def kros (m : Nat) : List (Nat → Nat → Int) → List (Nat → Nat → Int) → List (Nat → Nat → Int)
  | A :: As, B :: Bs => kro m A B :: kros m As Bs
  | _, _ => []
theorem led_kro (n m : Nat) : ∀ {As Bs : List (Nat → Nat → Int)} {r r' : Nat → Int}, As.length = Bs.length → led (n * m) (prd m r r') (kros m As Bs) = prd m (led n r As) (led m r' Bs)
  | [], [], _, _, _ => rfl
  | A :: As, B :: Bs, r, r', h => by
    show led (n * m) (fv (n * m) (prd m r r') (kro m A B)) (kros m As Bs) = _
    rw [fv_kro, led_kro n m (Nat.succ.inj h)]
    rfl
  | [], _ :: _, _, _, h => nomatch h
  | _ :: _, [], _, _, h => nomatch h
theorem num_prd (n m : Nat) {As Bs : List (Nat → Nat → Int)} (h : As.length = Bs.length) (r r' c c' : Nat → Int) : num (n * m) (prd m r r') (kros m As Bs) (prd m c c') = num n r As c * num m r' Bs c' := by
  show dt (n * m) (led (n * m) (prd m r r') (kros m As Bs)) _ = _
  rw [led_kro n m h]
  exact dt_prd ..
/-! ### rests -/
/-- the rest, if there is a prime -/
def rest (p : Option Int) (x : Int) : Int := match p with
  | none => x
  | some p => x % p
theorem rest_rest (p : Option Int) (x : Int) : rest p (rest p x) = rest p x := by
  cases p with
  | none => rfl
  | some p => exact Int.emod_emod_of_dvd x (Int.dvd_refl p)
theorem rest_add (p : Option Int) (x y : Int) : rest p (rest p x + rest p y) = rest p (x + y) := by
  cases p with
  | none => rfl
  | some p => exact (Int.add_emod x y p).symm
theorem rest_mul (p : Option Int) (x y : Int) : rest p (rest p x * rest p y) = rest p (x * y) := by
  cases p with
  | none => rfl
  | some p => exact (Int.mul_emod x y p).symm
/-- alike up to the rest -/
def Eqv (p : Option Int) (x y : Int) : Prop := rest p x = rest p y
theorem Eqv.add {p : Option Int} {x y z w : Int} (h : Eqv p x y) (k : Eqv p z w) : Eqv p (x + z) (y + w) := by
  unfold Eqv at *
  rw [← rest_add p x z, h, k, rest_add]
theorem Eqv.mul {p : Option Int} {x y z w : Int} (h : Eqv p x y) (k : Eqv p z w) : Eqv p (x * z) (y * w) := by
  unfold Eqv at *
  rw [← rest_mul p x z, h, k, rest_mul]
theorem Eqv.refl (p : Option Int) (x : Int) : Eqv p x x := rfl
theorem Eqv.of_rest (p : Option Int) (x : Int) : Eqv p (rest p x) x := rest_rest p x
theorem S_eqv {p : Option Int} : ∀ {n : Nat} {f g : Nat → Int}, (∀ i, i < n → Eqv p (f i) (g i)) → Eqv p (S n f) (S n g)
  | 0, _, _, _ => rfl
  | n + 1, f, g, h => (S_eqv fun i hi => h i (Nat.lt_succ_of_lt hi)).add (h n (Nat.lt_succ_self n))
theorem fv_eqv {p : Option Int} {n : Nat} {r r' : Nat → Int} {M M' : Nat → Nat → Int} (h : ∀ i, i < n → Eqv p (r i) (r' i)) (k : ∀ i j, i < n → j < n → Eqv p (M i j) (M' i j)) : ∀ j, j < n → Eqv p (fv n r M j) (fv n r' M' j) :=
  fun j hj => S_eqv fun i hi => (h i hi).mul (k i j hi hj)
theorem dt_eqv {p : Option Int} {n : Nat} {r r' c c' : Nat → Int} (h : ∀ i, i < n → Eqv p (r i) (r' i)) (k : ∀ i, i < n → Eqv p (c i) (c' i)) : Eqv p (dt n r c) (dt n r' c') := S_eqv fun i hi => (h i hi).mul (k i hi)
/-- a step with the rest taken -/
def fvR (p : Option Int) (n : Nat) (r : Nat → Int) (M : Nat → Nat → Int) : Nat → Int := fun j => rest p (fv n r M j)
def ledR (p : Option Int) (n : Nat) (r : Nat → Int) (Ms : List (Nat → Nat → Int)) : Nat → Int := Ms.foldl (fvR p n) r
inductive MsEqv (p : Option Int) (n : Nat) : List (Nat → Nat → Int) → List (Nat → Nat → Int) → Prop
  | nil : MsEqv p n [] []
  | cons {M M' : Nat → Nat → Int} {Ms Ms' : List (Nat → Nat → Int)} : (∀ i j, i < n → j < n → Eqv p (M i j) (M' i j)) → MsEqv p n Ms Ms' → MsEqv p n (M :: Ms) (M' :: Ms')
theorem MsEqv.refl (p : Option Int) (n : Nat) : ∀ Ms : List (Nat → Nat → Int), MsEqv p n Ms Ms
  | [] => .nil
  | _ :: Ms => .cons (fun _ _ _ _ => rfl) (MsEqv.refl p n Ms)
theorem led_eqv {p : Option Int} {n : Nat} {Ms Ms' : List (Nat → Nat → Int)} (m : MsEqv p n Ms Ms') : ∀ {r r' : Nat → Int}, (∀ i, i < n → Eqv p (r i) (r' i)) → ∀ i, i < n → Eqv p (led n r Ms i) (led n r' Ms' i) := by
  induction m with
  | nil => exact fun h => h
  | cons k _ ih => exact fun h => ih (fv_eqv h k)
theorem ledR_eqv {p : Option Int} {n : Nat} {Ms Ms' : List (Nat → Nat → Int)} (m : MsEqv p n Ms Ms') : ∀ {r r' : Nat → Int}, (∀ i, i < n → Eqv p (r i) (r' i)) → ∀ i, i < n → Eqv p (ledR p n r Ms i) (led n r' Ms' i) := by
  induction m with
  | nil => exact fun h => h
  | cons k _ ih => exact fun h => ih fun j hj => (Eqv.of_rest p _).trans (fv_eqv h k j hj)
/-- the number at a text: with rests on the way, or at the end alone -/
theorem num_rest {p : Option Int} {n : Nat} {Ms Ms' : List (Nat → Nat → Int)} (m : MsEqv p n Ms Ms') {r r' c c' : Nat → Int} (h : ∀ i, i < n → Eqv p (r i) (r' i)) (k : ∀ i, i < n → Eqv p (c i) (c' i)) : rest p (dt n (ledR p n r Ms) c) = rest p (num n r' Ms' c') :=
  dt_eqv (ledR_eqv m h) k
/-! ### lists -/
/-- a list as a function -/
def fn (l : List Int) : Nat → Int := fun i => l.getD i 0
def sq (A : List (List Int)) : Nat → Nat → Int := fun i j => (A.getD i []).getD j 0
def dotL (a b : List Int) : Int := (List.zipWith (· * ·) a b).sum
theorem S_shift : ∀ (n : Nat) (f : Nat → Int), S (n + 1) f = f 0 + S n (fun i => f (i + 1))
  | 0, f => by
    show 0 + f 0 = f 0 + 0
    omega
  | n + 1, f => by
    show S (n + 1) f + f (n + 1) = f 0 + (S n _ + f (n + 1))
    rw [S_shift n f]
    omega
theorem dot_fn : ∀ {a b : List Int}, a.length = b.length → dotL a b = dt a.length (fn a) (fn b)
  | [], [], _ => rfl
  | x :: a, y :: b, h => by
    have ih := dot_fn (a := a) (b := b) (Nat.succ.inj h)
    show (List.zipWith _ (x :: a) (y :: b)).sum = S (a.length + 1) _
    rw [S_shift, List.zipWith_cons_cons, List.sum_cons]
    exact congrArg (x * y + ·) ih
  | [], _ :: _, h => nomatch h
  | _ :: _, [], h => nomatch h
/-- a square of n rows of n numbers -/
structure Sq (n : Nat) (A : List (List Int)) : Prop where
  len : A.length = n
  row : ∀ r ∈ A, r.length = n
/-- turned: the columns as rows -/
def turned (n : Nat) (A : List (List Int)) : List (List Int) := (List.range n).map fun j => A.map fun r => r.getD j 0
theorem turned_sq {n : Nat} {A : List (List Int)} (h : Sq n A) : Sq n (turned n A) := ⟨by unfold turned; rw [List.length_map, List.length_range], fun r hr => by
  obtain ⟨j, _, rfl⟩ := List.mem_map.mp hr
  rw [List.length_map, h.len]⟩
theorem turned_at {n i j : Nat} {A : List (List Int)} (h : Sq n A) (hi : i < n) (hj : j < n) : sq (turned n A) i j = sq A j i := by
  have hA : j < A.length := by rw [h.len]; exact hj
  have e : (turned n A).getD i [] = A.map fun r => r.getD i 0 := by
    unfold turned
    rw [List.getD_eq_getElem?_getD, List.getElem?_map, List.getElem?_range hi]
    rfl
  unfold sq
  rw [e, List.getD_eq_getElem?_getD, List.getElem?_map, List.getElem?_eq_getElem hA]
  rw [List.getD_eq_getElem?_getD (l := A), List.getElem?_eq_getElem hA]
  rfl
/-- a row times the columns, as a list -/
def vmL (n : Nat) (r : List Int) (A : List (List Int)) : List Int := (turned n A).map (dotL r)
theorem vm_fn {n : Nat} {r : List Int} {A : List (List Int)} (hr : r.length = n) (hA : Sq n A) : (vmL n r A).length = n ∧ ∀ j, j < n → fn (vmL n r A) j = fv n (fn r) (sq A) j := by
  refine ⟨by unfold vmL; rw [List.length_map, (turned_sq hA).len], fun j hj => ?_⟩
  have e : fn (vmL n r A) j = dotL r (A.map fun r => r.getD j 0) := by
    unfold fn vmL turned
    rw [List.map_map, List.getD_eq_getElem?_getD, List.getElem?_map, List.getElem?_range hj]
    rfl
  rw [e, dot_fn (by rw [List.length_map, hA.len, hr]), hr]
  refine S_congr fun i hi => ?_
  have hA2 : i < A.length := by rw [hA.len]; exact hi
  show fn r i * fn (A.map fun r => r.getD j 0) i = fn r i * sq A i j
  congr 1
  unfold fn sq
  rw [List.getD_eq_getElem?_getD, List.getElem?_map, List.getElem?_eq_getElem hA2, List.getD_eq_getElem?_getD, List.getD_eq_getElem?_getD, List.getElem?_eq_getElem hA2]
  rfl
theorem fn_app {a b : List Int} : ∀ i, fn (a ++ b) i = cat a.length (fn a) (fn b) i := fun i => by
  unfold fn cat
  rw [List.getD_eq_getElem?_getD]
  by_cases h : i < a.length
  · rw [List.getElem?_append_left h, if_pos h]
    exact (List.getD_eq_getElem?_getD ..).symm
  · rw [List.getElem?_append_right (by omega), if_neg h]
    exact (List.getD_eq_getElem?_getD ..).symm
theorem fn_zeros (n i : Nat) : fn (List.replicate n 0) i = 0 := by
  unfold fn
  rw [List.getD_eq_getElem?_getD, List.getElem?_replicate]
  split <;> rfl
/-- two squares side by side -/
def joinL (A B : List (List Int)) : List (List Int) := A.map (fun r => r ++ List.replicate B.length 0) ++ B.map (fun r => List.replicate A.length 0 ++ r)
theorem join_sq {n m : Nat} {A B : List (List Int)} (hA : Sq n A) (hB : Sq m B) : Sq (n + m) (joinL A B) := ⟨by unfold joinL; rw [List.length_append, List.length_map, List.length_map, hA.len, hB.len], fun r hr => by
  rcases List.mem_append.mp hr with hr | hr
  · obtain ⟨s, hs, rfl⟩ := List.mem_map.mp hr
    rw [List.length_append, List.length_replicate, hA.row s hs, hB.len]
  · obtain ⟨s, hs, rfl⟩ := List.mem_map.mp hr
    rw [List.length_append, List.length_replicate, hB.row s hs, hA.len]⟩
theorem join_at {n m : Nat} {A B : List (List Int)} (hA : Sq n A) (hB : Sq m B) (i j : Nat) (hi : i < n + m) : sq (joinL A B) i j = blk n (sq A) (sq B) i j := by
  unfold blk
  by_cases h : i < n
  · rw [if_pos h]
    have hA2 : i < A.length := by rw [hA.len]; exact h
    have e : (joinL A B).getD i [] = A[i] ++ List.replicate B.length 0 := by
      unfold joinL
      rw [List.getD_eq_getElem?_getD, List.getElem?_append_left (by rw [List.length_map]; exact hA2), List.getElem?_map, List.getElem?_eq_getElem hA2]
      rfl
    have e2 : A.getD i [] = A[i] := by rw [List.getD_eq_getElem?_getD, List.getElem?_eq_getElem hA2]; rfl
    have el : A[i].length = n := hA.row _ (List.getElem_mem hA2)
    show fn ((joinL A B).getD i []) j = _
    rw [e, fn_app, el]
    unfold cat
    by_cases hj : j < n
    · rw [if_pos hj, if_pos hj]
      show fn A[i] j = fn (A.getD i []) j
      rw [e2]
    · rw [if_neg hj, if_neg hj, fn_zeros]
  · rw [if_neg h]
    have hB2 : i - n < B.length := by rw [hB.len]; omega
    have e : (joinL A B).getD i [] = List.replicate A.length 0 ++ B[i - n] := by
      unfold joinL
      rw [List.getD_eq_getElem?_getD, List.getElem?_append_right (by rw [List.length_map, hA.len]; omega), List.length_map, hA.len, List.getElem?_map, List.getElem?_eq_getElem hB2]
      rfl
    have e2 : B.getD (i - n) [] = B[i - n] := by rw [List.getD_eq_getElem?_getD, List.getElem?_eq_getElem hB2]; rfl
    show fn ((joinL A B).getD i []) j = _
    rw [e, fn_app, List.length_replicate, hA.len]
    unfold cat
    by_cases hj : j < n
    · rw [if_pos hj, if_pos hj, fn_zeros]
    · rw [if_neg hj, if_neg hj]
      show fn B[i - n] (j - n) = fn (B.getD (i - n) []) (j - n)
      rw [e2]
/-- each of one with each of the other -/
def each {α β γ : Type} (f : α → β → γ) (a : List α) (b : List β) : List γ := (a.map fun x => b.map fun y => f x y).flatten
theorem each_len {α β γ : Type} {f : α → β → γ} {a : List α} {b : List β} : (each f a b).length = a.length * b.length := by
  unfold each
  induction a with
  | nil => simp
  | cons x a ih => rw [List.map_cons, List.flatten_cons, List.length_append, ih, List.length_map, List.length_cons, Nat.succ_mul, Nat.add_comm]
theorem each_at {α β γ : Type} {f : α → β → γ} {b : List β} : ∀ {a : List α} {i : Nat} (h : i < a.length * b.length), (each f a b)[i]? = some (f (a[i / b.length]'(Nat.div_lt_of_lt_mul (by rw [Nat.mul_comm]; exact h))) (b[i % b.length]'(Nat.mod_lt _ (by
    rcases Nat.eq_zero_or_pos b.length with e | e
    · rw [e, Nat.mul_zero] at h; omega
    · exact e))))
  | [], i, h => by simp at h
  | x :: a, i, h => by
    have hb : 0 < b.length := by
      rcases Nat.eq_zero_or_pos b.length with e | e
      · rw [e, Nat.mul_zero] at h; omega
      · exact e
    show (b.map (fun y => f x y) ++ each f a b)[i]? = _
    by_cases hi : i < b.length
    · rw [List.getElem?_append_left (by rw [List.length_map]; exact hi), List.getElem?_map, List.getElem?_eq_getElem hi]
      have e1 : i / b.length = 0 := Nat.div_eq_of_lt hi
      have e2 : i % b.length = i := Nat.mod_eq_of_lt hi
      simp [e1, e2]
    · rw [List.getElem?_append_right (by rw [List.length_map]; omega), List.length_map]
      rw [List.length_cons, Nat.succ_mul] at h
      rw [each_at (a := a) (i := i - b.length) (by omega)]
      have e1 : i / b.length = (i - b.length) / b.length + 1 := by rw [Nat.div_eq i b.length, if_pos ⟨hb, by omega⟩]
      have e2 : i % b.length = (i - b.length) % b.length := (Nat.mod_eq_sub_mod (by omega))
      simp [e1, e2]
/-- a row crossed with a row -/
def crossR (a b : List Int) : List Int := each (· * ·) a b
theorem crossR_fn {a b : List Int} {i : Nat} (h : i < a.length * b.length) : fn (crossR a b) i = prd b.length (fn a) (fn b) i := by
  have hb : 0 < b.length := by
    rcases Nat.eq_zero_or_pos b.length with e | e
    · rw [e, Nat.mul_zero] at h; omega
    · exact e
  have h1 : i / b.length < a.length := Nat.div_lt_of_lt_mul (by rw [Nat.mul_comm]; exact h)
  have h2 : i % b.length < b.length := Nat.mod_lt _ hb
  show (crossR a b).getD i 0 = a.getD (i / b.length) 0 * b.getD (i % b.length) 0
  unfold crossR
  rw [List.getD_eq_getElem?_getD, each_at h, List.getD_eq_getElem?_getD, List.getD_eq_getElem?_getD, List.getElem?_eq_getElem h1, List.getElem?_eq_getElem h2]
  rfl
/-- a square crossed with a square -/
def crossL (A B : List (List Int)) : List (List Int) := each crossR A B
theorem cross_sq {n m : Nat} {A B : List (List Int)} (hA : Sq n A) (hB : Sq m B) : Sq (n * m) (crossL A B) := ⟨by unfold crossL; rw [each_len, hA.len, hB.len], fun r hr => by
  obtain ⟨l, hl, hr⟩ := List.mem_flatten.mp hr
  obtain ⟨x, hx, rfl⟩ := List.mem_map.mp hl
  obtain ⟨y, hy, rfl⟩ := List.mem_map.mp hr
  show (each _ x y).length = _
  rw [each_len, hA.row x hx, hB.row y hy]⟩
theorem cross_at {n m : Nat} {A B : List (List Int)} (hA : Sq n A) (hB : Sq m B) (i j : Nat) (hi : i < n * m) (hj : j < n * m) : sq (crossL A B) i j = kro m (sq A) (sq B) i j := by
  have hm : 0 < m := by
    rcases Nat.eq_zero_or_pos m with e | e
    · rw [e, Nat.mul_zero] at hi; omega
    · exact e
  have h : i < A.length * B.length := by rw [hA.len, hB.len]; exact hi
  have h1 : i / m < A.length := by rw [hA.len]; exact Nat.div_lt_of_lt_mul (by rw [Nat.mul_comm]; exact hi)
  have h2 : i % m < B.length := by rw [hB.len]; exact Nat.mod_lt _ hm
  have e : (crossL A B).getD i [] = crossR A[i / m] B[i % m] := by
    unfold crossL
    rw [List.getD_eq_getElem?_getD, each_at h]
    simp [hB.len]
  have l1 : A[i / m].length = n := hA.row _ (List.getElem_mem h1)
  have l2 : B[i % m].length = m := hB.row _ (List.getElem_mem h2)
  have a1 : A.getD (i / m) [] = A[i / m] := by rw [List.getD_eq_getElem?_getD, List.getElem?_eq_getElem h1]; rfl
  have b1 : B.getD (i % m) [] = B[i % m] := by rw [List.getD_eq_getElem?_getD, List.getElem?_eq_getElem h2]; rfl
  show fn ((crossL A B).getD i []) j = (A.getD (i / m) []).getD (j / m) 0 * (B.getD (i % m) []).getD (j % m) 0
  rw [e, crossR_fn (by rw [l1, l2]; exact hj), l2, a1, b1]
  rfl
end Ty

set_option Elab.async false
set_option linter.all false
set_option maxRecDepth 100000
set_option maxHeartbeats 3200000
/-! comprehensions, ready forms -/
namespace Lc
open PySem L2 Tx Tg Tm RZ
theorem same_upd {H : Hp} {p : Addr} {o : HO} (h : H p = none) : Same H (upd H p o) := fun b u e => by
  rw [upd_ne (fun q => by rw [q, h] at e; cases e)]
  exact e
theorem same_put {H H' : Hp} {D : Addr} {o : HO} (s : Same H H') (n : H D = none) : Same H (upd H' D o) := fun b u e => by
  rw [upd_ne (ne_of_none e n)]
  exact s b u e
theorem sqT_same {K : PySem.W.Frag} {H H' : Hp} {a : Addr} {xs : List V} (s : Same H H') (h : SqT K H a xs) : SqT K H' a xs := by
  rcases h with h | h
  · rcases h with h | ⟨o, h⟩
    · exact .inl (.inl (s _ _ h))
    · exact .inl (.inr ⟨o, s _ _ h⟩)
  · exact .inr h
section
variable {K : PySem.W.Frag} {te : TE} {σ : L2.St} {H1 : Hp} {D : Addr} {Qd : Hp → Prop} {j : Nat} {xs ys : List V} {a b : Addr}
/-- [f(x) for x in t], a value for each item -/
theorem lcTS (ha : SqT K H1 a xs) (nD : H1 D = none) (hl : xs.length = ys.length) (hz : xs.length < sizeLine) (hw : ∀ v, wipe ((wipe σ [j]).set j (some v)) [j] = wipe σ [j])
    (hs : ∀ (i : Nat) (x y : V) (H2 : Hp), xs[i]? = some x → ys[i]? = some y → Same H1 H2 → ∀ Q : VK, (∀ H3, Same H2 H3 → Q y H3) → te ((wipe σ [j]).set j (some x)) H2 Q) (hd : ∀ H2, Same H1 H2 → H2 D = some (.lst ys) → Qd H2) :
    ∃ W : Nat → Nat → Hp → Prop, (∃ m, W 0 m (upd H1 D (.lst []))) ∧ ∀ i m H, W i m H →
      ((Itt K a).stop i H ∧ Qd H) ∨ ((Itt K a).go i H ∧ ∃ Nx : Hp → Prop, (∀ H', Nx H' → ∃ m', m' < m ∧ W (i + 1) m' H') ∧ ∀ x H', (Itt K a).yld i H x H' → gName j x (wipe σ [j]) H' fun σ2 H2 => wipe σ2 [j] = wipe σ [j] ∧ tYes σ2 H2 fun b H3 =>
        if b = true then te σ2 H3 fun y H4 => ∃ acc, H4 D = some (.lst acc) ∧ acc.length < sizeLine ∧ Nx (upd H4 D (.lst (acc ++ [y]))) else Nx H3) := by
  refine lc_tup (xs := xs) (fun i H2 => Same H1 H2 ∧ H2 D = some (.lst (ys.take i))) ⟨same_upd nD, upd_same⟩ (fun i H2 _ z => sqT_same z.1 ha) ?_ ?_
  · rintro i x H2 hx ⟨s2, e2⟩
    have hi := (List.getElem?_eq_some_iff.mp hx).1
    have hy := List.getElem?_eq_getElem (l := ys) (i := i) (by omega)
    refine ⟨hw _, iteT (B := False) ?_⟩
    refine hs i x _ H2 hx hy s2 _ fun H3 s3 => ⟨_, s3 _ _ e2, ?_, same_put (s2.trans s3) nD, ?_⟩
    · rw [List.length_take]
      exact Nat.lt_of_le_of_lt (Nat.min_le_left _ _) (Nat.lt_trans hi hz)
    · rw [upd_same, List.take_add_one, hy]
      rfl
  · rintro H2 ⟨s2, e2⟩
    rw [hl, List.take_of_length_le (Nat.le_refl _)] at e2
    exact hd H2 s2 e2
/-- [f(k) for k in range(n)] -/
theorem lcRS {n : Nat} {lo : Int} (nD : H1 D = none) (hl : n = ys.length) (hz : n < sizeLine) (hw : ∀ v, wipe ((wipe σ [j]).set j (some v)) [j] = wipe σ [j])
    (hs : ∀ (i : Nat) (y : V) (H2 : Hp), i < n → ys[i]? = some y → Same H1 H2 → ∀ Q : VK, (∀ H3, Same H2 H3 → Q y H3) → te ((wipe σ [j]).set j (some (.int (lo + i)))) H2 Q) (hd : ∀ H2, Same H1 H2 → H2 D = some (.lst ys) → Qd H2) :
    ∃ W : Nat → Nat → Hp → Prop, (∃ m, W 0 m (upd H1 D (.lst []))) ∧ ∀ i m H, W i m H →
      ((Itr lo n).stop i H ∧ Qd H) ∨ ((Itr lo n).go i H ∧ ∃ Nx : Hp → Prop, (∀ H', Nx H' → ∃ m', m' < m ∧ W (i + 1) m' H') ∧ ∀ x H', (Itr lo n).yld i H x H' → gName j x (wipe σ [j]) H' fun σ2 H2 => wipe σ2 [j] = wipe σ [j] ∧ tYes σ2 H2 fun b H3 =>
        if b = true then te σ2 H3 fun y H4 => ∃ acc, H4 D = some (.lst acc) ∧ acc.length < sizeLine ∧ Nx (upd H4 D (.lst (acc ++ [y]))) else Nx H3) := by
  refine lc_range (fun i H2 => Same H1 H2 ∧ H2 D = some (.lst (ys.take i))) ⟨same_upd nD, upd_same⟩ ?_ ?_
  · rintro i H2 hi ⟨s2, e2⟩
    have hy := List.getElem?_eq_getElem (l := ys) (i := i) (by omega)
    refine ⟨hw _, iteT (B := False) ?_⟩
    refine hs i _ H2 hi hy s2 _ fun H3 s3 => ⟨_, s3 _ _ e2, ?_, same_put (s2.trans s3) nD, ?_⟩
    · rw [List.length_take]
      exact Nat.lt_of_le_of_lt (Nat.min_le_left _ _) (Nat.lt_trans hi hz)
    · rw [upd_same, List.take_add_one, hy]
      rfl
  · rintro H2 ⟨s2, e2⟩
    rw [hl, List.take_of_length_le (Nat.le_refl _)] at e2
    exact hd H2 s2 e2
/-- [draw for k in range(n)]: all else but one object stays -/
theorem lcRD {n : Nat} {lo : Int} {c : Addr} {I : Hp → Prop} {P : Nat → V → Prop} (nD : H1 D = none) (nDc : D ≠ c) (h0 : I (upd H1 D (.lst []))) (hz : n < sizeLine) (hw : ∀ v, wipe ((wipe σ [j]).set j (some v)) [j] = wipe σ [j])
    (hI : ∀ H o, I H → I (upd H D o))
    (hs : ∀ i H2, i < n → I H2 → (∀ b o, b ≠ c → H1 b = some o → H2 b = some o) → ∀ Q : VK, (∀ y H3, P i y → I H3 → (∀ b o, b ≠ c → H2 b = some o → H3 b = some o) → Q y H3) → te ((wipe σ [j]).set j (some (.int (lo + i)))) H2 Q)
    (hd : ∀ H2 zs, I H2 → (∀ b o, b ≠ c → H1 b = some o → H2 b = some o) → H2 D = some (.lst zs) → zs.length = n → (∀ i y, zs[i]? = some y → P i y) → Qd H2) :
    ∃ W : Nat → Nat → Hp → Prop, (∃ m, W 0 m (upd H1 D (.lst []))) ∧ ∀ i m H, W i m H →
      ((Itr lo n).stop i H ∧ Qd H) ∨ ((Itr lo n).go i H ∧ ∃ Nx : Hp → Prop, (∀ H', Nx H' → ∃ m', m' < m ∧ W (i + 1) m' H') ∧ ∀ x H', (Itr lo n).yld i H x H' → gName j x (wipe σ [j]) H' fun σ2 H2 => wipe σ2 [j] = wipe σ [j] ∧ tYes σ2 H2 fun b H3 =>
        if b = true then te σ2 H3 fun y H4 => ∃ acc, H4 D = some (.lst acc) ∧ acc.length < sizeLine ∧ Nx (upd H4 D (.lst (acc ++ [y]))) else Nx H3) := by
  refine lc_range (fun i H2 => I H2 ∧ (∀ b o, b ≠ c → H1 b = some o → H2 b = some o) ∧ ∃ zs, H2 D = some (.lst zs) ∧ zs.length = i ∧ ∀ k y, zs[k]? = some y → P k y) ⟨h0, fun b o _ e => same_upd nD _ _ e, [], upd_same, rfl, fun k y e => nomatch e⟩ ?_ ?_
  · rintro i H2 hi ⟨i2, b2, zs, e2, hl, hp⟩
    refine ⟨hw _, iteT (B := False) ?_⟩
    refine hs i H2 hi i2 b2 _ fun y H3 hy i3 b3 => ⟨_, b3 _ _ nDc e2, by omega, hI _ _ i3, fun b o nb e => ?_, zs ++ [y], upd_same, by rw [List.length_append, hl]; rfl, fun k z hk => ?_⟩
    · rw [upd_ne (ne_of_none e nD)]
      exact b3 _ _ nb (b2 _ _ nb e)
    · by_cases h : k < zs.length
      · rw [List.getElem?_append_left h] at hk
        exact hp k z hk
      · rw [List.getElem?_append_right (by omega)] at hk
        have hk1 := (List.getElem?_eq_some_iff.mp hk).1
        have hk0 : k - zs.length = 0 := by
          rw [List.length_singleton] at hk1
          omega
        rw [hk0] at hk
        cases hk
        have : k = i := by omega
        rw [this]
        exact hy
  · rintro H2 ⟨i2, b2, zs, e2, hl, hp⟩
    exact hd H2 zs i2 b2 e2 hl hp
end
/-- a comprehension over two rows that walk together, as far as the shorter one -/
theorem lc_zipT {K : PySem.W.Frag} {a b : Addr} {xs ys : List V} {g : TG} {tt : TT} {te : TE} {vs : List Nat} {σ : L2.St} {H1 : Hp} {D : Addr} {Qd : Hp → Prop} (hl : ys.length ≤ xs.length) (Pv : Nat → Hp → Prop) (h0 : Pv 0 (upd H1 D (.lst []))) (hq : ∀ i H, Pv i H → SqT K H a xs ∧ SqT K H b ys)
    (hs : ∀ (i : Nat) (x y : V) (T : Addr) (H : Hp), xs[i]? = some x → ys[i]? = some y → Pv i H → H T = none → g (.ref T) (wipe σ vs) (upd H T (.tup [x, y])) fun σ2 H2 => wipe σ2 vs = wipe σ vs ∧ tt σ2 H2 fun b H3 =>
      if b = true then te σ2 H3 fun y H4 => ∃ acc, H4 D = some (.lst acc) ∧ acc.length < sizeLine ∧ Pv (i + 1) (upd H4 D (.lst (acc ++ [y]))) else Pv (i + 1) H3) (hd : ∀ H, Pv ys.length H → Qd H) :
    ∃ W : Nat → Nat → Hp → Prop, (∃ m, W 0 m (upd H1 D (.lst []))) ∧ ∀ i m H, W i m H →
      ((ItzT K a b).stop i H ∧ Qd H) ∨ ((ItzT K a b).go i H ∧ ∃ Nx : Hp → Prop, (∀ H', Nx H' → ∃ m', m' < m ∧ W (i + 1) m' H') ∧ ∀ x H', (ItzT K a b).yld i H x H' → g x (wipe σ vs) H' fun σ2 H2 => wipe σ2 vs = wipe σ vs ∧ tt σ2 H2 fun b H3 =>
        if b = true then te σ2 H3 fun y H4 => ∃ acc, H4 D = some (.lst acc) ∧ acc.length < sizeLine ∧ Nx (upd H4 D (.lst (acc ++ [y]))) else Nx H3) := by
  refine ⟨fun i m H => m = ys.length - i ∧ i ≤ ys.length ∧ Pv i H, ⟨ys.length, by simp, Nat.zero_le _, h0⟩, ?_⟩
  rintro i m H ⟨rfl, hi, p⟩
  obtain ⟨qx, qy⟩ := hq i H p
  by_cases hlt : i < ys.length
  · have hx : xs[i]? = some xs[i] := List.getElem?_eq_getElem (by omega)
    have hy : ys[i]? = some ys[i] := List.getElem?_eq_getElem hlt
    refine .inr ⟨⟨xs, ys, _, _, qx, qy, hx, hy⟩, Pv (i + 1), fun H' p' => ⟨ys.length - (i + 1), by omega, rfl, hlt, p'⟩, fun v H' y => ?_⟩
    obtain ⟨T, x', y', rfl, hT, rfl, f1, f2⟩ := y
    exact hs i x' y' T H (f1 xs qx) (f2 ys qy) p hT
  · have e : i = ys.length := by omega
    subst e
    exact .inl ⟨⟨xs, ys, qx, qy, Or.inr (Nat.le_refl _)⟩, hd H p⟩
theorem lc_text {x : Str} {g : TG} {tt : TT} {te : TE} {vs : List Nat} {σ : L2.St} {H1 : Hp} {D : Addr} {Qd : Hp → Prop} (Pv : Nat → Hp → Prop) (h0 : Pv 0 (upd H1 D (.lst [])))
    (hs : ∀ i c H, (cds x)[i]? = some c → Pv i H → g (.str (one c)) (wipe σ vs) H fun σ2 H2 => wipe σ2 vs = wipe σ vs ∧ tt σ2 H2 fun b H3 =>
      if b = true then te σ2 H3 fun y H4 => ∃ acc, H4 D = some (.lst acc) ∧ acc.length < sizeLine ∧ Pv (i + 1) (upd H4 D (.lst (acc ++ [y]))) else Pv (i + 1) H3) (hd : ∀ H, Pv (cds x).length H → Qd H) :
    ∃ W : Nat → Nat → Hp → Prop, (∃ m, W 0 m (upd H1 D (.lst []))) ∧ ∀ i m H, W i m H →
      ((Its x).stop i H ∧ Qd H) ∨ ((Its x).go i H ∧ ∃ Nx : Hp → Prop, (∀ H', Nx H' → ∃ m', m' < m ∧ W (i + 1) m' H') ∧ ∀ v H', (Its x).yld i H v H' → g v (wipe σ vs) H' fun σ2 H2 => wipe σ2 vs = wipe σ vs ∧ tt σ2 H2 fun b H3 =>
        if b = true then te σ2 H3 fun y H4 => ∃ acc, H4 D = some (.lst acc) ∧ acc.length < sizeLine ∧ Nx (upd H4 D (.lst (acc ++ [y]))) else Nx H3) := by
  have hz : x.cps.size = (cds x).length := (Array.length_toList).symm
  refine ⟨fun i m H => m = (cds x).length - i ∧ i ≤ (cds x).length ∧ Pv i H, ⟨(cds x).length, by simp, Nat.zero_le _, h0⟩, ?_⟩
  rintro i m H ⟨rfl, hi, p⟩
  by_cases hlt : i < (cds x).length
  · refine .inr ⟨by show i < x.cps.size; omega, Pv (i + 1), fun H' p' => ⟨(cds x).length - (i + 1), by omega, rfl, hlt, p'⟩, ?_⟩
    rintro v H' ⟨e, c, hc, e2⟩
    subst e
    subst e2
    exact hs i c _ (by rw [Array.getElem?_toList]; exact hc) p
  · have e : i = (cds x).length := by omega
    subst e
    exact .inl ⟨by show x.cps.size ≤ _; omega, hd H p⟩
theorem for_text {x : Str} {g : TG} {tb : TS} {D : Ends} {σ : L2.St} {H : Hp} (Pv : Nat → L2.St → Hp → Prop) (h0 : Pv 0 σ H)
    (hs : ∀ i c σ H, (cds x)[i]? = some c → Pv i σ H → g (.str (one c)) σ H fun σ2 H2 => tb { D with nx := Pv (i + 1), ct := Pv (i + 1), bk := D.nx } σ2 H2) (hd : ∀ σ H, Pv (cds x).length σ H → D.nx σ H) :
    ∃ W : Nat → Nat → L2.St → Hp → Prop, (∃ m, W 0 m σ H) ∧ ∀ i m σ H, W i m σ H →
      ((Its x).stop i H ∧ D.nx σ H) ∨ ((Its x).go i H ∧ ∃ N : L2.St → Hp → Prop, (∀ σ' H', N σ' H' → ∃ m', m' < m ∧ W (i + 1) m' σ' H') ∧ ∀ v H', (Its x).yld i H v H' → g v σ H' fun σ2 H2 => tb { D with nx := N, ct := N, bk := D.nx } σ2 H2) := by
  have hz : x.cps.size = (cds x).length := (Array.length_toList).symm
  refine ⟨fun i m σ H => m = (cds x).length - i ∧ i ≤ (cds x).length ∧ Pv i σ H, ⟨(cds x).length, by simp, Nat.zero_le _, h0⟩, ?_⟩
  rintro i m σ H ⟨rfl, hi, p⟩
  by_cases hlt : i < (cds x).length
  · refine .inr ⟨by show i < x.cps.size; omega, Pv (i + 1), fun σ' H' p' => ⟨(cds x).length - (i + 1), by omega, rfl, hlt, p'⟩, ?_⟩
    rintro v H' ⟨e, c, hc, e2⟩
    subst e
    subst e2
    exact hs i c _ _ (by rw [Array.getElem?_toList]; exact hc) p
  · have e : i = (cds x).length := by omega
    subst e
    exact .inl ⟨by show x.cps.size ≤ _; omega, hd _ H p⟩
/-- {k: v for c in text} -/
theorem dc_text {x : Str} {g : TG} {tt : TT} {tk tv : TE} {vs : List Nat} {σ : L2.St} {H1 : Hp} {D : Addr} {Qd : Hp → Prop} (Pv : Nat → Hp → Prop) (h0 : Pv 0 (upd H1 D (.dK [])))
    (hs : ∀ i c H, (cds x)[i]? = some c → Pv i H → g (.str (one c)) (wipe σ vs) H fun σ2 H2 => wipe σ2 vs = wipe σ vs ∧ tt σ2 H2 fun b H3 =>
      if b = true then tk σ2 H3 fun y H4 => tv σ2 H4 fun z H5 => ∃ kvs k, y = kV k ∧ H5 D = some (.dK kvs) ∧ kvs.length < sizeLine ∧ Pv (i + 1) (upd H5 D (.dK (putK kvs k z))) else Pv (i + 1) H3) (hd : ∀ H, Pv (cds x).length H → Qd H) :
    ∃ W : Nat → Nat → Hp → Prop, (∃ m, W 0 m (upd H1 D (.dK []))) ∧ ∀ i m H, W i m H →
      ((Its x).stop i H ∧ Qd H) ∨ ((Its x).go i H ∧ ∃ Nx : Hp → Prop, (∀ H', Nx H' → ∃ m', m' < m ∧ W (i + 1) m' H') ∧ ∀ v H', (Its x).yld i H v H' → g v (wipe σ vs) H' fun σ2 H2 => wipe σ2 vs = wipe σ vs ∧ tt σ2 H2 fun b H3 =>
        if b = true then tk σ2 H3 fun y H4 => tv σ2 H4 fun z H5 => ∃ kvs k, y = kV k ∧ H5 D = some (.dK kvs) ∧ kvs.length < sizeLine ∧ Nx (upd H5 D (.dK (putK kvs k z))) else Nx H3) := by
  have hz : x.cps.size = (cds x).length := (Array.length_toList).symm
  refine ⟨fun i m H => m = (cds x).length - i ∧ i ≤ (cds x).length ∧ Pv i H, ⟨(cds x).length, by simp, Nat.zero_le _, h0⟩, ?_⟩
  rintro i m H ⟨rfl, hi, p⟩
  by_cases hlt : i < (cds x).length
  · refine .inr ⟨by show i < x.cps.size; omega, Pv (i + 1), fun H' p' => ⟨(cds x).length - (i + 1), by omega, rfl, hlt, p'⟩, ?_⟩
    rintro v H' ⟨e, c, hc, e2⟩
    subst e
    subst e2
    exact hs i c _ (by rw [Array.getElem?_toList]; exact hc) p
  · have e : i = (cds x).length := by omega
    subst e
    exact .inl ⟨by show x.cps.size ≤ _; omega, hd H p⟩
end Lc

set_option Elab.async false
set_option linter.all false
set_option maxRecDepth 100000
set_option maxHeartbeats 3200000
/-! comprehensions that give new tuples -/
namespace Lc
open PySem L2 Tx Tg Tm RZ
/-- tuples stay -/
def KT (H H' : Hp) : Prop := ∀ q xs, H q = some (.tup xs) → H' q = some (.tup xs)
theorem each_app {α β : Type} {R : α → β → Prop} : ∀ {as as' : List α} {bs bs' : List β}, PySem.W.EachIs R as bs → PySem.W.EachIs R as' bs' → PySem.W.EachIs R (as ++ as') (bs ++ bs')
  | _, _, _, _, .nil, k => k
  | _, _, _, _, .cons r t, k => .cons r (each_app t k)
section
variable {α : Type} {R : Hp → Addr → α → Prop} (hR : ∀ H H' p x, KT H H' → R H p x → R H' p x) {K : PySem.W.Frag} {te : TE} {σ : L2.St} {H1 : Hp} {D : Addr} {Qd : Hp → Prop} {j : Nat} {xs : List V} {ys : List α} {a b : Addr}
include hR
theorem lcTR (ha : SqT K H1 a xs) (nD : H1 D = none) (hl : xs.length = ys.length) (hz : xs.length < sizeLine) (hw : ∀ v, wipe ((wipe σ [j]).set j (some v)) [j] = wipe σ [j])
    (hs : ∀ (i : Nat) (x : V) (y : α) (H2 : Hp), xs[i]? = some x → ys[i]? = some y → Same H1 H2 → ∀ Q : VK, (∀ b H3, Same H2 H3 → R H3 b y → Q (.ref b) H3) → te ((wipe σ [j]).set j (some x)) H2 Q) (hd : ∀ H2 ps, Same H1 H2 → H2 D = some (.lst (ps.map V.ref)) → PySem.W.EachIs (R H2) ps ys → Qd H2) :
    ∃ W : Nat → Nat → Hp → Prop, (∃ m, W 0 m (upd H1 D (.lst []))) ∧ ∀ i m H, W i m H →
      ((Itt K a).stop i H ∧ Qd H) ∨ ((Itt K a).go i H ∧ ∃ Nx : Hp → Prop, (∀ H', Nx H' → ∃ m', m' < m ∧ W (i + 1) m' H') ∧ ∀ x H', (Itt K a).yld i H x H' → gName j x (wipe σ [j]) H' fun σ2 H2 => wipe σ2 [j] = wipe σ [j] ∧ tYes σ2 H2 fun b H3 =>
        if b = true then te σ2 H3 fun y H4 => ∃ acc, H4 D = some (.lst acc) ∧ acc.length < sizeLine ∧ Nx (upd H4 D (.lst (acc ++ [y]))) else Nx H3) := by
  refine lc_tup (xs := xs) (fun i H2 => ∃ ps : List Addr, Same H1 H2 ∧ H2 D = some (.lst (ps.map V.ref)) ∧ PySem.W.EachIs (R H2) ps (ys.take i)) ⟨[], same_upd nD, upd_same, .nil⟩ (fun i H2 _ z => by obtain ⟨_, s, _⟩ := z; exact sqT_same s ha) ?_ ?_
  · rintro i x H2 hx ⟨ps, s2, e2, r2⟩
    have hi := (List.getElem?_eq_some_iff.mp hx).1
    have hy := List.getElem?_eq_getElem (l := ys) (i := i) (by omega)
    refine ⟨hw _, iteT (B := False) ?_⟩
    refine hs i x _ H2 hx hy s2 _ fun b H3 s3 hb => ⟨_, s3 _ _ e2, ?_, ps ++ [b], same_put (s2.trans s3) nD, ?_, ?_⟩
    · rw [List.length_map, r2.length, List.length_take]
      exact Nat.lt_of_le_of_lt (Nat.min_le_left _ _) (by omega)
    · rw [upd_same, List.map_append]
      rfl
    · have k : KT H2 (upd H3 D (.lst (ps.map V.ref ++ [V.ref b]))) := fun q xs e => by
        rw [upd_ne (fun z => by rw [z, e2] at e; cases e)]
        exact s3 _ _ e
      have k3 : KT H3 (upd H3 D (.lst (ps.map V.ref ++ [V.ref b]))) := fun q xs e => by
        rw [upd_ne (fun z => by rw [z, s3 _ _ e2] at e; cases e)]
        exact e
      rw [List.take_add_one, hy]
      exact each_app (PySem.W.EachIs.mono (fun _ _ h => hR _ _ _ _ k h) r2) (.cons (hR _ _ _ _ k3 hb) .nil)
  · rintro H2 ⟨ps, s2, e2, r2⟩
    rw [hl, List.take_of_length_le (Nat.le_refl _)] at r2
    exact hd H2 ps s2 e2 r2
theorem lcRR {n : Nat} {lo : Int} (nD : H1 D = none) (hl : n = ys.length) (hz : n < sizeLine) (hw : ∀ v, wipe ((wipe σ [j]).set j (some v)) [j] = wipe σ [j])
    (hs : ∀ (i : Nat) (y : α) (H2 : Hp), i < n → ys[i]? = some y → Same H1 H2 → ∀ Q : VK, (∀ b H3, Same H2 H3 → R H3 b y → Q (.ref b) H3) → te ((wipe σ [j]).set j (some (.int (lo + i)))) H2 Q) (hd : ∀ H2 ps, Same H1 H2 → H2 D = some (.lst (ps.map V.ref)) → PySem.W.EachIs (R H2) ps ys → Qd H2) :
    ∃ W : Nat → Nat → Hp → Prop, (∃ m, W 0 m (upd H1 D (.lst []))) ∧ ∀ i m H, W i m H →
      ((Itr lo n).stop i H ∧ Qd H) ∨ ((Itr lo n).go i H ∧ ∃ Nx : Hp → Prop, (∀ H', Nx H' → ∃ m', m' < m ∧ W (i + 1) m' H') ∧ ∀ x H', (Itr lo n).yld i H x H' → gName j x (wipe σ [j]) H' fun σ2 H2 => wipe σ2 [j] = wipe σ [j] ∧ tYes σ2 H2 fun b H3 =>
        if b = true then te σ2 H3 fun y H4 => ∃ acc, H4 D = some (.lst acc) ∧ acc.length < sizeLine ∧ Nx (upd H4 D (.lst (acc ++ [y]))) else Nx H3) := by
  refine lc_range (fun i H2 => ∃ ps : List Addr, Same H1 H2 ∧ H2 D = some (.lst (ps.map V.ref)) ∧ PySem.W.EachIs (R H2) ps (ys.take i)) ⟨[], same_upd nD, upd_same, .nil⟩ ?_ ?_
  · rintro i H2 hi ⟨ps, s2, e2, r2⟩
    have hy := List.getElem?_eq_getElem (l := ys) (i := i) (by omega)
    refine ⟨hw _, iteT (B := False) ?_⟩
    refine hs i _ H2 hi hy s2 _ fun b H3 s3 hb => ⟨_, s3 _ _ e2, ?_, ps ++ [b], same_put (s2.trans s3) nD, ?_, ?_⟩
    · rw [List.length_map, r2.length, List.length_take]
      exact Nat.lt_of_le_of_lt (Nat.min_le_left _ _) (by omega)
    · rw [upd_same, List.map_append]
      rfl
    · have k : KT H2 (upd H3 D (.lst (ps.map V.ref ++ [V.ref b]))) := fun q xs e => by
        rw [upd_ne (fun z => by rw [z, e2] at e; cases e)]
        exact s3 _ _ e
      have k3 : KT H3 (upd H3 D (.lst (ps.map V.ref ++ [V.ref b]))) := fun q xs e => by
        rw [upd_ne (fun z => by rw [z, s3 _ _ e2] at e; cases e)]
        exact e
      rw [List.take_add_one, hy]
      exact each_app (PySem.W.EachIs.mono (fun _ _ h => hR _ _ _ _ k h) r2) (.cons (hR _ _ _ _ k3 hb) .nil)
  · rintro H2 ⟨ps, s2, e2, r2⟩
    rw [hl, List.take_of_length_le (Nat.le_refl _)] at r2
    exact hd H2 ps s2 e2 r2
end
section
variable {K : PySem.W.Frag} {te : TE} {σ : L2.St} {H1 : Hp} {D : Addr} {Qd : Hp → Prop} {j : Nat} {xs ys : List V} {a b : Addr}
/-- [f(x) for x in l], a value for each item -/
theorem lcLS (ha : SqL K H1 a xs) (hsl : ∀ H2, Same H1 H2 → SqL K H2 a xs) (nD : H1 D = none) (hl : xs.length = ys.length) (hz : xs.length < sizeLine) (hw : ∀ v, wipe ((wipe σ [j]).set j (some v)) [j] = wipe σ [j])
    (hs : ∀ (i : Nat) (x y : V) (H2 : Hp), xs[i]? = some x → ys[i]? = some y → Same H1 H2 → ∀ Q : VK, (∀ H3, Same H2 H3 → Q y H3) → te ((wipe σ [j]).set j (some x)) H2 Q) (hd : ∀ H2, Same H1 H2 → H2 D = some (.lst ys) → Qd H2) :
    ∃ W : Nat → Nat → Hp → Prop, (∃ m, W 0 m (upd H1 D (.lst []))) ∧ ∀ i m H, W i m H →
      ((Itl K a).stop i H ∧ Qd H) ∨ ((Itl K a).go i H ∧ ∃ Nx : Hp → Prop, (∀ H', Nx H' → ∃ m', m' < m ∧ W (i + 1) m' H') ∧ ∀ x H', (Itl K a).yld i H x H' → gName j x (wipe σ [j]) H' fun σ2 H2 => wipe σ2 [j] = wipe σ [j] ∧ tYes σ2 H2 fun b H3 =>
        if b = true then te σ2 H3 fun y H4 => ∃ acc, H4 D = some (.lst acc) ∧ acc.length < sizeLine ∧ Nx (upd H4 D (.lst (acc ++ [y]))) else Nx H3) := by
  refine lc_list (xs := xs) (fun i H2 => Same H1 H2 ∧ H2 D = some (.lst (ys.take i))) ⟨same_upd nD, upd_same⟩ (fun i H2 _ z => hsl _ z.1) ?_ ?_
  · rintro i x H2 hx ⟨s2, e2⟩
    have hi := (List.getElem?_eq_some_iff.mp hx).1
    have hy := List.getElem?_eq_getElem (l := ys) (i := i) (by omega)
    refine ⟨hw _, iteT (B := False) ?_⟩
    refine hs i x _ H2 hx hy s2 _ fun H3 s3 => ⟨_, s3 _ _ e2, ?_, same_put (s2.trans s3) nD, ?_⟩
    · rw [List.length_take]
      exact Nat.lt_of_le_of_lt (Nat.min_le_left _ _) (Nat.lt_trans hi hz)
    · rw [upd_same, List.take_add_one, hy]
      rfl
  · rintro H2 ⟨s2, e2⟩
    rw [hl, List.take_of_length_le (Nat.le_refl _)] at e2
    exact hd H2 s2 e2
end
end Lc

set_option Elab.async false
set_option linter.all false
set_option maxRecDepth 100000
set_option maxHeartbeats 6400000
namespace K16
open PySem L2 Tx Tg Tm Da RZ
/-! ### rows, squares, primes -/
abbrev intsV (l : List Int) : List V := l.map V.int
abbrev RowI (H : Hp) (p : Addr) (l : List Int) : Prop := H p = some (.tup (intsV l))
def SqAt (H : Hp) (p : Addr) (A : List (List Int)) : Prop := ∃ ps : List Addr, H p = some (.tup (ps.map V.ref)) ∧ PySem.W.EachIs (RowI H) ps A
theorem SqAt.keep {H H' : Hp} {p : Addr} {A : List (List Int)} (k : KeepT H H') (h : SqAt H p A) : SqAt H' p A := let ⟨ps, e, r⟩ := h; ⟨ps, k _ _ e, PySem.W.EachIs.mono (fun _ _ e => k _ _ e) r⟩
theorem SqAt.same {H H' : Hp} {p : Addr} {A : List (List Int)} (s : Same H H') (h : SqAt H p A) : SqAt H' p A := h.keep (.same s)
/-- the prime as a value -/
def pV : Option Int → V
  | none => .non
  | some p => .int p
def okP : Option Int → Prop
  | none => True
  | some p => 0 < p
/-- small: within one machine word -/
def Few (l : List Int) : Prop := ∀ x ∈ l, -(2 ^ 64) < x ∧ x < 2 ^ 64
section
variable {P : Program} {w : World} {K : PySem.W.Frag} {mg : Str → Option Value} {base : Heap}
abbrev nRest : List Str := ["number", "prime"]
def spRest : Sp := fun vs H Q _ => ∃ (x : Int) (p : Option Int), vs = [.int x, pV p] ∧ okP p ∧ Q (.int (Ty.rest p x)) H
theorem scRest : FnScope nRest ["number", "prime"] (defScope sRest) := ⟨rfl, rfl, rfl, by decide +kernel, rfl, by decide +kernel, by decide +kernel⟩
theorem ok_rest {f : Addr} {fd : FuncData} (F : Fun K "rest_of" "rest_of" sRest f fd) : FnOk P w K mg base CX0 1 f fd ["number", "prime"] spRest := by
  refine F.ok scRest (fun vs H Q E h => ?_) (fun cdv A outer s H vs Q E hr h => ?_)
  · obtain ⟨x, p, rfl, _⟩ := h
    rfl
  · obtain ⟨x, p, rfl, hp, q⟩ := h
    refine ⟨_, (pss_one (ps_ret (pe_ifExp (pt_cmpR op_isN (pv 1) pe_non (nomark _)) (pv 0) (pe_op op_modN (pv 0) (pv 1))))), ?_⟩
    cases p with
    | none =>
      refine ⟨_, rfl, rfl, _, rfl, ?_⟩
      rw [decide_eq_true (show pV none = V.non from rfl)]
      exact iteT ⟨_, rfl, q⟩
    | some p =>
      refine ⟨_, rfl, rfl, _, rfl, ?_⟩
      rw [decide_eq_false (show ¬ (pV (some p) = V.non) from fun e => nomatch e)]
      refine iteF ⟨_, rfl, _, rfl, _, _, rfl, rfl, Int.ne_of_gt hp, ?_⟩
      have hp : 0 < p := hp
      show Q (.int (Int.fmod x p)) H
      rw [Int.fmod_eq_emod_of_nonneg _ (Int.le_of_lt hp)]
      exact q
abbrev nDot : List Str := ["one", "other", "left", "right"]
def spDot : Sp := fun vs H Q _ => ∃ (a b : Addr) (l m : List Int), vs = [.ref a, .ref b] ∧ RowI H a l ∧ RowI H b m ∧ l.length = m.length ∧ l.length ≤ 100 ∧ (Few l ∨ Few m) ∧ ∀ H', Same H H' → Q (.int (Ty.dotL l m)) H'
theorem scDot : FnScope nDot ["one", "other"] (defScope sDot) := ⟨rfl, rfl, rfl, by decide +kernel, rfl, by decide +kernel, by decide +kernel⟩
theorem ok_dot {f : Addr} {fd : FuncData} (F : Fun K "dot" "dot" sDot f fd) (T : Txt K mg) : FnOk P w K mg base CX0 1 f fd ["one", "other"] spDot := by
  refine F.ok scDot (fun vs H Q E h => ?_) (fun cdv A outer s H vs Q E hr h => ?_)
  · obtain ⟨a, b, l, m, rfl, _⟩ := h
    rfl
  · obtain ⟨a, b, l, m, rfl, ha, hb, hl, l100, hf, q⟩ := h
    refine ⟨_, (pss_one (ps_ret (pe_callB (cr_sum rfl) (by rfl) T.sum (by decide +kernel) (pa_cons (pe_lc (own := [("left", 2), ("right", 3)]) (g := (gTup K 2 (gCons (gName 2) (gCons (gName 3) gNil)))) (tt := tYes)  rfl scDot.nd (pi_zipA (by rfl) T.zip (pa_cons (pv 0) (pa_cons (pv 1) pa_nil))) (blkOk_by (own := [("left", 2), ("right", 3)]) (N := nDot) (sc := defScope sDot) (by decide +kernel)) (fun _ _ _ _ _ => (pg_tup rfl (pgs_cons (pg_name (i := 2) scDot.nd rfl (Or.inl rfl)) (pgs_cons (pg_name (i := 3) scDot.nd rfl (Or.inl rfl)) pgs_nil)))) (fun _ _ _ _ _ => pts_nil) (fun _ _ _ _ _ => (pe_op op_mul (pv 2) (pv 3)))) pa_nil)))), ?_⟩
    refine ⟨_, rfl, _, rfl, a, b, intsV l, intsV m, rfl, .inr ⟨SqT.of ha, SqT.of hb, fun D nD => ?_⟩⟩
    have small : ∀ i (h1 : i < l.length) (h2 : i < m.length), CMul l[i] m[i] := fun i h1 h2 => by
      rcases hf with hf | hf
      · exact .inl (hf _ (List.getElem_mem h1))
      · exact .inr (hf _ (List.getElem_mem h2))
    refine Lc.lc_zipT (by rw [List.length_map, List.length_map]; omega) (fun i H4 => Same H H4 ∧ H4 D = some (.lst (intsV ((List.zipWith (· * ·) l m).take i)))) ⟨same_upd nD, upd_same⟩ (fun i H4 z => ⟨SqT.of (z.1 _ _ ha), SqT.of (z.1 _ _ hb)⟩) ?_ ?_
    · rintro i x y t H4 hx hy ⟨s4, e4⟩ nt
      have hi := (List.getElem?_eq_some_iff.mp hx).1
      have hj := (List.getElem?_eq_some_iff.mp hy).1
      rw [List.length_map] at hi hj
      rw [List.getElem?_map, List.getElem?_eq_getElem hi] at hx
      rw [List.getElem?_map, List.getElem?_eq_getElem hj] at hy
      cases hx
      cases hy
      have s5 := same_upd (o := .tup [V.int l[i], V.int m[i]]) nt
      refine ⟨t, _, rfl, SqT.of upd_same, rfl, _, _, rfl, _, _, rfl, rfl, rfl, iteT (B := False) ?_⟩
      refine ⟨_, rfl, _, rfl, _, _, rfl, rfl, small i hi hj, ?_⟩
      refine ⟨_, s5 _ _ e4, ?_, same_put (s4.trans s5) nD, ?_⟩
      · rw [List.length_map, List.length_take]
        exact Nat.lt_of_le_of_lt (show _ ≤ 100 by omega) (by decide)
      · rw [upd_same, List.take_add_one]
        have e : (List.zipWith (· * ·) l m)[i]? = some (l[i] * m[i]) := by rw [List.getElem?_zipWith, List.getElem?_eq_getElem hi, List.getElem?_eq_getElem hj]
        rw [e]
        show some (HO.lst _) = some (HO.lst (List.map V.int (_ ++ [l[i] * m[i]])))
        rw [List.map_append]
        rfl
    · rintro H4 ⟨s4, e4⟩
      rw [List.take_of_length_le (by rw [List.length_zipWith, List.length_map]; omega)] at e4
      exact ⟨D, _, rfl, SqL.of e4, q H4 s4⟩
abbrev nRRow : List Str := ["row", "prime", "number"]
theorem scRRow : FnScope nRRow ["row", "prime"] (defScope sRestRow) := ⟨rfl, rfl, rfl, by decide +kernel, rfl, by decide +kernel, by decide +kernel⟩
def spRRow : Sp := fun vs H Q _ => ∃ (a : Addr) (l : List Int) (p : Option Int), vs = [.ref a, pV p] ∧ RowI H a l ∧ okP p ∧ l.length ≤ 100 ∧ ∀ b H', Same H H' → RowI H' b (l.map (Ty.rest p)) → Q (.ref b) H'
def spRRowL : Sp := fun vs H Q _ => ∃ (a : Addr) (l : List Int) (p : Option Int), vs = [.ref a, pV p] ∧ H a = some (.lst (intsV l)) ∧ okP p ∧ l.length ≤ 100 ∧ ∀ b H', Same H H' → RowI H' b (l.map (Ty.rest p)) → Q (.ref b) H'
theorem ok_rrow {f fR : Addr} {fd dR : FuncData} (F : Fun K "rest_row" "rest_row" sRestRow f fd) (T : Txt K mg) (DR : Df K mg "rest_of" sRest ["number", "prime"] fR dR) : FnOk P w K mg base CX0 2 f fd ["row", "prime"] spRRow := by
  have GR := ok_rest (P := P) (w := w) (mg := mg) (base := base) DR.F
  refine F.ok scRRow (fun vs H Q E h => ?_) (fun cdv A outer s H vs Q E hr h => ?_)
  · obtain ⟨a, l, p, rfl, _⟩ := h
    rfl
  · obtain ⟨a, l, p, rfl, ha, hp, hl, q⟩ := h
    refine ⟨_, (pss_one (ps_ret (pe_callTy call_tuple_of (by rfl) T.tuple (by decide +kernel) (pa_cons (pe_lc (own := [("number", 2)]) (g := (gName 2)) (tt := tYes)  rfl scRRow.nd (pi_tup (pv 0)) (blkOk_by (own := [("number", 2)]) (N := nRRow) (sc := defScope sRestRow) (by decide +kernel)) (fun _ _ _ _ _ => (pg_name (i := 2) scRRow.nd rfl (Or.inl rfl))) (fun _ _ _ _ _ => pts_nil) (fun _ _ _ _ _ => (pe_call GR (hr.mono (by decide)) (by rfl) DR.m DR.F.kp DR.b .nil pass0 (pa_cons (pv 2) (pa_cons (pv 1) pa_nil))))) pa_nil)))), ?_⟩
    refine ⟨_, rfl, a, rfl, ⟨_, SqT.of ha⟩, fun D nD => ?_⟩
    refine Lc.lcTS (ys := intsV (l.map (Ty.rest p))) (SqT.of ha) nD (by rw [List.length_map, List.length_map, List.length_map]) (by rw [List.length_map]; exact Nat.lt_of_le_of_lt hl (by decide)) (fun _ => rfl) ?_ ?_
    · intro i x y H2 hx hy s2 Q' q'
      have hi := (List.getElem?_eq_some_iff.mp hx).1
      rw [List.length_map] at hi
      rw [List.getElem?_map, List.getElem?_eq_getElem hi] at hx
      rw [List.getElem?_map, List.getElem?_map, List.getElem?_eq_getElem hi] at hy
      cases hx
      cases hy
      exact ⟨_, rfl, _, rfl, l[i], p, rfl, hp, q' H2 (Same.refl _)⟩
    · intro H2 s2 e2
      refine ⟨D, _, rfl, .inl ⟨SqL.of e2, fun b nb => ?_⟩⟩
      exact q b _ (s2.trans (same_upd nb)) upd_same
theorem ok_rrowL {f fR : Addr} {fd dR : FuncData} (F : Fun K "rest_row" "rest_row" sRestRow f fd) (T : Txt K mg) (DR : Df K mg "rest_of" sRest ["number", "prime"] fR dR) : FnOk P w K mg base CX0 2 f fd ["row", "prime"] spRRowL := by
  have GR := ok_rest (P := P) (w := w) (mg := mg) (base := base) DR.F
  refine F.ok scRRow (fun vs H Q E h => ?_) (fun cdv A outer s H vs Q E hr h => ?_)
  · obtain ⟨a, l, p, rfl, _⟩ := h
    rfl
  · obtain ⟨a, l, p, rfl, ha, hp, hl, q⟩ := h
    refine ⟨_, (pss_one (ps_ret (pe_callTy call_tuple_of (by rfl) T.tuple (by decide +kernel) (pa_cons (pe_lc (own := [("number", 2)]) (g := (gName 2)) (tt := tYes)  rfl scRRow.nd (pi_list (pv 0)) (blkOk_by (own := [("number", 2)]) (N := nRRow) (sc := defScope sRestRow) (by decide +kernel)) (fun _ _ _ _ _ => (pg_name (i := 2) scRRow.nd rfl (Or.inl rfl))) (fun _ _ _ _ _ => pts_nil) (fun _ _ _ _ _ => (pe_call GR (hr.mono (by decide)) (by rfl) DR.m DR.F.kp DR.b .nil pass0 (pa_cons (pv 2) (pa_cons (pv 1) pa_nil))))) pa_nil)))), ?_⟩
    refine ⟨_, rfl, a, rfl, ⟨_, SqL.of ha⟩, fun D nD => ?_⟩
    refine Lc.lcLS (ys := intsV (l.map (Ty.rest p))) (SqL.of ha) (fun H2 s => SqL.of (s _ _ ha)) nD (by rw [List.length_map, List.length_map, List.length_map]) (by rw [List.length_map]; exact Nat.lt_of_le_of_lt hl (by decide)) (fun _ => rfl) ?_ ?_
    · intro i x y H2 hx hy s2 Q' q'
      have hi := (List.getElem?_eq_some_iff.mp hx).1
      rw [List.length_map] at hi
      rw [List.getElem?_map, List.getElem?_eq_getElem hi] at hx
      rw [List.getElem?_map, List.getElem?_map, List.getElem?_eq_getElem hi] at hy
      cases hx
      cases hy
      exact ⟨_, rfl, _, rfl, l[i], p, rfl, hp, q' H2 (Same.refl _)⟩
    · intro H2 s2 e2
      refine ⟨D, _, rfl, .inl ⟨SqL.of e2, fun b nb => ?_⟩⟩
      exact q b _ (s2.trans (same_upd nb)) upd_same
theorem rowI_kt : ∀ H H' (p : Addr) (x : List Int), Lc.KT H H' → RowI H p x → RowI H' p x := fun _ _ _ _ k h => k _ _ h
theorem each_at {α : Type} {R : Addr → α → Prop} : ∀ {ps : List Addr} {as : List α}, PySem.W.EachIs R ps as → ∀ {i : Nat} {x : Addr} {y : α}, ps[i]? = some x → as[i]? = some y → R x y
  | _, _, .nil, i, _, _, h, _ => by simp at h
  | _, _, .cons r t, 0, _, _, h, k => by cases h; cases k; exact r
  | _, _, .cons r t, i + 1, _, _, h, k => each_at t h k
abbrev nRSq : List Str := ["square", "prime", "row"]
theorem scRSq : FnScope nRSq ["square", "prime"] (defScope sRestSq) := ⟨rfl, rfl, rfl, by decide +kernel, rfl, by decide +kernel, by decide +kernel⟩
def spRSq : Sp := fun vs H Q _ => ∃ (a : Addr) (M : List (List Int)) (p : Option Int), vs = [.ref a, pV p] ∧ SqAt H a M ∧ okP p ∧ M.length ≤ 100 ∧ (∀ r ∈ M, r.length ≤ 100) ∧ ∀ b H', Same H H' → SqAt H' b (M.map fun r => r.map (Ty.rest p)) → Q (.ref b) H'
theorem ok_rsq {f fR f0 : Addr} {fd dR d0 : FuncData} (F : Fun K "rest_square" "rest_square" sRestSq f fd) (T : Txt K mg) (D0 : Df K mg "rest_of" sRest ["number", "prime"] f0 d0) (DR : Df K mg "rest_row" sRestRow ["row", "prime"] fR dR) : FnOk P w K mg base CX0 3 f fd ["square", "prime"] spRSq := by
  have GR := ok_rrow (P := P) (w := w) (base := base) DR.F T D0
  refine F.ok scRSq (fun vs H Q E h => ?_) (fun cdv A outer s H vs Q E hr h => ?_)
  · obtain ⟨a, M, p, rfl, _⟩ := h
    rfl
  · obtain ⟨a, M, p, rfl, ⟨ps, ha, hps⟩, hp, hl, hr100, q⟩ := h
    refine ⟨_, (pss_one (ps_ret (pe_callTy call_tuple_of (by rfl) T.tuple (by decide +kernel) (pa_cons (pe_lc (own := [("row", 2)]) (g := (gName 2)) (tt := tYes)  rfl scRSq.nd (pi_tup (pv 0)) (blkOk_by (own := [("row", 2)]) (N := nRSq) (sc := defScope sRestSq) (by decide +kernel)) (fun _ _ _ _ _ => (pg_name (i := 2) scRSq.nd rfl (Or.inl rfl))) (fun _ _ _ _ _ => pts_nil) (fun _ _ _ _ _ => (pe_call GR (hr.mono (by decide)) (by rfl) DR.m DR.F.kp DR.b .nil pass0 (pa_cons (pv 2) (pa_cons (pv 1) pa_nil))))) pa_nil)))), ?_⟩
    have lps := hps.length
    refine ⟨_, rfl, a, rfl, ⟨_, SqT.of ha⟩, fun D nD => ?_⟩
    refine Lc.lcTR (R := RowI) rowI_kt (ys := M.map fun r => r.map (Ty.rest p)) (SqT.of ha) nD (by rw [List.length_map, List.length_map, lps]) (by rw [List.length_map, lps]; exact Nat.lt_of_le_of_lt hl (by decide)) (fun _ => rfl) ?_ ?_
    · intro i x y H2 hx hy s2 Q' q'
      have hi := (List.getElem?_eq_some_iff.mp hx).1
      rw [List.length_map] at hi
      have hiM : i < M.length := by omega
      rw [List.getElem?_map, List.getElem?_eq_getElem hi] at hx
      rw [List.getElem?_map, List.getElem?_eq_getElem hiM] at hy
      cases hx
      cases hy
      have hrow := each_at hps (List.getElem?_eq_getElem hi) (List.getElem?_eq_getElem hiM)
      exact ⟨_, rfl, _, rfl, ps[i], M[i], p, rfl, s2 _ _ hrow, hp, hr100 _ (List.getElem_mem hiM), fun b H' s h => q' b H' s h⟩
    · intro H2 ps2 s2 e2 r2
      refine ⟨D, _, rfl, .inl ⟨SqL.of e2, fun b nb => ?_⟩⟩
      have s3 := same_upd (o := .tup (ps2.map V.ref)) nb
      exact q b _ (s2.trans s3) ⟨ps2, upd_same, PySem.W.EachIs.mono (fun _ _ e => s3 _ _ e) r2⟩
abbrev nScaled : List Str := ["row", "number", "part"]
theorem scScaled : FnScope nScaled ["row", "number"] (defScope sScaled) := ⟨rfl, rfl, rfl, by decide +kernel, rfl, by decide +kernel, by decide +kernel⟩
def spScaled : Sp := fun vs H Q _ => ∃ (a : Addr) (l : List Int) (k : Int), vs = [.ref a, .int k] ∧ RowI H a l ∧ l.length ≤ 100 ∧ Few l ∧ ∀ b H', Same H H' → RowI H' b (l.map (k * ·)) → Q (.ref b) H'
theorem ok_scaled {f : Addr} {fd : FuncData} (F : Fun K "scaled_row" "scaled_row" sScaled f fd) (T : Txt K mg) : FnOk P w K mg base CX0 1 f fd ["row", "number"] spScaled := by
  refine F.ok scScaled (fun vs H Q E h => ?_) (fun cdv A outer s H vs Q E hr h => ?_)
  · obtain ⟨a, l, k, rfl, _⟩ := h
    rfl
  · obtain ⟨a, l, k, rfl, ha, hl, hf, q⟩ := h
    refine ⟨_, (pss_one (ps_ret (pe_callTy call_tuple_of (by rfl) T.tuple (by decide +kernel) (pa_cons (pe_lc (own := [("part", 2)]) (g := (gName 2)) (tt := tYes)  rfl scScaled.nd (pi_tup (pv 0)) (blkOk_by (own := [("part", 2)]) (N := nScaled) (sc := defScope sScaled) (by decide +kernel)) (fun _ _ _ _ _ => (pg_name (i := 2) scScaled.nd rfl (Or.inl rfl))) (fun _ _ _ _ _ => pts_nil) (fun _ _ _ _ _ => (pe_op op_mul (pv 1) (pv 2)))) pa_nil)))), ?_⟩
    refine ⟨_, rfl, a, rfl, ⟨_, SqT.of ha⟩, fun D nD => ?_⟩
    refine Lc.lcTS (ys := intsV (l.map (k * ·))) (SqT.of ha) nD (by rw [List.length_map, List.length_map, List.length_map]) (by rw [List.length_map]; exact Nat.lt_of_le_of_lt hl (by decide)) (fun _ => rfl) ?_ ?_
    · intro i x y H2 hx hy s2 Q' q'
      have hi := (List.getElem?_eq_some_iff.mp hx).1
      rw [List.length_map] at hi
      rw [List.getElem?_map, List.getElem?_eq_getElem hi] at hx
      rw [List.getElem?_map, List.getElem?_map, List.getElem?_eq_getElem hi] at hy
      cases hx
      cases hy
      exact ⟨_, rfl, _, rfl, _, _, rfl, rfl, .inr (hf _ (List.getElem_mem hi)), q' H2 (Same.refl _)⟩
    · intro H2 s2 e2
      refine ⟨D, _, rfl, .inl ⟨SqL.of e2, fun b nb => ?_⟩⟩
      exact q b _ (s2.trans (same_upd nb)) upd_same
end
end K16

set_option Elab.async false
set_option linter.all false
set_option maxRecDepth 100000
set_option maxHeartbeats 1000000
/-! zip of any number of tuples, at the library's level -/
namespace Zn
open PySem RZ
open PySem.Sem (wp)
abbrev IsSeq (h : Heap) (T : Addr) (vs : Array Value) : Prop := h.get? T = some { cls := .type "tuple", data := .seq vs }
abbrev ZipF (h : Heap) (z TI TO : Addr) (f0 : Value) (f1 : Bool) : Prop :=
  h.get? z = some { cls := .type "zip", dict := none, data := .fields #[f0, .bool f1, .bool false, .ref TI, .ref TO], slots := #[] }
structure ApartN (z TI TO : Addr) (is ls : List Addr) : Prop where
  TIz : TI ≠ z
  TOz : TO ≠ z
  TITO : TI ≠ TO
  iz : ∀ i ∈ is, i ≠ z ∧ i ≠ TI ∧ i ≠ TO
  nd : is.Nodup
  lz : ∀ l ∈ ls, l ≠ z ∧ l ≠ TO ∧ ∀ i ∈ is, l ≠ i
def Its (h : Heap) (is ls : List Addr) (f : Nat → Nat) : Prop := ∀ (m i l : Nat), is[m]? = some i → ls[m]? = some l → h.IsTupleIter i l (f m)
/-- the items at k of the tuples -/
def At (h : Heap) (ls : List Addr) (xs : List Value) (k : Nat) : Prop := ∀ (m : Nat) (l : Addr) (x : Value), ls[m]? = some l → xs[m]? = some x → ∃ items, h.IsTuple l items ∧ items[k]? = some x
section
variable {prog : Program} {w : World} {A : Around} {E : Value → Shared → Prop} {s : Shared}
/-- what holds ahead of turn j -/
structure Mid (h0 h : Heap) (z TI TO : Addr) (f1 : Bool) (is ls : List Addr) (xs : List Value) (k j : Nat) : Prop where
  zip : ZipF h z TI TO .ellipsis f1
  out : ∃ vals : Array Value, IsSeq h TO vals ∧ vals.size = is.length ∧ ∀ m, m < j → vals[m]? = xs[m]?
  its : Its h is ls (fun m => if m < j then k + 1 else k)
  size : h.objs.size = h0.objs.size
  keep : ∀ c o, c ≠ z → c ≠ TO → c ∉ is → h0.get? c = some o → h.get? c = some o
theorem wpAny_alive {M : Model} {a : Addr} {Q : Option Obj → Shared → Prop} (h : Q (s.heap.get? a) s) : wpAny M A (loadIfAlive a) Q E s := fun Γ p hΓ => by
  show Sem.wp _ _ (.loadIfAlive _ .pure) _ _ _ _
  rw [Sem.wp_loadIfAlive]
  exact (wpAny_pure h) Γ p hΓ
theorem is_free {z TI TO : Addr} {f0 : Value} {f1 : Bool} {Q : Bool → Shared → Prop} (hz : ZipF s.heap z TI TO f0 f1) (hf : f0 = .none ∨ ∃ a : Nat, f0 = rawInt a) (hT : Q true s) (hF : ∀ (a : Nat) h' f1', f0 = rawInt a → ZipF h' z TI TO (rawInt a) f1' → Heap.SameBut z s.heap h' → Q false { s with heap := h' }) :
    wpAny (model prog w) A (Builtin.SmallTypes.ownedTupleIsFree (.ref z)) Q E s := by
  unfold Builtin.SmallTypes.ownedTupleIsFree
  refine wpAny_bind (wpAny_field hz rfl (x := f0) rfl ?_)
  rcases hf with rfl | ⟨a, rfl⟩
  · exact wpAny_pure hT
  · show wpAny _ _ (loadIfAlive ((a : Nat) : Int).toNat >>= _) _ _ _
    refine wpAny_bind (wpAny_alive ?_)
    cases s.heap.get? ((a : Nat) : Int).toNat with
    | none => exact wpAny_pure hT
    | some o =>
      show wpAny _ _ (field (.ref z) 1 >>= _) _ _ _
      refine wpAny_bind (wpAny_field hz rfl (x := .bool f1) rfl ?_)
      cases f1 with
      | true => exact wpAny_pure (hF a s.heap true rfl hz ⟨rfl, fun _ _ => rfl⟩)
      | false => exact wpAny_bind (wpAny_setField_rec hz (by simp) fun h₁ hz₁ hs₁ => wpAny_pure (hF a h₁ true rfl hz₁ hs₁))
theorem next_itemG {z TI TO : Addr} {is ls : List Addr} {k : Nat} {xs : List Value} {v0 : Array Value} {f0 : Value} {f1 : Bool} {Q : Value → Shared → Prop} (D : ApartN z TI TO is ls) (h1 : 1 ≤ is.length) (hsz : is.length ≤ sizeLine) (lls : ls.length = is.length) (lxs : xs.length = is.length)
    (hz : ZipF s.heap z TI TO f0 f1) (hf : f0 = .none ∨ ∃ a : Nat, f0 = rawInt a) (hTI : IsSeq s.heap TI (is.map Value.ref).toArray) (hTO : IsSeq s.heap TO v0) (l0 : v0.size = is.length)
    (hi : Its s.heap is ls (fun _ => k)) (hx : At s.heap ls xs k)
    (hQ : ∀ h' (a : Nat) f1', ZipF h' z TI TO (rawInt a) f1' → (∃ v, IsSeq h' TO v ∧ v.size = is.length) → Its h' is ls (fun _ => k + 1) → IsSeq h' s.heap.objs.size xs.toArray → h'.objs.size = s.heap.objs.size + 1 →
      (∀ c o, c ≠ z → c ≠ TO → c ∉ is → s.heap.get? c = some o → h'.get? c = some o) → Q (.ref s.heap.objs.size) { s with heap := h' }) :
    wpAny (model prog w) A (Builtin.«zip.__next__» ⟨[.ref z], []⟩) (fun fin s' => ∃ v, fin = .done (.ret v) ∧ Q v s') E s := by
  show wpAny _ _ (field (.ref z) 2 >>= _) _ _ _
  refine wpAny_bind (wpAny_field hz rfl (x := .bool false) rfl ?_)
  show wpAny _ _ (field (.ref z) 3 >>= _) _ _ _
  refine wpAny_bind (wpAny_field hz rfl (x := .ref TI) rfl ?_)
  refine wpAny_bind (wpAny_seqItems hTI rfl ?_)
  have hne : ((is.map Value.ref).toArray).isEmpty = false := by
    cases is with
    | nil => exact absurd h1 (by decide)
    | cons a b => rfl
  dsimp only
  rw [hne]
  refine wpAny_bind (is_free hz hf ?_ ?_)
  · simp only [if_true]
    refine wpAny_bind (wpAny_rule ?_)
    refine wpAny_bind (wpAny_field hz rfl (x := .ref TO) rfl ?_)
    refine wpAny_bind (wpAny_setField_rec hz (by simp) fun h₁ hz₁ hs₁ => ?_)
    replace hz₁ : ZipF h₁ z TI TO .ellipsis f1 := hz₁
    have M0 : Mid s.heap h₁ z TI TO f1 is ls xs k 0 := by
      refine ⟨hz₁, ⟨v0, hs₁.extBut _ _ D.TOz hTO, l0, fun m hm => absurd hm (Nat.not_lt_zero _)⟩, fun m i l e1 e2 => ?_, hs₁.1, fun c o c1 c2 c3 e => hs₁.extBut _ _ c1 e⟩
      exact (hi m i l e1 e2).extBut hs₁.extBut (D.iz i (List.mem_of_getElem? e1)).1
    refine wpAny_bind ?_
    refine wpAny_forIn_list _ (fun rest b s' => b = (none, ()) ∧ ∃ (j : Nat) (h : Heap), rest = ((is.map Value.ref).zipIdx).drop j ∧ j ≤ is.length ∧ s' = { s with heap := h } ∧ Mid s.heap h z TI TO f1 is ls xs k j) _ ?_ ?_ _ _ ⟨rfl, 0, h₁, rfl, Nat.zero_le _, rfl, M0⟩
    · rintro x rest b s' ⟨rfl, j, h, er, hj, rfl, M⟩
      have hjl : j < is.length := by
        rcases Nat.lt_or_ge j is.length with q | q
        · exact q
        · rw [List.drop_of_length_le (by simp; omega)] at er
          cases er
      have ei : is[j]? = some is[j] := List.getElem?_eq_getElem hjl
      have ell : ls[j]? = some (ls[j]'(by omega)) := List.getElem?_eq_getElem (by omega)
      have exx : xs[j]? = some (xs[j]'(by omega)) := List.getElem?_eq_getElem (by omega)
      have edrop : ((is.map Value.ref).zipIdx).drop j = (Value.ref is[j], j) :: ((is.map Value.ref).zipIdx).drop (j + 1) := by
        rw [List.drop_eq_getElem_cons (by simp; exact hjl)]
        simp
      rw [edrop] at er
      injection er with ex er
      subst ex er
      obtain ⟨vals, hv, lv, hvals⟩ := M.out
      refine wpAny_bind (wpAny_onRaise ?_)
      show wpAny _ _ (Builtin.SmallTypes.nextOf (.ref is[j]) >>= _) _ _ _
      have hit : h.IsTupleIter is[j] (ls[j]'(by omega)) k := by
        have q := M.its j _ _ ei ell
        simp only [Nat.lt_irrefl, if_false] at q
        exact q
      obtain ⟨items, hl, hxx⟩ := hx j _ _ ell exx
      have Dl := D.lz _ (List.mem_of_getElem? ell)
      have Di := D.iz _ (List.mem_of_getElem? ei)
      have hl' : Heap.IsTuple h (ls[j]'(by omega)) items := by
        obtain ⟨o, eo, r⟩ := hl
        exact ⟨o, M.keep _ _ Dl.1 Dl.2.1 (fun hm => Dl.2.2 _ hm rfl) eo, r⟩
      refine wpAny_bind (nextOf_tuple_item hit hl' hxx fun h₂ h1₂ hs₂ => wpAny_pure ?_)
      have hTO₂ : IsSeq h₂ TO vals := hs₂.extBut _ _ Di.2.2.symm hv
      refine wpAny_bind (wpAny_seqItems hTO₂ rfl ?_)
      have hxj : xs[j]? = some (xs[j]'(by omega)) := exx
      refine wpAny_bind (wpAny_updateSeq hTO₂ rfl ?_ (by rw [lv]; exact hsz) (by rw [Array.size_setIfInBounds, lv]; omega))
      have hs₃ : Heap.SameBut TO h₂ (h₂.update TO (Obj.mapSeq (·.setIfInBounds j (xs[j]'(by omega))))) := Heap.SameBut.update ..
      have hTO₃ : IsSeq (h₂.update TO (Obj.mapSeq (·.setIfInBounds j (xs[j]'(by omega))))) TO (vals.setIfInBounds j (xs[j]'(by omega))) := by
        show Heap.get? _ _ = _
        rw [Heap.get?_update_self _ hTO₂ rfl]
        simp [Obj.mapSeq]
      refine wpAny_bind (wpAny_letGo (wpAny_pure ?_))
      refine ⟨rfl, j + 1, _, rfl, hjl, rfl, ?_⟩
      refine ⟨hs₃.extBut _ _ D.TOz.symm (hs₂.extBut _ _ Di.1.symm M.zip), ⟨_, hTO₃, by rw [Array.size_setIfInBounds, lv], fun m hm => ?_⟩, fun m i l e1 e2 => ?_, by rw [hs₃.1, hs₂.1, M.size], fun c o c1 c2 c3 e => ?_⟩
      · rw [Array.getElem?_setIfInBounds]
        by_cases q : j = m
        · subst q
          rw [if_pos rfl, if_pos (by omega), exx]
        · rw [if_neg q]
          exact hvals m (by omega)
      · have nTO : i ≠ TO := (D.iz i (List.mem_of_getElem? e1)).2.2
        by_cases q : m = j
        · subst q
          rw [ei] at e1
          rw [ell] at e2
          cases e1
          cases e2
          simp only [Nat.lt_succ_self, if_true]
          exact h1₂.extBut hs₃.extBut nTO
        · have ni : i ≠ is[j] := fun z => by
            subst z
            have := (List.getElem?_inj (by have := (List.getElem?_eq_some_iff.mp e1).1; exact this) D.nd).mp (e1.trans ei.symm)
            exact q this
          have qq := M.its m i l e1 e2
          have ee : (if m < j + 1 then k + 1 else k) = (if m < j then k + 1 else k) := by
            by_cases q2 : m < j
            · rw [if_pos q2, if_pos (by omega)]
            · rw [if_neg q2, if_neg (by omega)]
          show Heap.IsTupleIter _ i l (if m < j + 1 then k + 1 else k)
          rw [ee]
          exact (qq.extBut hs₂.extBut ni).extBut hs₃.extBut nTO
      · exact hs₃.extBut _ _ c2 (hs₂.extBut _ _ (fun z => c3 (by rw [z]; exact List.getElem_mem hjl)) (M.keep c o c1 c2 c3 e))
    · rintro b s' ⟨rfl, j, h, er, hj, rfl, M⟩
      have hjl : j = is.length := by
        have := congrArg List.length er
        simp at this
        omega
      subst hjl
      obtain ⟨vals, hv, lv, hvals⟩ := M.out
      have ev : vals = xs.toArray := by
        apply Array.ext_getElem?
        intro m
        rcases Nat.lt_or_ge m is.length with q | q
        · rw [hvals m q]
          simp
        · rw [Array.getElem?_eq_none (by omega), Array.getElem?_eq_none (by simp; omega)]
      rw [ev] at hv
      dsimp only
      refine wpAny_bind (wpAny_seqItems hv rfl ?_)
      refine wpAny_bind (wpAny_newTuple ?_ (by rw [List.toList_toArray, lxs]; exact hsz))
      have hzlt : z < h.objs.size := Heap.lt_size M.zip
      have hTOlt : TO < h.objs.size := Heap.lt_size hv
      refine wpAny_bind ?_
      unfold Builtin.SmallTypes.ownedTupleHandOut
      have hz₆ : ZipF (h.push { cls := .type "tuple", data := .seq xs.toArray.toList.toArray }) z TI TO .ellipsis f1 := Heap.get?_push_of_some _ M.zip
      refine wpAny_bind (wpAny_setField_rec hz₆ (by simp) fun h₇ hz₇ hs₇ => ?_)
      replace hz₇ : ZipF h₇ z TI TO (rawInt h.objs.size) f1 := hz₇
      refine wpAny_setField_rec hz₇ (by simp) fun h₈ hz₈ hs₈ => ?_
      replace hz₈ : IsZip h₈ z TI TO (rawInt h.objs.size) := hz₈
      have up : ∀ c o, c ≠ z → h.get? c = some o → h₈.get? c = some o := fun c o c1 e => hs₈.extBut _ _ c1 (hs₇.extBut _ _ c1 (Heap.get?_push_of_some _ e))
      have hT₈ : IsSeq h₈ h.objs.size xs.toArray := hs₈.extBut _ _ (Nat.ne_of_gt hzlt) (hs₇.extBut _ _ (Nat.ne_of_gt hzlt) (Heap.get?_push_size _ rfl))
      have hz8 : h₈.objs.size = h.objs.size + 1 := by rw [hs₈.1, hs₇.1, Heap.size_push]
      rw [M.size] at hz₈ hT₈ hz8
      refine wpAny_pure ⟨_, rfl, ?_⟩
      show Q (.ref h.objs.size) _
      rw [M.size]
      refine hQ h₈ _ _ hz₈ ⟨_, up _ _ D.TOz hv, by rw [List.size_toArray, lxs]⟩ (fun m i l e1 e2 => ?_) hT₈ hz8 fun c o c1 c2 c3 e => up c o c1 (M.keep c o c1 c2 c3 e)
      have qq := M.its m i l e1 e2
      have hm := (List.getElem?_eq_some_iff.mp e1).1
      simp only [hm, if_true] at qq
      exact qq.at fun o e => up _ o (D.iz i (List.mem_of_getElem? e1)).1 e
  · intro a h' f1' ef hz' hs'
    subst ef
    simp only [Bool.false_eq_true, if_false]
    refine wpAny_bind ?_
    refine wpAny_forIn_array' _ (fun rest b s' => ∃ (j : Nat) (h : Heap), b = (none, (xs.take j).toArray) ∧ rest = (is.map Value.ref).drop j ∧ j ≤ is.length ∧ s' = { s with heap := h } ∧ ZipF h z TI TO (rawInt a) f1' ∧ Its h is ls (fun m => if m < j then k + 1 else k) ∧ h.objs.size = s.heap.objs.size ∧
      (∀ c o, c ≠ z → c ∉ is → s.heap.get? c = some o → h.get? c = some o)) _ ?_ ?_ _ _ ⟨0, h', rfl, rfl, Nat.zero_le _, rfl, hz', fun m i l e1 e2 => (hi m i l e1 e2).extBut hs'.extBut (D.iz i (List.mem_of_getElem? e1)).1, hs'.1, fun c o c1 _ e => hs'.extBut _ _ c1 e⟩
    · rintro x rest b s' ⟨j, h, rfl, er, hj, rfl, mz, mi, ms, mk⟩
      have hjl : j < is.length := by
        rcases Nat.lt_or_ge j is.length with q | q
        · exact q
        · rw [List.drop_of_length_le (by simp; omega)] at er
          cases er
      have ei : is[j]? = some is[j] := List.getElem?_eq_getElem hjl
      have ell : ls[j]? = some (ls[j]'(by omega)) := List.getElem?_eq_getElem (by omega)
      have exx : xs[j]? = some (xs[j]'(by omega)) := List.getElem?_eq_getElem (by omega)
      rw [List.drop_eq_getElem_cons (by simp; exact hjl), List.getElem_map] at er
      injection er with ex er
      subst ex er
      refine wpAny_bind (wpAny_holding ?_)
      show wpAny _ _ (Builtin.SmallTypes.nextOf (.ref is[j]) >>= _) _ _ _
      have hit : h.IsTupleIter is[j] (ls[j]'(by omega)) k := by
        have q := mi j _ _ ei ell
        simp only [Nat.lt_irrefl, if_false] at q
        exact q
      obtain ⟨items, hl, hxx⟩ := hx j _ _ ell exx
      have Dl := D.lz _ (List.mem_of_getElem? ell)
      have Di := D.iz _ (List.mem_of_getElem? ei)
      have hl' : Heap.IsTuple h (ls[j]'(by omega)) items := by
        obtain ⟨o, eo, r⟩ := hl
        exact ⟨o, mk _ _ Dl.1 (fun hm => Dl.2.2 _ hm rfl) eo, r⟩
      refine wpAny_bind (nextOf_tuple_item hit hl' hxx fun h₂ h1₂ hs₂ => wpAny_pure (wpAny_pure ?_))
      refine ⟨j + 1, h₂, ?_, rfl, hjl, rfl, hs₂.extBut _ _ Di.1.symm mz, fun m i l e1 e2 => ?_, by rw [hs₂.1, ms], fun c o c1 c3 e => hs₂.extBut _ _ (fun z => c3 (by rw [z]; exact List.getElem_mem hjl)) (mk c o c1 c3 e)⟩
      · rw [List.take_add_one, exx]
        simp
      · by_cases q : m = j
        · subst q
          rw [ei] at e1
          rw [ell] at e2
          cases e1
          cases e2
          simp only [Nat.lt_succ_self, if_true]
          exact h1₂
        · have ni : i ≠ is[j] := fun z => by
            subst z
            have := (List.getElem?_inj (by have := (List.getElem?_eq_some_iff.mp e1).1; exact this) D.nd).mp (e1.trans ei.symm)
            exact q this
          have qq := mi m i l e1 e2
          have ee : (if m < j + 1 then k + 1 else k) = (if m < j then k + 1 else k) := by
            by_cases q2 : m < j
            · rw [if_pos q2, if_pos (by omega)]
            · rw [if_neg q2, if_neg (by omega)]
          show Heap.IsTupleIter _ i l (if m < j + 1 then k + 1 else k)
          rw [ee]
          exact qq.extBut hs₂.extBut ni
    · rintro b s' ⟨j, h, rfl, er, hj, rfl, mz, mi, ms, mk⟩
      have hjl : j = is.length := by
        have := congrArg List.length er
        simp at this
        omega
      subst hjl
      rw [List.take_of_length_le (by omega)]
      dsimp only
      refine wpAny_bind (wpAny_newTuple ?_ (by rw [lxs]; exact hsz))
      refine wpAny_pure ⟨_, rfl, ?_⟩
      have up : ∀ c o, h.get? c = some o → (h.push { cls := .type "tuple", data := .seq xs.toArray.toList.toArray }).get? c = some o := fun c o e => Heap.get?_push_of_some _ e
      show Q (.ref h.objs.size) _
      rw [ms]
      refine hQ _ a f1' (up _ _ mz) ⟨v0, up _ _ (mk _ _ D.TOz (fun hm => (D.iz _ hm).2.2 rfl) hTO), l0⟩ (fun m i l e1 e2 => ?_) ?_ (by rw [Heap.size_push, ms]) fun c o c1 c2 c3 e => up _ _ (mk c o c1 c3 e)
      · have qq := mi m i l e1 e2
        have hm := (List.getElem?_eq_some_iff.mp e1).1
        simp only [hm, if_true] at qq
        exact qq.at fun o e => up _ o e
      · rw [← ms]
        exact Heap.get?_push_size _ rfl
theorem next_end {z TI TO i0 l0 : Addr} {is ls : List Addr} {k : Nat} {items v0 : Array Value} {f0 : Value} {f1 : Bool} {Q : Fin → Shared → Prop} (hh : A.handled = none) (D : ApartN z TI TO (i0 :: is) (l0 :: ls))
    (hz : ZipF s.heap z TI TO f0 f1) (hf : f0 = .none ∨ ∃ a : Nat, f0 = rawInt a) (hTI : IsSeq s.heap TI ((i0 :: is).map Value.ref).toArray) (hTO : IsSeq s.heap TO v0) (hi : s.heap.IsTupleIter i0 l0 k) (hl : s.heap.IsTuple l0 items) (hx : items[k]? = none)
    (hE : ∀ h' e, (∀ c o, c ≠ z → c ≠ TO → c ∉ (i0 :: is) → s.heap.get? c = some o → h'.get? c = some o) → (∃ o, h'.get? e = some o ∧ o.cls = .type "StopIteration") → E (.ref e) { s with heap := h' }) :
    wpAny (model prog w) A (Builtin.«zip.__next__» ⟨[.ref z], []⟩) Q E s := by
  show wpAny _ _ (field (.ref z) 2 >>= _) _ _ _
  refine wpAny_bind (wpAny_field hz rfl (x := .bool false) rfl ?_)
  show wpAny _ _ (field (.ref z) 3 >>= _) _ _ _
  refine wpAny_bind (wpAny_field hz rfl (x := .ref TI) rfl ?_)
  refine wpAny_bind (wpAny_seqItems hTI rfl ?_)
  have hne : (((i0 :: is).map Value.ref).toArray).isEmpty = false := rfl
  have D1 := D.iz i0 List.mem_cons_self
  have DL := D.lz l0 List.mem_cons_self
  dsimp only
  rw [hne]
  show wpAny _ _ (Builtin.SmallTypes.ownedTupleIsFree (.ref z) >>= _) _ _ _
  refine wpAny_bind (is_free hz hf ?_ ?_)
  · simp only [if_true]
    refine wpAny_bind (wpAny_rule ?_)
    refine wpAny_bind (wpAny_field hz rfl (x := .ref TO) rfl ?_)
    refine wpAny_bind (wpAny_setField_rec hz (by simp) fun h₁ hz₁ hs₁ => ?_)
    replace hz₁ : ZipF h₁ z TI TO .ellipsis f1 := hz₁
    refine wpAny_bind ?_
    simp only [List.map_cons, List.zipIdx_cons, List.forIn_cons]
    refine wpAny_bind (wpAny_bind (wpAny_onRaise ?_))
    show wpAny _ _ (Builtin.SmallTypes.nextOf (.ref i0) >>= _) _ _ _
    refine wpAny_bind (nextOf_tuple_end hh (hi.extBut hs₁.extBut D1.1) (hl.extBut hs₁.extBut DL.1) hx fun h₂ e hs₂ he => ?_)
    obtain ⟨oe, hoe, hce⟩ := he
    have hz₂ : ZipF h₂ z TI TO .ellipsis f1 := hs₂ _ _ D1.1.symm hz₁
    have hez : e ≠ z := fun x => by subst x; rw [hz₂] at hoe; cases hoe; simp at hce
    exact wpAny_setField_rec hz₂ (by simp) fun h₃ _ hs₃ => hE h₃ e (fun c o c1 _ c3 x => hs₃.extBut _ _ c1 (hs₂ _ _ (fun q => c3 (by rw [q]; exact List.mem_cons_self)) (hs₁.extBut _ _ c1 x))) ⟨oe, hs₃.extBut _ _ hez hoe, hce⟩
  · intro a h' f1' ef hz' hs'
    subst ef
    simp only [Bool.false_eq_true, if_false]
    refine wpAny_bind ?_
    rw [← Array.forIn_toList]
    simp only [List.map_cons, List.forIn_cons]
    refine wpAny_bind (wpAny_bind (wpAny_holding ?_))
    show wpAny _ _ (Builtin.SmallTypes.nextOf (.ref i0) >>= _) _ _ _
    refine wpAny_bind (nextOf_tuple_end hh (hi.extBut hs'.extBut D1.1) (hl.extBut hs'.extBut DL.1) hx fun h₂ e hs₂ he => ?_)
    exact hE h₂ e (fun c o c1 _ c3 x => hs₂ _ _ (fun q => c3 (by rw [q]; exact List.mem_cons_self)) (hs'.extBut _ _ c1 x)) he
/-- zip of nothing -/
theorem next_none {z TI TO : Addr} {f0 : Value} {f1 : Bool} {Q : Fin → Shared → Prop} (hh : A.handled = none) (hz : ZipF s.heap z TI TO f0 f1) (hTI : IsSeq s.heap TI #[])
    (hE : ∀ h' e, (∀ c o, s.heap.get? c = some o → h'.get? c = some o) → (∃ o, h'.get? e = some o ∧ o.cls = .type "StopIteration") → E (.ref e) { s with heap := h' }) :
    wpAny (model prog w) A (Builtin.«zip.__next__» ⟨[.ref z], []⟩) Q E s := by
  show wpAny _ _ (field (.ref z) 2 >>= _) _ _ _
  refine wpAny_bind (wpAny_field hz rfl (x := .bool false) rfl ?_)
  show wpAny _ _ (field (.ref z) 3 >>= _) _ _ _
  refine wpAny_bind (wpAny_field hz rfl (x := .ref TI) rfl ?_)
  refine wpAny_bind (wpAny_seqItems hTI rfl ?_)
  dsimp only
  show wpAny _ _ (rule "zip.__next__.no-iterables" >>= _) _ _ _
  refine wpAny_bind (wpAny_rule ?_)
  refine wpAny_bind ?_
  unfold Builtin.SmallTypes.stopIteration
  refine wpAny_bind ?_
  simp only [newExc, newTuple]
  refine wpAny_bind (wpAny_newObj_type ?_ (by size_fits))
  refine wpAny_bind (m := firstArgMember _ _) (wpAny_of_eq (a := Value.none) (by first | rfl | (simp only [firstArgMember]; rfl)) ?_)
  refine wpAny_newObj_type ?_ (by size_fits)
  simp only [raiseNew]
  refine wpAny_bind (wpAny_handled ?_)
  first | rw [show A.in1.handled = none from hh] | rw [hh]
  refine wpAny_bind (wpAny_pure (wpAny_throw ?_))
  exact hE _ _ (fun c o e => Heap.get?_push_of_some _ (Heap.get?_push_of_some _ e)) ⟨_, Heap.get?_push_size _ rfl, rfl⟩
theorem pyNext_item {z TI TO : Addr} {is ls : List Addr} {k : Nat} {xs : List Value} {v0 : Array Value} {f0 : Value} {f1 : Bool} {Q : Option Value → Shared → Prop} (D : ApartN z TI TO is ls) (h1 : 1 ≤ is.length) (hsz : is.length ≤ sizeLine) (lls : ls.length = is.length) (lxs : xs.length = is.length)
    (hz : ZipF s.heap z TI TO f0 f1) (hf : f0 = .none ∨ ∃ a : Nat, f0 = rawInt a) (hTI : IsSeq s.heap TI (is.map Value.ref).toArray) (hTO : IsSeq s.heap TO v0) (l0 : v0.size = is.length)
    (hi : Its s.heap is ls (fun _ => k)) (hx : At s.heap ls xs k)
    (hQ : ∀ h' (a : Nat) f1', ZipF h' z TI TO (rawInt a) f1' → (∃ v, IsSeq h' TO v ∧ v.size = is.length) → Its h' is ls (fun _ => k + 1) → IsSeq h' s.heap.objs.size xs.toArray → h'.objs.size = s.heap.objs.size + 1 →
      (∀ c o, c ≠ z → c ≠ TO → c ∉ is → s.heap.get? c = some o → h'.get? c = some o) → Q (some (.ref s.heap.objs.size)) { s with heap := h' }) :
    wpAny (model prog w) A (pyNext (.ref z)) Q E s := by
  have hT : s.TypeIs (.ref z) "zip" := ⟨_, hz, rfl⟩
  unfold pyNext
  exact wpAny_bind (wpAny_attempt (wpAny_callSpecial?_slot (name := Str.ofString "__next__") hT F.slot_zip_next
    (wpAny_call_entry F.slot_zip_next hT F.entry_zip_next
      (next_itemG D h1 hsz lls lxs hz hf hTI hTO l0 hi hx fun h' a f1' a1 a2 a3 a4 a5 a6 => wpAny_pure (hQ h' a f1' a1 a2 a3 a4 a5 a6)) (F.args_zip_next_1 _))))
theorem pyNext_end {z TI TO i0 l0 : Addr} {is ls : List Addr} {k : Nat} {items v0 : Array Value} {f0 : Value} {f1 : Bool} {Q : Option Value → Shared → Prop} (hh : A.handled = none) (D : ApartN z TI TO (i0 :: is) (l0 :: ls))
    (hz : ZipF s.heap z TI TO f0 f1) (hf : f0 = .none ∨ ∃ a : Nat, f0 = rawInt a) (hTI : IsSeq s.heap TI ((i0 :: is).map Value.ref).toArray) (hTO : IsSeq s.heap TO v0) (hi : s.heap.IsTupleIter i0 l0 k) (hl : s.heap.IsTuple l0 items) (hx : items[k]? = none)
    (hQ : ∀ h', (∀ c o, c ≠ z → c ≠ TO → c ∉ (i0 :: is) → s.heap.get? c = some o → h'.get? c = some o) → Q none { s with heap := h' }) : wpAny (model prog w) A (pyNext (.ref z)) Q E s := by
  have hT : s.TypeIs (.ref z) "zip" := ⟨_, hz, rfl⟩
  unfold pyNext
  refine wpAny_bind (wpAny_attempt (wpAny_callSpecial?_slot (name := Str.ofString "__next__") hT F.slot_zip_next
    (wpAny_call_entry F.slot_zip_next hT F.entry_zip_next (next_end hh D hz hf hTI hTO hi hl hx fun h' e hk he => ?_) (F.args_zip_next_1 _))))
  obtain ⟨o, ho, hc⟩ := he
  refine wpAny_bind (wpAny_isInstance (T := "StopIteration") (b := true) ⟨o, ho, hc⟩ isSubtype_stop ?_)
  exact wpAny_pure (hQ _ hk)
theorem pyNext_none {z TI TO : Addr} {f0 : Value} {f1 : Bool} {Q : Option Value → Shared → Prop} (hh : A.handled = none) (hz : ZipF s.heap z TI TO f0 f1) (hTI : IsSeq s.heap TI #[])
    (hQ : ∀ h', (∀ c o, s.heap.get? c = some o → h'.get? c = some o) → Q none { s with heap := h' }) : wpAny (model prog w) A (pyNext (.ref z)) Q E s := by
  have hT : s.TypeIs (.ref z) "zip" := ⟨_, hz, rfl⟩
  unfold pyNext
  refine wpAny_bind (wpAny_attempt (wpAny_callSpecial?_slot (name := Str.ofString "__next__") hT F.slot_zip_next
    (wpAny_call_entry F.slot_zip_next hT F.entry_zip_next (next_none hh hz hTI fun h' e hk he => ?_) (F.args_zip_next_1 _))))
  obtain ⟨o, ho, hc⟩ := he
  refine wpAny_bind (wpAny_isInstance (T := "StopIteration") (b := true) ⟨o, ho, hc⟩ isSubtype_stop ?_)
  exact wpAny_pure (hQ _ hk)
theorem pyIter_zip {z TI TO : Addr} {f0 : Value} {f1 : Bool} {Q : Value → Shared → Prop} (hz : ZipF s.heap z TI TO f0 f1) (h : Q (.ref z) s) : wpAny (model prog w) A (pyIter (.ref z)) Q E s := by
  have hT : s.TypeIs (.ref z) "zip" := ⟨_, hz, rfl⟩
  refine wpAny_pyIter_slot hT F.slot_zip_iter (wpAny_call_entry F.slot_zip_iter hT F.entry_zip_iter ?_ (F.args_zip_iter_1 _))
  show wpAny _ _ (ret (.ref z)) _ _ s
  exact wpAny_pure ⟨_, rfl, "zip", _, hT, F.slot_zip_next.lookup, h⟩
end
theorem typeCall_n (as : List Value) : checkTypeCall "zip" ⟨as, []⟩ = pure () := by kernel_rfl
theorem newCall_n : ∀ as : List Value, as.length ≤ 9 → checkBuiltinCall "zip.__new__" ⟨.type "zip" :: as, []⟩ = pure ()
  | [], _ => by kernel_rfl
  | [a], _ => by kernel_rfl
  | [a, b], _ => by kernel_rfl
  | [a, b, c], _ => by kernel_rfl
  | [a, b, c, d], _ => by kernel_rfl
  | [a, b, c, d, e], _ => by kernel_rfl
  | [a, b, c, d, e, f], _ => by kernel_rfl
  | [a, b, c, d, e, f, g], _ => by kernel_rfl
  | [a, b, c, d, e, f, g, h], _ => by kernel_rfl
  | [a, b, c, d, e, f, g, h, i], _ => by kernel_rfl
  | _ :: _ :: _ :: _ :: _ :: _ :: _ :: _ :: _ :: _ :: as, h => absurd h (by simp only [List.length_cons]; omega)
theorem init_n (a : Value) (as : List Value) : argsOk "object.__init__" ⟨a :: as, []⟩ := by
  unfold argsOk; rw [signature?_of (id := "object.__init__") (n := ['_', '_', 't', 'i', 'n', 'i', '_', '_']) (o := ['t', 'c', 'e', 'j', 'b', 'o']) (by kernel_rfl) PySem.F.owner_object]; kernel_rfl
/-- the iterators of the tuples -/
def pushIts (h : Heap) : List Addr → Heap
  | [] => h
  | l :: ls => pushIts (h.push { cls := .type "tuple_iterator", data := .fields #[.ref l, .int 0 0] }) ls
theorem pushIts_size : ∀ (ls : List Addr) (h : Heap), (pushIts h ls).objs.size = h.objs.size + ls.length
  | [], _ => rfl
  | l :: ls, h => by
    show (pushIts (h.push _) ls).objs.size = _
    rw [pushIts_size ls, Heap.size_push, List.length_cons]
    omega
theorem pushIts_keep : ∀ (ls : List Addr) (h : Heap) (c : Addr) (o : Obj), h.get? c = some o → (pushIts h ls).get? c = some o
  | [], _, _, _, e => e
  | l :: ls, h, c, o, e => pushIts_keep ls _ c o (Heap.get?_push_of_some _ e)
theorem pushIts_at : ∀ (ls : List Addr) (h : Heap) (m : Nat) (l : Addr), ls[m]? = some l → (pushIts h ls).IsTupleIter (h.objs.size + m) l 0
  | [], _, m, _, e => by simp at e
  | l :: ls, h, 0, l', e => by
    cases e
    exact ⟨_, pushIts_keep ls _ _ _ (Heap.get?_push_size _ rfl), rfl, rfl⟩
  | l :: ls, h, m + 1, l', e => by
    have := pushIts_at ls (h.push { cls := .type "tuple_iterator", data := .fields #[.ref l, .int 0 0] }) m l' e
    rw [Heap.size_push] at this
    rw [show h.objs.size + (m + 1) = h.objs.size + 1 + m by omega]
    exact this
theorem pushIts_snoc : ∀ (ls : List Addr) (l : Addr) (h : Heap), pushIts h (ls ++ [l]) = (pushIts h ls).push { cls := .type "tuple_iterator", data := .fields #[.ref l, .int 0 0] }
  | [], _, _ => rfl
  | _ :: ls, l, h => pushIts_snoc ls l _
/-- the iterators' addresses -/
def itAddrs (n k : Nat) : List Addr := (List.range k).map fun m => n + m
section
variable {prog : Program} {w : World} {A : Around} {E : Value → Shared → Prop} {s : Shared}
theorem iterAll_n {ls : List Addr} {Q : List Value → Shared → Prop} (hl : ∀ l ∈ ls, ∃ items, s.heap.IsTuple l items) (hQ : Q ((itAddrs s.heap.objs.size ls.length).map Value.ref) { s with heap := pushIts s.heap ls }) :
    wpAny (model prog w) A (Builtin.SmallTypes.iterAll (ls.map Value.ref)) Q E s := by
  unfold Builtin.SmallTypes.iterAll
  refine wpAny_bind ?_
  refine wpAny_forIn_list _ (fun rest b s' => ∃ j, rest = (ls.map Value.ref).drop j ∧ j ≤ ls.length ∧ b = ((itAddrs s.heap.objs.size j).map Value.ref).toArray ∧ s' = { s with heap := pushIts s.heap (ls.take j) }) _ ?_ ?_ _ _ ⟨0, rfl, Nat.zero_le _, rfl, rfl⟩
  · rintro x rest b s' ⟨j, er, hj, rfl, rfl⟩
    have hjl : j < ls.length := by
      rcases Nat.lt_or_ge j ls.length with q | q
      · exact q
      · rw [List.drop_of_length_le (by simp; omega)] at er
        cases er
    rw [List.drop_eq_getElem_cons (by simp; exact hjl), List.getElem_map] at er
    injection er with ex er
    subst ex er
    obtain ⟨items, o, eo, r⟩ := hl ls[j] (List.getElem_mem hjl)
    have ht : Heap.IsTuple (Shared.heap { s with heap := pushIts s.heap (ls.take j) }) ls[j] items := ⟨o, pushIts_keep _ _ _ _ eo, r⟩
    refine wpAny_bind (wpAny_holding (wpAny_pyIter_tuple ht ?_))
    refine wpAny_pure ?_
    refine ⟨j + 1, rfl, hjl, ?_, ?_⟩
    · show _ = _
      unfold itAddrs
      rw [List.range_succ, List.map_append, List.map_append, List.map_map]
      simp [pushIts_size, Nat.min_eq_left (Nat.le_of_lt hjl)]
    · rw [List.take_add_one, List.getElem?_eq_getElem hjl]
      show _ = { s with heap := pushIts s.heap (ls.take j ++ [ls[j]]) }
      rw [pushIts_snoc]
  · rintro b s' ⟨j, er, hj, rfl, rfl⟩
    have hjl : j = ls.length := by
      have := congrArg List.length er
      simp at this
      omega
    subst hjl
    refine wpAny_pure ?_
    rw [List.take_of_length_le (Nat.le_refl _)]
    simpa using hQ
end
abbrev zH3 (h : Heap) (ls : List Addr) : Heap := (pushIts h ls).push { cls := .type "tuple", data := .seq ((itAddrs h.objs.size ls.length).map Value.ref).toArray }
abbrev zH4 (h : Heap) (ls : List Addr) : Heap := (zH3 h ls).push { cls := .type "tuple", data := .seq (((itAddrs h.objs.size ls.length).map Value.ref).map fun _ => Value.none).toArray }
abbrev zH5 (h : Heap) (ls : List Addr) : Heap := (zH4 h ls).push { cls := .type "zip", data := .fields #[.none, .bool false, .bool false, .ref (pushIts h ls).objs.size, .ref (zH3 h ls).objs.size] }
theorem its_len (n k : Nat) : ((itAddrs n k).map Value.ref).length = k := by
  unfold itAddrs
  rw [List.length_map, List.length_map, List.length_range]
theorem meets_n (ls : List Addr) (hn : ls.length ≤ 9) :
    Meets (Builtin.«zip.__new__» ⟨.type "zip" :: ls.map Value.ref, []⟩) (fun _ R s => (∀ l ∈ ls, ∃ items, s.heap.IsTuple l items) ∧
      R (.ok (.ret (.ref (zH4 s.heap ls).objs.size))) { s with heap := zH5 s.heap ls }) :=
  .of_wp fun prog w A R s h => by
    obtain ⟨hp, g, d, tk, os⟩ := s; obtain ⟨hl, h⟩ := h
    have hsub := sub_zip
    have z1 : ((itAddrs hp.objs.size ls.length).map Value.ref).length ≤ sizeLine := by rw [its_len]; exact Nat.le_trans hn (by decide)
    have z2 : (((itAddrs hp.objs.size ls.length).map Value.ref).map fun _ => Value.none).length ≤ sizeLine := by rw [List.length_map]; exact z1
    wp_walk using iterAll_n (s := ⟨hp, g, d, tk, os⟩) hl
    rw [if_neg (by rw [List.size_toArray]; exact Nat.not_lt.mpr z1)]
    wp_walk
    rw [if_neg (by rw [List.size_toArray]; exact Nat.not_lt.mpr z2)]
    wp_walk
    exact ⟨_, rfl, h⟩
section
variable {prog : Program} {w : World} {A : Around} {E : Value → Shared → Prop} {s : Shared}
theorem call_n {ls : List Addr} {Q : Value → Shared → Prop} (hn : ls.length ≤ 9) (hl : ∀ l ∈ ls, ∃ items, s.heap.IsTuple l items)
    (h : ∀ h', IsZip h' (s.heap.objs.size + ls.length + 2) (s.heap.objs.size + ls.length) (s.heap.objs.size + ls.length + 1) .none → IsSeq h' (s.heap.objs.size + ls.length) ((itAddrs s.heap.objs.size ls.length).map Value.ref).toArray →
      IsSeq h' (s.heap.objs.size + ls.length + 1) (List.replicate ls.length Value.none).toArray → Its h' (itAddrs s.heap.objs.size ls.length) ls (fun _ => 0) → h'.objs.size = s.heap.objs.size + ls.length + 3 →
      (∀ c o, s.heap.get? c = some o → h'.get? c = some o) → Q (.ref (s.heap.objs.size + ls.length + 2)) { s with heap := h' }) :
    wpAny (model prog w) A (call (.type "zip") (ls.map Value.ref)) Q E s := by
  refine callType_new PySem.F.called_zip (by decide) (typeCall_n _) (newCall_n _ (by rw [List.length_map]; exact hn)) (fun obj => init_n obj _) PySem.F.entry_zip_new (meets_n ls hn) ⟨hl, ?_⟩
  have z1 : (pushIts s.heap ls).objs.size = s.heap.objs.size + ls.length := pushIts_size ..
  have z3 : (zH3 s.heap ls).objs.size = s.heap.objs.size + ls.length + 1 := by rw [Heap.size_push, z1]
  have z4 : (zH4 s.heap ls).objs.size = s.heap.objs.size + ls.length + 2 := by rw [Heap.size_push, z3]
  have z5 : (zH5 s.heap ls).objs.size = s.heap.objs.size + ls.length + 3 := by rw [Heap.size_push, z4]
  have g5 : (zH5 s.heap ls).get? (zH4 s.heap ls).objs.size = some _ := Heap.get?_push_size _ rfl
  have g4 : (zH5 s.heap ls).get? (zH3 s.heap ls).objs.size = some _ := Heap.get?_push_of_some _ (Heap.get?_push_size _ rfl)
  have g3 : (zH5 s.heap ls).get? (pushIts s.heap ls).objs.size = some _ := Heap.get?_push_of_some _ (Heap.get?_push_of_some _ (Heap.get?_push_size _ rfl))
  have up : ∀ c o, (pushIts s.heap ls).get? c = some o → (zH5 s.heap ls).get? c = some o := fun c o e => Heap.get?_push_of_some _ (Heap.get?_push_of_some _ (Heap.get?_push_of_some _ e))
  show _ ∧ _
  rw [z1, z3, z4] at g5
  rw [z1] at g3
  rw [z3] at g4
  rw [z4]
  have e4 : (((itAddrs s.heap.objs.size ls.length).map Value.ref).map fun _ => Value.none) = List.replicate ls.length Value.none := by
    rw [List.map_const', its_len]
  rw [e4] at g4
  refine ⟨⟨_, g5, rfl⟩, h _ g5 g3 g4 (fun m i l e1 e2 => ?_) z5 fun c o x => up _ _ (pushIts_keep _ _ _ _ x)⟩
  have hm := (List.getElem?_eq_some_iff.mp e2).1
  unfold itAddrs at e1
  rw [List.getElem?_map, List.getElem?_range hm] at e1
  cases e1
  exact (pushIts_at ls s.heap m l e2).at fun o e => up _ _ e
end
end Zn

set_option Elab.async false
set_option linter.all false
set_option maxRecDepth 100000
set_option maxHeartbeats 1000000
/-! for column in zip(*rows), rows a tuple of tuples of one length -/
namespace Zn
open PySem PySem.Spec PyProof.Rows L2
def ItzN (K : PySem.W.Frag) (ls : List Addr) : It :=
  ⟨fun i H => ls ≠ [] ∧ ∃ rows : List (List V), PySem.W.EachIs (SqT K H) ls rows ∧ ∀ r ∈ rows, i < r.length,
    fun i H v H' => ∃ T col, v = .ref T ∧ H T = none ∧ H' = upd H T (.tup col) ∧ ∀ rows : List (List V), PySem.W.EachIs (SqT K H) ls rows → rows.map (fun r => r[i]?) = col.map some,
    fun i H => ls = [] ∨ ∃ l0 ls' r0, ls = l0 :: ls' ∧ SqT K H l0 r0 ∧ r0.length ≤ i⟩
theorem cols {X : Cx} {pins : List (Addr × Obj)} {σ : L2.St} {H : Hp} {s : Shared} (I : Inv X pins σ H s) {i : Nat} : ∀ {ls : List Addr} {rows : List (List V)}, PySem.W.EachIs (SqT X.K H) ls rows → (∀ r ∈ rows, i < r.length) →
    ∃ (xs : List Value) (col : List V), xs.length = ls.length ∧ Vals col xs ∧ rows.map (fun r => r[i]?) = col.map some ∧ At s.heap ls xs i
  | _, _, .nil, _ => ⟨[], [], rfl, .nil, rfl, fun m l x e => by simp at e⟩
  | _, _, .cons (b := r) h t, hl => by
    obtain ⟨xs, col, l1, v1, e1, a1⟩ := cols I t fun r hr => hl r (List.mem_cons_of_mem _ hr)
    have hi := hl r List.mem_cons_self
    obtain ⟨its, rv, p, _⟩ := I.tuple h
    obtain ⟨u, hu, ru⟩ := rv.get (List.getElem?_eq_getElem hi)
    refine ⟨u :: xs, r[i] :: col, by rw [List.length_cons, List.length_cons, l1], .cons ru v1, by rw [List.map_cons, List.map_cons, e1, List.getElem?_eq_getElem hi], fun m l x e2 e3 => ?_⟩
    cases m with
    | zero =>
      cases e2
      cases e3
      exact ⟨its.toArray, p, by simpa using hu⟩
    | succ m => exact a1 m l x e2 e3
theorem rows_inj {X : Cx} {pins : List (Addr × Obj)} {σ : L2.St} {H : Hp} {s : Shared} (I : Inv X pins σ H s) : ∀ {ls : List Addr} {rows rows' : List (List V)}, PySem.W.EachIs (SqT X.K H) ls rows → PySem.W.EachIs (SqT X.K H) ls rows' → rows = rows'
  | _, _, _, .nil, .nil => rfl
  | _, _, _, .cons h t, .cons h' t' => by rw [I.tuple_inj h h', rows_inj I t t']
theorem go_name {M : Model} {A : Around} {E : Value → Shared → Prop} {s : Shared} {x : Str} {p : Pos} {a b : Value} {Q : Unit → Shared → Prop} (h : Q () s) : wpAny M A (letOwnedTupleGo (.Name x p) a b) Q E s := by
  unfold letOwnedTupleGo
  exact wpAny_pure h
theorem callWith_starT {M : Model} {A : Around} {E : Value → Shared → Prop} {s : Shared} {env : Env} {pos p : Pos} {e : Expr} {T : String} {Q : Value → Shared → Prop}
    (h : wpAny M A (eval e env) (fun v s₁ => PySem.W.StarOf M A E v (fun vs s₂ => wpAny M A (call (.type T) vs) Q E s₂) s₁) E s) (he : starEach [.Starred e p] env = [(true, eval e env)] := by rfl) :
    wpAny M A (callWith pos (.type T) [] (backTo pos (starEach [.Starred e p] env)) []) Q E s := by
  rw [he]
  refine PySem.W.ks_call (P := fun _ => True) rfl (fun h _ => ⟨.machine, .inr (.inl rfl), ?_⟩) (PySem.W.ks_lone (wpAny_mono h (fun v s₁ h₁ => ?_) fun _ _ x => x))
  · exact .of_pure rfl
  · unfold PySem.W.StarOf at h₁ ⊢
    exact wpAny_mono h₁ (fun b s₂ ⟨eb, h₂⟩ => ⟨eb, wpAny_mono h₂ (fun vs s₃ h₃ => ⟨trivial, h₃⟩) fun _ _ x => x⟩) fun _ _ x => x
theorem turn_zipN {P : Program} {w : World} {K : PySem.W.Frag} {x : Str} {tp : Pos} {z TI TO : Addr} {is ls : List Addr} (D : ApartN z TI TO is ls) (lls : ls.length = is.length) (l9 : is.length ≤ 9) :
    Turn P w K (.Name x tp) (ItzN K ls) (z :: TI :: TO :: is) z (fun i h => (∃ f0 f1, (f0 = .none ∨ ∃ a : Nat, f0 = rawInt a) ∧ ZipF h z TI TO f0 f1) ∧ IsSeq h TI (is.map Value.ref).toArray ∧ (∃ v, IsSeq h TO v ∧ v.size = is.length) ∧ Its h is ls (fun _ => i)) where
  mem := by simp
  obj := fun i h st c hc => by
    obtain ⟨⟨f0, f1, _, hz⟩, hTI, ⟨v, hTO, _⟩, hi⟩ := st
    rcases List.mem_cons.mp hc with rfl | hc
    · exact ⟨_, hz, fun v q => nomatch q⟩
    rcases List.mem_cons.mp hc with rfl | hc
    · exact ⟨_, hTI, fun v q => nomatch q⟩
    rcases List.mem_cons.mp hc with rfl | hc
    · exact ⟨_, hTO, fun v q => nomatch q⟩
    obtain ⟨m, hm⟩ := List.mem_iff_getElem?.mp hc
    have hm1 := (List.getElem?_eq_some_iff.mp hm).1
    obtain ⟨o, e, _, d⟩ := hi m c (ls[m]'(by omega)) hm (List.getElem?_eq_getElem (by omega))
    exact ⟨o, e, fun v q => by rw [d] at q; cases q⟩
  keep := fun i h h' st k => by
    obtain ⟨⟨f0, f1, hf, hz⟩, hTI, ⟨v, hTO, lv⟩, hi⟩ := st
    exact ⟨⟨f0, f1, hf, k z (by simp) _ hz⟩, k TI (by simp) _ hTI, ⟨v, k TO (by simp) _ hTO, lv⟩, fun m j l e1 e2 => (hi m j l e1 e2).at fun o q => k j (by simp [List.mem_of_getElem? e1]) o q⟩
  item := by
    intro X hP hw hK hc i pins s σ H E I hf st hg
    subst hP hw hK
    obtain ⟨⟨f0, f1, hf0, hz⟩, hTI, ⟨v, hTO, lv⟩, hi⟩ := st
    obtain ⟨hne, rows, hr, hlt⟩ := hg
    obtain ⟨xs, col, lx, vx, ec, hx⟩ := cols I hr hlt
    have l1 : 1 ≤ is.length := by
      rw [← lls]
      exact List.length_pos_iff.mpr hne
    have hzl : z < s.heap.objs.size := Heap.lt_size hz
    have lc : col.length = xs.length := vx.length
    refine pyNext_item D l1 (Nat.le_trans l9 (by decide)) lls (by omega) hz hf0 hTI hTO lv hi hx fun h' a f1' z' hTO' hi' hT hsz hk => ⟨_, rfl, go_name ?_⟩
    have new : ObjOk X.prog X.w (upd H s.heap.objs.size (.tup col)) h' s.heap.objs.size (.tup col) :=
      ⟨by show col.length ≤ sizeLine; rw [lc, lx, lls]; exact Nat.le_trans l9 (by decide), xs, vx, ⟨_, hT, rfl, _, rfl⟩⟩
    have nz : ∀ c o, c ∉ (z :: TI :: TO :: is) → s.heap.get? c = some o → h'.get? c = some o := fun c o hb q => hk c o (fun e => hb (by simp [e])) (fun e => hb (by simp [e])) (fun e => hb (by simp [e])) q
    have I1 : Inv X pins σ (upd H s.heap.objs.size (.tup col)) { s with heap := h' } := I.turnedNew (t' := s.toks) (ch := z :: TI :: TO :: is) nz hf (Nat.le_refl _) new
    refine ⟨.ref s.heap.objs.size, _, I1, rfl, ⟨_, col, rfl, I.hok.fresh (Nat.le_refl _), rfl, fun rows' hr' => by rw [← rows_inj I hr hr']; exact ec⟩, ⟨⟨_, f1', .inr ⟨a, rfl⟩, z'⟩, ?_, hTO', hi'⟩, fun c hcm => ?_⟩
    · exact hk TI _ D.TIz D.TITO (fun hm => (D.iz _ hm).2.1 rfl) hTI
    · have hlt' : c < s.heap.objs.size := by
        rcases List.mem_cons.mp hcm with rfl | hc
        · exact hzl
        rcases List.mem_cons.mp hc with rfl | hc
        · exact Heap.lt_size hTI
        rcases List.mem_cons.mp hc with rfl | hc
        · exact Heap.lt_size hTO
        obtain ⟨m, hm⟩ := List.mem_iff_getElem?.mp hc
        have hm1 := (List.getElem?_eq_some_iff.mp hm).1
        obtain ⟨o, e, _, d⟩ := hi m c (ls[m]'(by omega)) hm (List.getElem?_eq_getElem (by omega))
        exact Heap.lt_size e
      rw [upd_ne (Nat.ne_of_lt hlt')]
      exact (hf c hcm).1
  done := by
    intro X hP hw hK hc i pins s σ H E I hf st hg
    subst hP hw hK
    obtain ⟨⟨f0, f1, hf0, hz⟩, hTI, ⟨v, hTO, lv⟩, hi⟩ := st
    rcases hg with rfl | ⟨l0, ls', r0, rfl, hr0, hend⟩
    · have : is = [] := List.length_eq_zero_iff.mp lls.symm
      subst this
      exact pyNext_none (I.ok.hd hc) hz hTI fun h' hk => ⟨rfl, I.turnedL (t' := s.toks) (ch := z :: TI :: TO :: []) (fun c o _ q => hk c o q) hf⟩
    · cases is with
      | nil => cases lls
      | cons i0 is =>
        obtain ⟨its, rv, p, _⟩ := I.tuple hr0
        have l0' := rv.length
        exact pyNext_end (I.ok.hd hc) D hz hf0 hTI hTO (hi 0 i0 l0 rfl rfl) (show s.heap.IsTuple l0 its.toArray from p) (by simp; omega) fun h' hk => ⟨rfl, I.turnedL (t' := s.toks) (ch := z :: TI :: TO :: i0 :: is) (fun c o hb q =>
          hk c o (fun e => hb (by simp [e])) (fun e => hb (by simp [e])) (fun e => hb (List.mem_cons_of_mem _ (List.mem_cons_of_mem _ (List.mem_cons_of_mem _ e)))) q) hf⟩
  self := fun A i s Q E st h => by
    obtain ⟨⟨f0, f1, _, hz⟩, _⟩ := st
    exact pyIter_zip hz h
theorem apart_new {N : Nat} {ls : List Addr} (h : ∀ l ∈ ls, l < N) : ApartN (N + ls.length + 2) (N + ls.length) (N + ls.length + 1) (itAddrs N ls.length) ls where
  TIz := by show N + ls.length ≠ N + ls.length + 2; omega
  TOz := by show N + ls.length + 1 ≠ N + ls.length + 2; omega
  TITO := by show N + ls.length ≠ N + ls.length + 1; omega
  iz := fun i hi => by
    obtain ⟨m, hm, rfl⟩ := List.mem_map.mp hi
    have := List.mem_range.mp hm
    refine ⟨?_, ?_, ?_⟩ <;> · show N + m ≠ _; omega
  nd := by
    unfold itAddrs
    exact List.Pairwise.map _ (fun a b (h : a ≠ b) e => h (Nat.add_left_cancel e)) List.nodup_range
  lz := fun l hl => by
    have hN := h l hl
    refine ⟨Nat.ne_of_lt (Nat.lt_of_lt_of_le hN (by show N ≤ N + ls.length + 2; omega)), Nat.ne_of_lt (Nat.lt_of_lt_of_le hN (by show N ≤ N + ls.length + 1; omega)), fun i hi => ?_⟩
    obtain ⟨m, hm, rfl⟩ := List.mem_map.mp hi
    exact Nat.ne_of_lt (Nat.lt_of_lt_of_le hN (Nat.le_add_right _ _))
def iZipS (K : PySem.W.Frag) (te : TE) : TI := fun σ H R => te σ H fun x H1 => ∃ (a : Addr) (ls : List Addr) (rows : List (List V)), x = .ref a ∧ SqT K H1 a (ls.map V.ref) ∧ PySem.W.EachIs (SqT K H1) ls rows ∧ ls.length ≤ 9 ∧ R (ItzN K ls) H1
theorem vals_refs : ∀ {ls : List Addr} {us : List Value}, Vals (ls.map V.ref) us → us = ls.map Value.ref
  | [], _, .nil => rfl
  | l :: ls, _, .cons r t => by
    have r' : _ = Value.ref l := r
    rw [r', vals_refs t]
    rfl
theorem each_mem {α β : Type} {R : α → β → Prop} : ∀ {as : List α} {bs : List β}, PySem.W.EachIs R as bs → ∀ a ∈ as, ∃ b, R a b
  | _, _, .cons r t, a, h => by
    rcases List.mem_cons.mp h with rfl | h
    · exact ⟨_, r⟩
    · exact each_mem t a h
theorem pi_zipStar {X : Cx} {e : Expr} {te : TE} {x : Str} {tp p p' pos : Pos} (hg : Gl X "zip") (hm : X.mg "zip" = none) (he : PE X e te) (hs : starEach [.Starred e p'] X.env = [(true, eval e X.env)] := by rfl) :
    PI X (.Name x tp) (.Call (.Name "zip" p) [.Starred e p'] [] pos) (iZipS X.K te) := by
  refine ⟨fun pins s σ H R I h => ?_⟩
  refine Call_ (ld_blt I hg hm PyProof.Rows.boot_zip (callWith_starT (thn (he.run pins s σ H _ I h) fun v s1 ⟨y, H1, I1, ry, a, ls, rows, ey, hT, hr, hn, q⟩ => ?_) hs))
  subst ey
  obtain rfl : v = Value.ref a := ry
  refine star_tup I1 hT fun us s2 I2 rv => ?_
  rw [vals_refs rv]
  have tup : ∀ l ∈ ls, ∃ items, s2.heap.IsTuple l items := fun l hl => by
    obtain ⟨r, hr⟩ := each_mem hr l hl
    obtain ⟨its, _, p, _⟩ := I2.tuple hr
    exact ⟨_, p⟩
  have low : ∀ l ∈ ls, l < s2.heap.objs.size := fun l hl => by
    obtain ⟨items, o, eo, _⟩ := tup l hl
    exact Heap.lt_size eo
  refine call_n hn tup fun h' hz hTI hTO hits hsz hk => pyIter_zip hz ?_
  have I3 : Inv X pins σ H1 { s2 with heap := h' } := I2.kept (t' := s2.toks) hk
  have li : (itAddrs s2.heap.objs.size ls.length).length = ls.length := by unfold itAddrs; rw [List.length_map, List.length_range]
  refine ⟨_, (s2.heap.objs.size + ls.length + 2) :: (s2.heap.objs.size + ls.length) :: (s2.heap.objs.size + ls.length + 1) :: itAddrs s2.heap.objs.size ls.length, _, _, H1, rfl, I3, turn_zipN (apart_new low) li.symm (by rw [li]; exact hn), ⟨⟨_, _, .inl rfl, hz⟩, hTI, ⟨_, hTO, by rw [List.size_toArray, List.length_replicate, li]⟩, hits⟩, fun c hcm => ?_, q⟩
  have hle : s2.heap.objs.size ≤ c := by
    rcases List.mem_cons.mp hcm with rfl | hc
    · omega
    rcases List.mem_cons.mp hc with rfl | hc
    · omega
    rcases List.mem_cons.mp hc with rfl | hc
    · omega
    obtain ⟨m, _, rfl⟩ := List.mem_map.mp hc
    omega
  exact I2.fpOk hle (I2.hok.fresh hle)
end Zn

set_option Elab.async false
set_option linter.all false
set_option maxRecDepth 100000
set_option maxHeartbeats 3200000
/-! [.. for column in zip(*rows)] -/
namespace Zn
open PySem L2 Tx Tg Tm RZ
/-- rows all of n items; no rows, no columns -/
structure Wide (ls : List Addr) (rows : List (List V)) (n : Nat) : Prop where
  row : ∀ r ∈ rows, r.length = n
  none : ls = [] → n = 0
theorem lc_zipN {K : PySem.W.Frag} {ls : List Addr} {rows : List (List V)} {n : Nat} {g : TG} {tt : TT} {te : TE} {vs : List Nat} {σ : L2.St} {H1 : Hp} {D : Addr} {Qd : Hp → Prop} (hw : Wide ls rows n) (Pv : Nat → Hp → Prop) (h0 : Pv 0 (upd H1 D (.lst []))) (hq : ∀ i H, Pv i H → PySem.W.EachIs (SqT K H) ls rows)
    (hs : ∀ (i : Nat) (col : List V) (T : Addr) (H : Hp), i < n → rows.map (fun r => r[i]?) = col.map some → Pv i H → H T = none → g (.ref T) (wipe σ vs) (upd H T (.tup col)) fun σ2 H2 => wipe σ2 vs = wipe σ vs ∧ tt σ2 H2 fun b H3 =>
      if b = true then te σ2 H3 fun y H4 => ∃ acc, H4 D = some (.lst acc) ∧ acc.length < sizeLine ∧ Pv (i + 1) (upd H4 D (.lst (acc ++ [y]))) else Pv (i + 1) H3) (hd : ∀ H, Pv n H → Qd H) :
    ∃ W : Nat → Nat → Hp → Prop, (∃ m, W 0 m (upd H1 D (.lst []))) ∧ ∀ i m H, W i m H →
      ((ItzN K ls).stop i H ∧ Qd H) ∨ ((ItzN K ls).go i H ∧ ∃ Nx : Hp → Prop, (∀ H', Nx H' → ∃ m', m' < m ∧ W (i + 1) m' H') ∧ ∀ x H', (ItzN K ls).yld i H x H' → g x (wipe σ vs) H' fun σ2 H2 => wipe σ2 vs = wipe σ vs ∧ tt σ2 H2 fun b H3 =>
        if b = true then te σ2 H3 fun y H4 => ∃ acc, H4 D = some (.lst acc) ∧ acc.length < sizeLine ∧ Nx (upd H4 D (.lst (acc ++ [y]))) else Nx H3) := by
  refine ⟨fun i m H => m = n - i ∧ i ≤ n ∧ Pv i H, ⟨n, by simp, Nat.zero_le _, h0⟩, ?_⟩
  rintro i m H ⟨rfl, hi, p⟩
  have qr := hq i H p
  by_cases hlt : i < n
  · have hne : ls ≠ [] := fun e => by have := hw.none e; omega
    refine .inr ⟨⟨hne, rows, qr, fun r hr => by rw [hw.row r hr]; exact hlt⟩, Pv (i + 1), fun H' p' => ⟨n - (i + 1), by omega, rfl, hlt, p'⟩, fun v H' y => ?_⟩
    obtain ⟨T, col, rfl, nT, rfl, hc⟩ := y
    exact hs i col T H hlt (hc rows qr) p nT
  · have e : i = n := by omega
    subst e
    refine .inl ⟨?_, hd H p⟩
    cases qr with
    | nil => exact .inl rfl
    | cons h t => exact .inr ⟨_, _, _, rfl, h, by rw [hw.row _ List.mem_cons_self]; exact Nat.le_refl _⟩
end Zn

set_option Elab.async false
set_option linter.all false
set_option maxRecDepth 100000
set_option maxHeartbeats 6400000
namespace K16
open PySem L2 Tx Tg Tm Da RZ
def rTupOf (K : PySem.W.Frag) : List V → Hp → VK → Prop := fun xs H Q => ∃ p ys, xs = [.ref p] ∧ ((SqL K H p ys ∧ ∀ l, H l = none → Q (.ref l) (upd H l (.tup ys))) ∨ (SqT K H p ys ∧ Q (.ref p) H))
theorem some_inj {α : Type} : ∀ {a b : List α}, a.map some = b.map some → a = b
  | [], [], _ => rfl
  | [], _ :: _, h => nomatch h
  | _ :: _, [], h => nomatch h
  | x :: a, y :: b, h => by
    rw [List.map_cons, List.map_cons] at h
    injection h with h1 h2
    injection h1 with h1
    rw [h1, some_inj h2]
/-- a column of a square -/
theorem col_of {n i : Nat} {M : List (List Int)} (h : Ty.Sq n M) (hi : i < n) {col : List V} (e : (M.map intsV).map (fun r => r[i]?) = col.map some) : col = intsV (M.map fun r => r.getD i 0) := by
  refine some_inj (e.symm.trans ?_)
  rw [List.map_map, List.map_map, List.map_map]
  refine List.map_congr_left fun r hr => ?_
  have hl : i < r.length := by rw [h.row r hr]; exact hi
  show (intsV r)[i]? = some (V.int (r.getD i 0))
  rw [List.getElem?_map, List.getElem?_eq_getElem hl, List.getD_eq_getElem?_getD, List.getElem?_eq_getElem hl]
  rfl
theorem SqAt.rows {K : PySem.W.Frag} {H : Hp} : ∀ {ps : List Addr} {M : List (List Int)}, PySem.W.EachIs (RowI H) ps M → PySem.W.EachIs (SqT K H) ps (M.map intsV)
  | _, _, .nil => .nil
  | _, _, .cons r t => .cons (SqT.of r) (SqAt.rows t)
section
variable {P : Program} {w : World} {K : PySem.W.Frag} {mg : Str → Option Value} {base : Heap}
abbrev nTurned : List Str := ["square", "column"]
theorem scTurned : FnScope nTurned ["square"] (defScope sTurned) := ⟨rfl, rfl, rfl, by decide +kernel, rfl, by decide +kernel, by decide +kernel⟩
def spTurned : Sp := fun vs H Q _ => ∃ (a : Addr) (M : List (List Int)) (n : Nat), vs = [.ref a] ∧ SqAt H a M ∧ Ty.Sq n M ∧ n ≤ 9 ∧ ∀ b H', Same H H' → SqAt H' b (Ty.turned n M) → Q (.ref b) H'
theorem ok_turned {f : Addr} {fd : FuncData} (F : Fun K "turned_square" "turned_square" sTurned f fd) (T : Txt K mg) : FnOk P w K mg base CX0 1 f fd ["square"] spTurned := by
  refine F.ok scTurned (fun vs H Q E h => ?_) (fun cdv A outer s H vs Q E hr h => ?_)
  · obtain ⟨a, M, n, rfl, _⟩ := h
    rfl
  · obtain ⟨a, M, n, rfl, ⟨ps, ha, hps⟩, hs, hn, q⟩ := h
    refine ⟨_, (pss_one (ps_ret (pe_callTy call_tuple_of (by rfl) T.tuple (by decide +kernel) (pa_cons (pe_lc (own := [("column", 1)]) (g := (gName 1)) (tt := tYes) (te := tCB (rTupOf K) (tCons (tVar 1) tNil)) rfl scTurned.nd (Zn.pi_zipStar (by rfl) T.zip (pv 0)) (blkOk_by (own := [("column", 1)]) (N := nTurned) (sc := defScope sTurned) (by decide +kernel)) (fun _ _ _ _ _ => (pg_name (i := 1) scTurned.nd rfl (Or.inl rfl))) (fun _ _ _ _ _ => pts_nil) (fun _ _ _ _ _ => (pe_callTy call_tuple_of (by rfl) T.tuple (by decide +kernel) (pa_cons (pv 1) pa_nil)))) pa_nil)))), ?_⟩
    have lps := hps.length
    refine ⟨_, rfl, a, ps, M.map intsV, rfl, SqT.of ha, SqAt.rows hps, by rw [lps, hs.len]; exact hn, fun D nD => ?_⟩
    refine Zn.lc_zipN (rows := M.map intsV) (n := n) ⟨fun r hr => ?_, fun e => ?_⟩ (fun i H2 => ∃ qs : List Addr, Same H H2 ∧ H2 D = some (.lst (qs.map V.ref)) ∧ PySem.W.EachIs (RowI H2) qs ((Ty.turned n M).take i)) ⟨[], same_upd nD, upd_same, .nil⟩ (fun i H2 z => ?_) ?_ ?_
    · obtain ⟨l, hl, rfl⟩ := List.mem_map.mp hr
      rw [List.length_map, hs.row l hl]
    · rw [← hs.len, ← lps, e]
      rfl
    · obtain ⟨_, s2, _, _⟩ := z
      exact SqAt.rows (PySem.W.EachIs.mono (fun _ _ e => s2 _ _ e) hps)
    · rintro i col t H2 hi hc ⟨qs, s2, e2, r2⟩ nt
      have ec := col_of hs hi hc
      subst ec
      have s3 := same_upd (o := .tup (intsV (M.map fun r => r.getD i 0))) nt
      refine ⟨rfl, iteT (B := False) ?_⟩
      have et : (Ty.turned n M)[i]? = some (M.map fun r => r.getD i 0) := by
        unfold Ty.turned
        rw [List.getElem?_map, List.getElem?_range hi]
        rfl
      refine ⟨_, rfl, t, _, rfl, .inr ⟨SqT.of upd_same, _, s3 _ _ e2, ?_, qs ++ [t], same_put (s2.trans s3) nD, ?_, ?_⟩⟩
      · rw [List.length_map, r2.length, List.length_take]
        exact Nat.lt_of_le_of_lt (Nat.min_le_left _ _) (Nat.lt_of_lt_of_le hi (Nat.le_trans hn (by decide)))
      · rw [upd_same, List.map_append]
        rfl
      · have k : KeepT (upd H2 t (.tup (intsV (M.map fun r => r.getD i 0)))) (upd (upd H2 t (.tup (intsV (M.map fun r => r.getD i 0)))) D (.lst (qs.map V.ref ++ [V.ref t]))) := KeepT.upd (.lst (s3 _ _ e2))
        rw [List.take_add_one, et]
        exact each_app (PySem.W.EachIs.mono (fun _ _ e => k _ _ (s3 _ _ e)) r2) (.cons (k _ _ upd_same) .nil)
    · rintro H2 ⟨qs, s2, e2, r2⟩
      rw [List.take_of_length_le (by rw [(Ty.turned_sq hs).len]; exact Nat.le_refl _)] at r2
      refine ⟨D, _, rfl, .inl ⟨SqL.of e2, fun b nb => ?_⟩⟩
      have s3 := same_upd (o := .tup (qs.map V.ref)) nb
      exact q b _ (s2.trans s3) ⟨qs, upd_same, PySem.W.EachIs.mono (fun _ _ e => s3 _ _ e) r2⟩
end
end K16

set_option Elab.async false
set_option linter.all false
set_option maxRecDepth 100000
set_option maxHeartbeats 3200000
/-! {.. for k, v in d.items()} -/
namespace Lc
open PySem L2 Tx Tg Tm RZ
theorem dc_items {d : Addr} {o : Obj} {kvs : List (Key × V)} {g : TG} {tt : TT} {tk tv : TE} {vs : List Nat} {σ : L2.St} {H1 : Hp} {D : Addr} {Qd : Hp → Prop} (Pv : Nat → Hp → Prop) (h0 : Pv 0 (upd H1 D (.dK [])))
    (hf : ∀ i H, Pv i H → H d = some (.frz o (.dK kvs))) (hs : ∀ i k v T H, kvs[i]? = some (k, v) → Pv i H → H T = none → g (.ref T) (wipe σ vs) (upd H T (.tup [kV k, v])) fun σ2 H2 => wipe σ2 vs = wipe σ vs ∧ tt σ2 H2 fun b H3 =>
      if b = true then tk σ2 H3 fun y H4 => tv σ2 H4 fun z H5 => ∃ kvs k, y = kV k ∧ H5 D = some (.dK kvs) ∧ kvs.length < sizeLine ∧ Pv (i + 1) (upd H5 D (.dK (putK kvs k z))) else Pv (i + 1) H3) (hd : ∀ H, Pv kvs.length H → Qd H) :
    ∃ W : Nat → Nat → Hp → Prop, (∃ m, W 0 m (upd H1 D (.dK []))) ∧ ∀ i m H, W i m H →
      ((Iti d o kvs).stop i H ∧ Qd H) ∨ ((Iti d o kvs).go i H ∧ ∃ Nx : Hp → Prop, (∀ H', Nx H' → ∃ m', m' < m ∧ W (i + 1) m' H') ∧ ∀ v H', (Iti d o kvs).yld i H v H' → g v (wipe σ vs) H' fun σ2 H2 => wipe σ2 vs = wipe σ vs ∧ tt σ2 H2 fun b H3 =>
        if b = true then tk σ2 H3 fun y H4 => tv σ2 H4 fun z H5 => ∃ kvs k, y = kV k ∧ H5 D = some (.dK kvs) ∧ kvs.length < sizeLine ∧ Nx (upd H5 D (.dK (putK kvs k z))) else Nx H3) := by
  refine ⟨fun i m H => m = kvs.length - i ∧ i ≤ kvs.length ∧ Pv i H, ⟨kvs.length, by simp, Nat.zero_le _, h0⟩, ?_⟩
  rintro i m H ⟨rfl, hi, p⟩
  by_cases hlt : i < kvs.length
  · refine .inr ⟨⟨hf i H p, hlt⟩, Pv (i + 1), fun H' p' => ⟨kvs.length - (i + 1), by omega, rfl, hlt, p'⟩, fun x H' y => ?_⟩
    obtain ⟨T, k, v, e, rfl, nT, rfl⟩ := y
    exact hs i k v T H e p nT
  · have e : i = kvs.length := by omega
    subst e
    exact .inl ⟨⟨hf _ H p, Nat.le_refl _⟩, hd H p⟩
section
variable {X : Cx}
/-- name = {k: v for ..} on one line -/
theorem ps_setDc {i : Nat} {y : Str} {py : Pos} {kx vx tg iter : Expr} {ifs : List Expr} {scope : Scope} {own : List (Str × Nat)} {pos spos : Pos} {wi : TI} {g : TG} {tt : TT} {tk tv : TE} (hc : X.calm = true) (hN : X.N.Nodup) (hy : X.N[i]? = some y) (hyl : X.env.scope.names.lookup y = some .local)
    (hsw : swapsWith (.DictComp kx vx [⟨tg, iter, ifs, 0⟩] scope pos) (some (.Name y py)) spos.line X.env = pure true) (hi : PI X tg iter wi) (ok : BlkOk X.N X.env.scope scope own)
    (hg : ∀ (s : Shared) (H : Hp) (C : Addr) (cl : List (Str × Addr)) (fp : List Addr), PG (X.blk s H scope (compEnvC scope cl C X.env) fp) tg g) (ht : ∀ (s : Shared) (H : Hp) (C : Addr) (cl : List (Str × Addr)) (fp : List Addr), PTs (X.blk s H scope (compEnvC scope cl C X.env) fp) ifs tt)
    (hk : ∀ (s : Shared) (H : Hp) (C : Addr) (cl : List (Str × Addr)) (fp : List Addr), PE (X.blk s H scope (compEnvC scope cl C X.env) fp) kx tk)
    (he : ∀ (s : Shared) (H : Hp) (C : Addr) (cl : List (Str × Addr)) (fp : List Addr), PE (X.blk s H scope (compEnvC scope cl C X.env) fp) vx tv) (hs : ∀ x, foldedSetIterable iter X.env x = pure x := by intro _; rfl) :
    PS X (.Assign [.Name y py] (.DictComp kx vx [⟨tg, iter, ifs, 0⟩] scope pos) spos) (tAsg (tDc wi g tt tk tv (own.map (·.2))) (gName i)) := by
  refine ⟨fun pins s σ H D I h => ?_⟩
  rw [exec_Assign_Name_used _ _ _ _ hsw]
  refine wpAny_bind (wpAny_standAt (wpAny_bind ?_))
  show wpAny _ X.A (do let _ ← comprehension (.DictComp kx vx [⟨tg, iter, ifs, 0⟩] scope pos) scope X.env (firstIterPos [⟨tg, iter, ifs, 0⟩] pos) newDict false (eval iter X.env) (some (assign (.Name y py) X.env))) _ _ s
  have h : tDc wi g tt tk tv (own.map (·.2)) σ H (fun x H1 => gName i x σ H1 D.nx) := h
  refine wpAny_bind (thn (dc_core (Qf := fun _ s' => SP X pins D .next s') hc hN I hi ok hg ht hk he hs h fun L C s' m H' I' q hn f => ?_) fun _ s' hq => wpAny_pure (wpAny_pure hq))
  show wpAny _ _ (assign (.Name y py) X.env (.ref L)) _ _ _
  refine wpAny_assign_Name (store_ok2 (v := V.ref L) I' hN hy (.inl hyl) rfl (fun s2 I2 ⟨a, sb, ha⟩ => ?_) (.inr hyl))
  obtain ⟨f0, f1, f2, f3, f4, f5⟩ := f
  have haC : C ≠ a := by
    rcases ha with z | z
    · rw [z]; exact f1
    · exact fun e => f4 y a z e.symm
  refine ⟨m, hn.sameBut sb haC, fun h3 sb3 => ?_⟩
  exact ⟨_, H', I2.turned (t' := s2.toks) (fun b o hb e => (sb3.2 b hb).trans e) f0 f1 f3 f4 f5, q⟩
theorem sw_dict {kx vx : Expr} {gs : List Comprehension} {scope : Scope} {pos py : Pos} {y : Str} {l : Nat} {env : Env} (hk : env.scope.kind = .function) (hy : env.scope.names.lookup y = some .local) (hl : (py.line == pos.line) = true)
    (ha : (scope.names.any fun (n, k) => n == y && (k == .local || k == .cell)) = false) : swapsWith (.DictComp kx vx gs scope pos) (some (.Name y py)) l env = pure true := by
  have ky : env.kindOf y = some .local := hy
  have hb : env.blockKind = .function := by unfold Env.blockKind; rw [hk]; rfl
  unfold swapsWith
  simp only [hb, ky, ha, Expr.pos, hl]
  rfl
end
end Lc

set_option Elab.async false
set_option linter.all false
set_option maxRecDepth 100000
set_option maxHeartbeats 6400000
namespace K16
open PySem L2 Tx Tg Tm Da RZ
/-! ### moves: a square for each letter -/
abbrev Mv := Nat × List (List Int)
abbrev MvsAt (H : Hp) (kvs : List (Key × V)) (W : List Mv) : Prop := PySem.W.EachIs (fun kv m => ∃ p, kv = (Sum.inr (one m.1), V.ref p) ∧ SqAt H p m.2) kvs W
def MovAt (H : Hp) (d : Addr) (W : List Mv) : Prop := ∃ kvs, H d = some (.dK kvs) ∧ MvsAt H kvs W
structure okM (n : Nat) (W : List Mv) : Prop where
  nd : (W.map (·.1)).Nodup
  sq : ∀ m ∈ W, Ty.Sq n m.2
  few : W.length ≤ 3
  small : ∀ m ∈ W, ∀ r ∈ m.2, Few r
theorem each_at2 {α β : Type} {R : α → β → Prop} : ∀ {ps : List α} {as : List β}, PySem.W.EachIs R ps as → ∀ {i : Nat} {x : α} {y : β}, ps[i]? = some x → as[i]? = some y → R x y
  | _, _, .nil, i, _, _, h, _ => by simp at h
  | _, _, .cons r t, 0, _, _, h, k => by cases h; cases k; exact r
  | _, _, .cons r t, i + 1, _, _, h, k => each_at2 t h k
theorem one_inj {a b : Nat} (h : one a = one b) : a = b := by
  have : cds (one a) = cds (one b) := by rw [h]
  have : [a] = [b] := this
  injection this
theorem key_one {a b : Nat} : (Sum.inr (one a) : Key) = Sum.inr (one b) ↔ a = b := ⟨fun e => one_inj (by injection e), fun e => by rw [e]⟩
theorem putK_new {kvs : List (Key × V)} {k : Key} {v : V} (h : valV kvs k = none) : putK kvs k v = kvs ++ [(k, v)] := by
  unfold putK
  have : (kvs.any fun kv => decide (kv.1 = k)) = false := by
    rw [valV_any, h]
    rfl
  rw [this]
  rfl
theorem mvs_get {H : Hp} : ∀ {kvs : List (Key × V)} {W : List Mv} {c : Nat} {M : List (List Int)}, MvsAt H kvs W → (W.map (·.1)).Nodup → (c, M) ∈ W → ∃ p, valV kvs (Sum.inr (one c) : Key) = some (.ref p) ∧ SqAt H p M
  | _, _, _, _, .nil, _, h => nomatch h
  | _, _, c, M, .cons (b := w) ⟨p, e, r⟩ t, nd, h => by
    subst e
    rw [List.map_cons, List.nodup_cons] at nd
    rcases List.mem_cons.mp h with rfl | h
    · exact ⟨p, valV_pos rfl, r⟩
    · have ne : w.1 ≠ c := fun e => nd.1 (List.mem_map.mpr ⟨_, h, e.symm⟩)
      obtain ⟨p', e', r'⟩ := mvs_get t nd.2 h
      exact ⟨p', by rw [valV_neg (fun e => ne (key_one.mp e))]; exact e', r'⟩
theorem mvs_none {H : Hp} : ∀ {kvs : List (Key × V)} {W : List Mv} {c : Nat}, MvsAt H kvs W → c ∉ W.map (·.1) → valV kvs (Sum.inr (one c) : Key) = none
  | _, _, _, .nil, _ => rfl
  | _, _, c, .cons (b := w) ⟨p, e, r⟩ t, h => by
    subst e
    rw [List.map_cons, List.mem_cons, not_or] at h
    rw [valV_neg (fun e => h.1 (key_one.mp e).symm)]
    exact mvs_none t h.2
theorem MvsAt.keep {H H' : Hp} {kvs : List (Key × V)} {W : List Mv} (k : KeepT H H') (h : MvsAt H kvs W) : MvsAt H' kvs W := PySem.W.EachIs.mono (fun _ _ ⟨p, e, r⟩ => ⟨p, e, r.keep k⟩) h
theorem find_of : ∀ {W : List Mv} {c : Nat} {M : List (List Int)}, (W.map (·.1)).Nodup → (c, M) ∈ W → W.find? (fun m => decide (m.1 = c)) = some (c, M)
  | [], _, _, _, h => nomatch h
  | w :: W, c, M, nd, h => by
    rw [List.map_cons, List.nodup_cons] at nd
    rcases List.mem_cons.mp h with rfl | h
    · simp
    · have ne : w.1 ≠ c := fun e => nd.1 (List.mem_map.mpr ⟨_, h, e.symm⟩)
      rw [List.find?_cons, decide_eq_false ne]
      exact find_of nd.2 h
theorem turned_few {n : Nat} {M : List (List Int)} (h : Ty.Sq n M) (hf : ∀ r ∈ M, Few r) : ∀ c ∈ Ty.turned n M, Few c := fun c hc x hx => by
  obtain ⟨j, hj, rfl⟩ := List.mem_map.mp hc
  obtain ⟨r, hr, rfl⟩ := List.mem_map.mp hx
  have hj := List.mem_range.mp hj
  have hl : j < r.length := by rw [h.row r hr]; exact hj
  rw [List.getD_eq_getElem?_getD, List.getElem?_eq_getElem hl]
  exact hf r hr _ (List.getElem_mem hl)
section
variable {P : Program} {w : World} {K : PySem.W.Frag} {mg : Str → Option Value} {base : Heap}
abbrev nBehindR : List Str := ["row", "moves", "text", "prime", "columns", "behind", "letter", "square", "column"]
theorem scBehindR : FnScope nBehindR ["row", "moves", "text", "prime"] (defScope sBehindR) := ⟨rfl, rfl, rfl, by decide +kernel, rfl, by decide +kernel, by decide +kernel⟩
def stepR (p : Option Int) (n : Nat) (W : List Mv) (r : List Int) (c : Nat) : List Int := (Ty.vmL n r (((W.find? fun m => decide (m.1 = c)).map (·.2)).getD [])).map (Ty.rest p)
def spBehindR : Sp := fun vs H Q _ => ∃ (a d : Addr) (r : List Int) (W : List Mv) (z : Str) (p : Option Int) (n : Nat), vs = [.ref a, .ref d, .str z, pV p] ∧ RowI H a r ∧ r.length = n ∧ n ≤ 9 ∧ MovAt H d W ∧ okM n W ∧ (∀ c ∈ cds z, c ∈ W.map (·.1)) ∧ okP p ∧
  ∀ b H', Same H H' → RowI H' b ((cds z).foldl (stepR p n W) r) → Q (.ref b) H'
theorem ok_behindR {f fT fR f0 fD : Addr} {fd dT dR d0 dD : FuncData} (F : Fun K "row_behind" "row_behind" sBehindR f fd) (T : Txt K mg) (DT : Df K mg "turned_square" sTurned ["square"] fT dT) (D0 : Df K mg "rest_of" sRest ["number", "prime"] f0 d0) (DR : Df K mg "rest_row" sRestRow ["row", "prime"] fR dR) (DD : Df K mg "dot" sDot ["one", "other"] fD dD) :
    FnOk P w K mg base CX0 3 f fd ["row", "moves", "text", "prime"] spBehindR := by
  have GT := ok_turned (P := P) (w := w) (base := base) DT.F T
  have GR := ok_rrowL (P := P) (w := w) (base := base) DR.F T D0
  have GD := ok_dot (P := P) (w := w) (base := base) DD.F T
  refine F.ok scBehindR (fun vs H Q E h => ?_) (fun cdv A outer s H vs Q E hr h => ?_)
  · obtain ⟨a, d, r, W, z, p, n, rfl, _⟩ := h
    rfl
  · obtain ⟨a, d, r, W, z, p, n, rfl, ha, hl, hn, ⟨kvs, ed, hw⟩, ok, hz, hp, q⟩ := h
    have hu := hu_of hr
    refine ⟨_, (pss_cons (ps_lock (Lc.ps_setDc (i := 4) (own := [("letter", 6), ("square", 7)]) (g := (gTup K 2 (gCons (gName 6) (gCons (gName 7) gNil)))) (tt := tYes) (tk := tVar 6) (tv := tCall spTurned [] E0 (tCons (tVar 7) tNil)) rfl scBehindR.nd rfl rfl (Lc.sw_dict rfl rfl rfl (by decide +kernel)) (pi_items (pv 1)) (blkOk_by (own := [("letter", 6), ("square", 7)]) (N := nBehindR) (sc := defScope sBehindR) (by decide +kernel)) (fun _ _ _ _ _ => (pg_tup rfl (pgs_cons (pg_name (i := 6) scBehindR.nd rfl (Or.inl rfl)) (pgs_cons (pg_name (i := 7) scBehindR.nd rfl (Or.inl rfl)) pgs_nil)))) (fun _ _ _ _ _ => pts_nil) (fun _ _ _ _ _ => (pv 6)) (fun _ _ _ _ _ => (pe_call GT (hr.mono (by decide)) (by rfl) DT.m DT.F.kp DT.b .nil pass0 (pa_cons (pv 7) pa_nil)))))
    (pss_cons (ps_set (i := 5) scBehindR.nd rfl (Or.inr rfl) (pv 0))
    (pss_cons (ps_for PassesOwn.never rfl (pi_str (pv 2)) (pg_name (i := 6) scBehindR.nd rfl (Or.inl rfl))
      (pss_one (ps_set (i := 5) scBehindR.nd rfl (Or.inr rfl) (pe_call GR (hr.mono (by decide)) (by rfl) DR.m DR.F.kp DR.b .nil pass0 (pa_cons (pe_lc (own := [("column", 8)]) (g := (gName 8)) (tt := tYes) (te := tCall spDot [] E0 (tCons (tVar 5) (tCons (tVar 8) tNil))) rfl scBehindR.nd (pi_tup (pe_dget hu (pv 4) (pv 6) (fun _ _ => rfl))) (blkOk_by (own := [("column", 8)]) (N := nBehindR) (sc := defScope sBehindR) (by decide +kernel)) (fun _ _ _ _ _ => (pg_name (i := 8) scBehindR.nd rfl (Or.inl rfl))) (fun _ _ _ _ _ => pts_nil) (fun _ _ _ _ _ => (pe_call GD (hr.mono (by decide)) (by rfl) DD.m DD.F.kp DD.b .nil pass0 (pa_cons (pv 5) (pa_cons (pv 8) pa_nil))))) (pa_cons (pv 3) pa_nil))))))
    (pss_one (ps_ret (pv 5)))))), ?_⟩
    have lw := hw.length
    have few := ok.few
    let WT : List Mv := W.map fun m => (m.1, Ty.turned n m.2)
    have kT : WT.map (·.1) = W.map (·.1) := by
      show (W.map _).map _ = _
      rw [List.map_map]
      rfl
    refine ⟨d, _, ed, (by unfold Mut; simp), fun od => ?_⟩
    have k0 : KeepT H (upd H d (.frz od (.dK kvs))) := KeepT.upd (.dK ed)
    have ed0 : (upd H d (.frz od (.dK kvs))) d = some (.frz od (.dK kvs)) := upd_same
    have off0 : ∀ b o, b ≠ d → H b = some o → (upd H d (.frz od (.dK kvs))) b = some o := fun b o n e => by rw [upd_ne n]; exact e
    generalize upd H d (.frz od (.dK kvs)) = H0 at k0 ed0 off0 ⊢
    have hw0 := hw.keep k0
    refine ⟨_, rfl, d, od, kvs, rfl, ed0, fun D nD => ?_⟩
    have nDd : D ≠ d := (ne_of_none ed0 nD).symm
    refine Lc.dc_items (fun i H2 => ∃ cvs, Same H0 H2 ∧ H2 D = some (.dK cvs) ∧ MvsAt H2 cvs (WT.take i)) ⟨[], same_upd nD, upd_same, .nil⟩ (fun i H2 z => by obtain ⟨_, s, _⟩ := z; exact s _ _ ed0) ?_ ?_
    · rintro i k v t H2 hk ⟨cvs, s2, e2, r2⟩ nt
      have hi := (List.getElem?_eq_some_iff.mp hk).1
      have hiW : i < W.length := by omega
      obtain ⟨ps, ek, hsq⟩ := each_at2 hw0 hk (List.getElem?_eq_getElem hiW)
      cases ek
      have mW : W[i] ∈ W := List.getElem_mem hiW
      have s3 := same_upd (o := .tup [kV (Sum.inr (one W[i].1)), .ref ps]) nt
      refine ⟨t, _, rfl, SqT.of upd_same, rfl, _, _, rfl, _, _, rfl, rfl, rfl, iteT (B := False) ?_⟩
      refine ⟨_, rfl, _, rfl, ps, W[i].2, n, rfl, hsq.same (s2.trans s3), ok.sq _ mW, hn, fun b H4 s4 hb => ?_⟩
      have e4 := s4 _ _ (s3 _ _ e2)
      have r4 : MvsAt H4 cvs (WT.take i) := r2.keep (.same (s3.trans s4))
      have lc : cvs.length = i := by
        rw [r2.length, List.length_take]
        have : WT.length = W.length := List.length_map ..
        omega
      have nk : valV cvs (Sum.inr (one W[i].1) : Key) = none := mvs_none r4 (by
        rw [List.map_take, kT]
        intro hm
        obtain ⟨j, hj⟩ := List.mem_iff_getElem?.mp hm
        have hj1 := (List.getElem?_eq_some_iff.mp hj).1
        rw [List.length_take] at hj1
        rw [List.getElem?_take, if_pos (by omega)] at hj
        have e2 : (W.map (·.1))[i]? = some W[i].1 := by rw [List.getElem?_map, List.getElem?_eq_getElem hiW]; rfl
        have := (List.getElem?_inj (by rw [List.length_map]; omega) ok.nd).mp (hj.trans e2.symm)
        omega)
      refine ⟨cvs, Sum.inr (one W[i].1), rfl, e4, Nat.lt_of_le_of_lt (show cvs.length ≤ 3 by omega) (by decide), cvs ++ [(Sum.inr (one W[i].1), .ref b)], same_put (s2.trans (s3.trans s4)) nD, by rw [upd_same, putK_new nk], ?_⟩
      have k5 : KeepT H4 (upd H4 D (.dK (putK cvs (Sum.inr (one W[i].1)) (.ref b)))) := KeepT.upd (.dK e4)
      have et : WT[i]? = some (W[i].1, Ty.turned n W[i].2) := by
        show (W.map _)[i]? = _
        rw [List.getElem?_map, List.getElem?_eq_getElem hiW]
        rfl
      rw [List.take_add_one, et]
      exact each_app (r4.keep k5) (.cons ⟨b, rfl, hb.keep k5⟩ .nil)
    · rintro H2 ⟨cvs, s2, e2, r2⟩
      rw [List.take_of_length_le (by rw [hw.length]; exact Nat.le_of_eq (List.length_map ..))] at r2
      dsimp only [gName]
      have ed2 := s2 _ _ ed0
      refine ⟨ed2, ?_⟩
      have k3 : KeepT H2 (upd H2 d (.dK kvs)) := KeepT.upd (fun xs e => by rw [ed2] at e; cases e)
      have r3 := MvsAt.keep k3 r2
      have e3 : (upd H2 d (.dK kvs)) D = some (.dK cvs) := by rw [upd_ne nDd]; exact e2
      have s3 : Same H (upd H2 d (.dK kvs)) := fun b o e => by
        by_cases hb : b = d
        · subst hb
          rw [upd_same, ← e, ed]
        · rw [upd_ne hb]
          exact s2 _ _ (off0 _ _ hb e)
      generalize upd H2 d (.dK kvs) = H3 at s3 r3 e3 ⊢
      refine ⟨_, rfl, ?_⟩
      dsimp only [gName]
      have lenR : ∀ l : List Nat, (∀ c ∈ l, c ∈ W.map (·.1)) → ∀ r0 : List Int, r0.length = n → (l.foldl (stepR p n W) r0).length = n := by
        intro l
        induction l with
        | nil => exact fun _ r0 h => h
        | cons c l ih =>
          intro hc r0 h0
          obtain ⟨m, hm, em⟩ := List.mem_map.mp (hc c List.mem_cons_self)
          refine ih (fun x hx => hc x (List.mem_cons_of_mem _ hx)) _ ?_
          unfold stepR
          subst em
          rw [find_of ok.nd hm, List.length_map]
          exact (Ty.vm_fn h0 (ok.sq m hm)).1
      refine ⟨_, rfl, z, rfl, ?_⟩
      refine Lc.for_text (fun i σ H4 => ∃ (b : Addr) (t6 : Option V), σ = [some (.ref a), some (.ref d), some (.str z), some (pV p), some (.ref D), some (.ref b), t6, none, none] ∧ Same H H4 ∧ H4 D = some (.dK cvs) ∧ MvsAt H4 cvs WT ∧ RowI H4 b (((cds z).take i).foldl (stepR p n W) r)) ⟨a, none, rfl, s3, e3, r3, s3 _ _ ha⟩ ?_ ?_
      · rintro i c σ H4 hc ⟨b, t6, rfl, s4, e4, r4, hb⟩
        have mc := hz c (List.mem_of_getElem? hc)
        obtain ⟨m, hm, em⟩ := List.mem_map.mp mc
        subst em
        have hmT : (m.1, Ty.turned n m.2) ∈ WT := List.mem_map.mpr ⟨m, hm, rfl⟩
        obtain ⟨pS, gS, hS⟩ := mvs_get r4 (by rw [kT]; exact ok.nd) hmT
        have G1 : DGet H4 D (.str (one m.1)) (some (.ref pS)) := by
          have := DGet.k (k := (Sum.inr (one m.1) : Key)) e4
          rw [gS] at this
          exact this
        obtain ⟨qs, eS, rS⟩ := id hS
        have lT : (Ty.turned n m.2).length = n := (Ty.turned_sq (ok.sq m hm)).len
        have lb : (((cds z).take i).foldl (stepR p n W) r).length = n := lenR _ (fun x hx => hz x (List.mem_of_mem_take hx)) r hl
        have hfew := turned_few (ok.sq m hm) (ok.small m hm)
        generalize hrow : ((cds z).take i).foldl (stepR p n W) r = rw at hb lb
        refine ⟨_, rfl, _, rfl, D, _, rfl, G1, pS, rfl, ⟨_, SqT.of eS⟩, fun D2 nD2 => ?_⟩
        refine Lc.lcTS (ys := intsV (Ty.vmL n rw m.2)) (SqT.of eS) nD2 (by rw [List.length_map, List.length_map, rS.length]; unfold Ty.vmL; rw [List.length_map]) (by rw [List.length_map, rS.length, lT]; exact Nat.lt_of_le_of_lt hn (by decide)) (fun _ => rfl) ?_ ?_
        · intro j x y H5 hx hy s5 Q' q'
          have hj := (List.getElem?_eq_some_iff.mp hx).1
          rw [List.length_map, rS.length] at hj
          have hjq : j < qs.length := by rw [rS.length]; exact hj
          rw [List.getElem?_map, List.getElem?_eq_getElem hjq] at hx
          cases hx
          unfold Ty.vmL at hy
          rw [List.getElem?_map, List.getElem?_map, List.getElem?_eq_getElem hj] at hy
          cases hy
          have hcol := each_at2 rS (List.getElem?_eq_getElem hjq) (List.getElem?_eq_getElem hj)
          have mcol : (Ty.turned n m.2)[j] ∈ Ty.turned n m.2 := List.getElem_mem hj
          have lcol := (Ty.turned_sq (ok.sq m hm)).row _ mcol
          exact ⟨_, rfl, _, rfl, b, qs[j], rw, (Ty.turned n m.2)[j], rfl, s5 _ _ hb, s5 _ _ hcol, by rw [lb, lcol], by rw [lb]; exact Nat.le_trans hn (by decide), .inr (hfew _ mcol), fun H' s' => q' H' s'⟩
        · intro H5 s5 e5
          refine ⟨_, rfl, D2, Ty.vmL n rw m.2, p, rfl, e5, hp, by unfold Ty.vmL; rw [List.length_map, lT]; exact Nat.le_trans hn (by decide), fun b2 H6 s6 hb2 => ?_⟩
          have s56 := s5.trans s6
          refine ⟨b2, _, rfl, s4.trans s56, s56 _ _ e4, r4.keep (.same s56), ?_⟩
          rw [List.take_add_one, hc, List.foldl_append, hrow]
          show RowI H6 b2 (stepR p n W rw m.1)
          unfold stepR
          rw [find_of ok.nd hm]
          exact hb2
      · rintro σ H4 ⟨b, t6, rfl, s4, e4, r4, hb⟩
        rw [List.take_of_length_le (Nat.le_refl _)] at hb
        exact ⟨_, rfl, q b H4 s4 hb⟩
end
end K16

set_option Elab.async false
set_option linter.all false
set_option maxRecDepth 100000
set_option maxHeartbeats 3200000
namespace Bk
open PySem PySem.Spec PyProof.Rows L2 Tx Tg Tm
/-! a text from right to left -/
def backS (z : Str) : Str := ⟨((Builtin.Str.strSliceIndices none none (-1) z.length).filterMap (z.cps[·]?)).toArray⟩
theorem backS_mem {z : Str} {c : Nat} (h : c ∈ cds (backS z)) : c ∈ cds z := by
  have h : c ∈ (Builtin.Str.strSliceIndices none none (-1) z.length).filterMap (z.cps[·]?) := h
  obtain ⟨i, _, hi⟩ := List.mem_filterMap.mp h
  exact Array.mem_toList_iff.mpr (Array.mem_of_getElem? hi)
theorem backS_len (z : Str) : (backS z).length ≤ z.length := by
  have h1 : (backS z).length = ((Builtin.Str.strSliceIndices none none (-1) z.length).filterMap (z.cps[·]?)).length := by
    show (List.toArray _).size = _
    rw [List.size_toArray]
  rw [h1]
  refine Nat.le_trans (List.length_filterMap_le _ _) ?_
  rw [picked_rev, List.length_map, List.length_range]
  exact Nat.le_refl _
section
variable {X : Cx}
def tBackS (te : TE) : TE := fun σ H Q => te σ H fun x H1 => ∃ z, x = .str z ∧ z.length ≤ sizeLine ∧ Q (.str (backS z)) H1
theorem pe_backS {e : Expr} {te : TE} {k : Nat} {p1 p2 p3 pos : Pos} (he : PE X e te) : PE X (.Subscript e (.Slice none none (some (.UnaryOp .USub (.Constant (.int 1) k p1) p2)) p3) pos) (tBackS te) := by
  refine ⟨fun pins s σ H Q I h => Subscript_ (thn (he.run pins s σ H _ I h) fun v s1 ⟨x, H1, I1, r1, z, ex, hx, q⟩ => ?_)⟩
  subst ex
  obtain ⟨t, rfl⟩ := r1
  have minus : PO X (some (.UnaryOp .USub (.Constant (.int 1) k p1) p2)) (tPart (tUn (rU fun i => .int (-i)) (tC (.int 1)))) := po_some (pe_un un_neg pe_int)
  refine wpAny_Slice (thn (po_none.run pins s1 σ H1 (fun o H2 => o = none ∧ H2 = H1) I1 ⟨rfl, rfl⟩) fun vl s2 ⟨l, H2, I2, pl, el, e2⟩ => ?_)
  subst el e2
  refine thn (po_none.run pins s2 σ H2 (fun o H3 => o = none ∧ H3 = H2) I2 ⟨rfl, rfl⟩) fun vu s3 ⟨u, H3, I3, pu, eu, e3⟩ => ?_
  subst eu e3
  refine thn (minus.run pins s3 σ H3 (fun o H4 => o = some (-1) ∧ H4 = H3) I3 ⟨1, rfl, -1, rfl, rfl, rfl⟩) fun vs s4 ⟨o, H4, I4, ps, eo, e4⟩ => ?_
  subst eo e4
  have I5 : Inv X pins σ H4 { s4 with heap := s4.heap.push { cls := .type "slice", data := .fields #[vl, vu, vs] } } := I4.kept (t' := s4.toks) fun b ob q => Heap.get?_push_of_some _ q
  cases pl
  cases pu
  cases ps with
  | int _ tt =>
    show wpAny (model X.prog X.w) X.A (subscriptTail e (.Slice none none (some (.UnaryOp .USub (.Constant (.int 1) k p1) p2)) p3) (.str z t) (.ref s4.heap.objs.size)) (EP X pins σ Q) X.xe _
    obtain ⟨os, hos, hcs, hds⟩ := Heap.IsSliceOf.new s4.heap .none .none (.int (-1) tt)
    refine tail_any (ops := [.str z t, .ref s4.heap.objs.size]) (typeIs_str _ _ _) PySem.F.slot_str_getitem.lookup ?_ (by with_unfolding_all rfl)
    refine wpAny_getItem_str_slice (l := none) (u := none) (st := some (-1, tt)) ⟨os, hos, hcs, hds⟩ rfl ?_
    have hl := backS_len z
    show Made.post (if ((-1 : Int) == 1 && (Builtin.Str.strSliceIndices none none (-1) z.length).length == z.length) = true then Made.val (.str z t)
      else Made.str (backS z)) (EP X pins σ Q) _
    rw [if_neg (by simp)]
    exact ⟨Nat.le_trans hl hx, .str _, _, I5.tok _, ⟨_, rfl⟩, q⟩
end
theorem backS_rev (z : Str) : cds (backS z) = (cds z).reverse := by
  have e : cds (backS z) = (Builtin.Str.strSliceIndices none none (-1) z.length).filterMap (z.cps[·]?) := List.toList_toArray ..
  rw [e, picked_rev, filterMap_get, List.map_map]
  · apply List.ext_getElem?
    intro i
    have lz : (cds z).length = z.length := Array.length_toList
    rcases Nat.lt_or_ge i z.length with h | h
    · rw [List.getElem?_map, List.getElem?_range h, List.getElem?_reverse (by rw [lz]; exact h), lz]
      show some (z.cps.getD (z.length - 1 - i) 0) = z.cps.toList[z.length - 1 - i]?
      have hk : z.length - 1 - i < z.cps.size := by show _ < z.length; omega
      rw [Array.getElem?_toList, Array.getElem?_eq_getElem hk]
      simp [Array.getD, hk]
    · rw [List.getElem?_eq_none (by simp; exact h), List.getElem?_eq_none (by rw [List.length_reverse, lz]; exact h)]
  · intro i hi
    obtain ⟨k, hk, rfl⟩ := List.mem_map.mp hi
    have hk' : k < z.length := List.mem_range.mp hk
    show z.length - 1 - k < z.length
    omega
end Bk

set_option Elab.async false
set_option linter.all false
set_option maxRecDepth 100000
set_option maxHeartbeats 6400000
namespace K16
open PySem L2 Tx Tg Tm Da RZ
section
variable {P : Program} {w : World} {K : PySem.W.Frag} {mg : Str → Option Value} {base : Heap}
abbrev nAheadC : List Str := ["column", "moves", "text", "prime", "ahead", "letter", "row"]
theorem scAheadC : FnScope nAheadC ["column", "moves", "text", "prime"] (defScope sAheadC) := ⟨rfl, rfl, rfl, by decide +kernel, rfl, by decide +kernel, by decide +kernel⟩
def stepC (p : Option Int) (W : List Mv) (r : List Int) (c : Nat) : List Int := ((((W.find? fun m => decide (m.1 = c)).map (·.2)).getD []).map fun row => Ty.dotL row r).map (Ty.rest p)
def spAheadC : Sp := fun vs H Q _ => ∃ (a d : Addr) (r : List Int) (W : List Mv) (z : Str) (p : Option Int) (n : Nat), vs = [.ref a, .ref d, .str z, pV p] ∧ RowI H a r ∧ r.length = n ∧ n ≤ 9 ∧ MovAt H d W ∧ okM n W ∧ (∀ c ∈ cds z, c ∈ W.map (·.1)) ∧ z.length ≤ 100 ∧ okP p ∧
  ∀ b H', Same H H' → RowI H' b ((cds z).reverse.foldl (stepC p W) r) → Q (.ref b) H'
theorem ok_aheadC {f fR f0 fD : Addr} {fd dR d0 dD : FuncData} (F : Fun K "column_ahead" "column_ahead" sAheadC f fd) (T : Txt K mg) (D0 : Df K mg "rest_of" sRest ["number", "prime"] f0 d0) (DR : Df K mg "rest_row" sRestRow ["row", "prime"] fR dR) (DD : Df K mg "dot" sDot ["one", "other"] fD dD) :
    FnOk P w K mg base CX0 3 f fd ["column", "moves", "text", "prime"] spAheadC := by
  have GR := ok_rrowL (P := P) (w := w) (base := base) DR.F T D0
  have GD := ok_dot (P := P) (w := w) (base := base) DD.F T
  refine F.ok scAheadC (fun vs H Q E h => ?_) (fun cdv A outer s H vs Q E hr h => ?_)
  · obtain ⟨a, d, r, W, z, p, n, rfl, _⟩ := h
    rfl
  · obtain ⟨a, d, r, W, z, p, n, rfl, ha, hl, hn, ⟨kvs, ed, hw⟩, ok, hz, lz, hp, q⟩ := h
    have hu := hu_of hr
    refine ⟨_, (pss_cons (ps_set (i := 4) scAheadC.nd rfl (Or.inr rfl) (pv 0))
    (pss_cons (ps_for PassesOwn.never rfl (pi_str (Bk.pe_backS (pv 2))) (pg_name (i := 5) scAheadC.nd rfl (Or.inl rfl))
      (pss_one (ps_set (i := 4) scAheadC.nd rfl (Or.inr rfl) (pe_call GR (hr.mono (by decide)) (by rfl) DR.m DR.F.kp DR.b .nil pass0 (pa_cons (pe_lc (own := [("row", 6)]) (g := (gName 6)) (tt := tYes) (te := tCall spDot [] E0 (tCons (tVar 6) (tCons (tVar 4) tNil))) rfl scAheadC.nd (pi_tup (pe_dget hu (pv 1) (pv 5) (fun _ _ => rfl))) (blkOk_by (own := [("row", 6)]) (N := nAheadC) (sc := defScope sAheadC) (by decide +kernel)) (fun _ _ _ _ _ => (pg_name (i := 6) scAheadC.nd rfl (Or.inl rfl))) (fun _ _ _ _ _ => pts_nil) (fun _ _ _ _ _ => (pe_call GD (hr.mono (by decide)) (by rfl) DD.m DD.F.kp DD.b .nil pass0 (pa_cons (pv 6) (pa_cons (pv 4) pa_nil))))) (pa_cons (pv 3) pa_nil))))))
    (pss_one (ps_ret (pv 4))))), ?_⟩
    have lenR : ∀ l : List Nat, (∀ c ∈ l, c ∈ W.map (·.1)) → ∀ r0 : List Int, r0.length = n → (l.foldl (stepC p W) r0).length = n := by
      intro l
      induction l with
      | nil => exact fun _ r0 h => h
      | cons c l ih =>
        intro hc r0 h0
        obtain ⟨m, hm, em⟩ := List.mem_map.mp (hc c List.mem_cons_self)
        refine ih (fun x hx => hc x (List.mem_cons_of_mem _ hx)) _ ?_
        unfold stepC
        subst em
        rw [find_of ok.nd hm, List.length_map, List.length_map]
        exact (ok.sq m hm).len
    have er := Bk.backS_rev z
    refine ⟨_, rfl, ?_⟩
    refine ⟨_, rfl, z, rfl, Nat.le_trans lz (by decide), _, rfl, ?_⟩
    refine Lc.for_text (x := Bk.backS z) (fun i σ H4 => ∃ (b : Addr) (t6 : Option V), σ = [some (.ref a), some (.ref d), some (.str z), some (pV p), some (.ref b), t6, none] ∧ Same H H4 ∧ RowI H4 b (((cds z).reverse.take i).foldl (stepC p W) r)) ⟨a, none, rfl, Same.refl _, ha⟩ ?_ ?_
    · rintro i c σ H4 hc ⟨b, t6, rfl, s4, hb⟩
      rw [er] at hc
      have mc := hz c (List.mem_reverse.mp (List.mem_of_getElem? hc))
      obtain ⟨m, hm, em⟩ := List.mem_map.mp mc
      subst em
      obtain ⟨pS, gS, hS⟩ := mvs_get (hw.keep (.same s4)) ok.nd hm
      have G1 : DGet H4 d (.str (one m.1)) (some (.ref pS)) := by
        have := DGet.k (k := (Sum.inr (one m.1) : Key)) (s4 _ _ ed)
        rw [gS] at this
        exact this
      obtain ⟨qs, eS, rS⟩ := id hS
      have lM := (ok.sq m hm).len
      have lb : (((cds z).reverse.take i).foldl (stepC p W) r).length = n := lenR _ (fun x hx => hz x (List.mem_reverse.mp (List.mem_of_mem_take hx))) r hl
      generalize hrow : ((cds z).reverse.take i).foldl (stepC p W) r = rw at hb lb
      refine ⟨_, rfl, _, rfl, d, _, rfl, G1, pS, rfl, ⟨_, SqT.of eS⟩, fun D2 nD2 => ?_⟩
      refine Lc.lcTS (ys := intsV (m.2.map fun row => Ty.dotL row rw)) (SqT.of eS) nD2 (by rw [List.length_map, List.length_map, rS.length, List.length_map]) (by rw [List.length_map, rS.length, lM]; exact Nat.lt_of_le_of_lt hn (by decide)) (fun _ => rfl) ?_ ?_
      · intro j x y H5 hx hy s5 Q' q'
        have hj := (List.getElem?_eq_some_iff.mp hx).1
        rw [List.length_map, rS.length] at hj
        have hjq : j < qs.length := by rw [rS.length]; exact hj
        rw [List.getElem?_map, List.getElem?_eq_getElem hjq] at hx
        cases hx
        rw [List.getElem?_map, List.getElem?_map, List.getElem?_eq_getElem hj] at hy
        cases hy
        have hcol := each_at2 rS (List.getElem?_eq_getElem hjq) (List.getElem?_eq_getElem hj)
        have mcol : m.2[j] ∈ m.2 := List.getElem_mem hj
        have lcol := (ok.sq m hm).row _ mcol
        exact ⟨_, rfl, _, rfl, qs[j], b, m.2[j], rw, rfl, s5 _ _ hcol, s5 _ _ hb, by rw [lb, lcol], by rw [lcol]; exact Nat.le_trans hn (by decide), .inl (ok.small m hm _ mcol), fun H' s' => q' H' s'⟩
      · intro H5 s5 e5
        refine ⟨_, rfl, D2, m.2.map fun row => Ty.dotL row rw, p, rfl, e5, hp, by rw [List.length_map, lM]; exact Nat.le_trans hn (by decide), fun b2 H6 s6 hb2 => ?_⟩
        have s56 := s5.trans s6
        refine ⟨b2, _, rfl, s4.trans s56, ?_⟩
        rw [List.take_add_one, hc, List.foldl_append, hrow]
        show RowI H6 b2 (stepC p W rw m.1)
        unfold stepC
        rw [find_of ok.nd hm]
        exact hb2
    · rintro σ H4 ⟨b, t6, rfl, s4, hb⟩
      rw [er, List.take_of_length_le (Nat.le_refl _)] at hb
      exact ⟨_, rfl, q b H4 s4 hb⟩
end
end K16

set_option Elab.async false
set_option linter.all false
set_option maxRecDepth 100000
set_option maxHeartbeats 3200000
/-! a tuple so many times: none, once, of nothing (free of any law) -/
namespace Tr
open PySem PySem.Spec PyProof.Rows L2
theorem mul_sameW (l : Addr) (items : Array Value) (n : Nat) (dd : Option Addr) (sl : Array (Option Value)) (x : Int) (u : Tok) (c0 : (decide (x < -(2 ^ 63)) || decide (x ≥ 2 ^ 63)) = false) (c1 : (items.isEmpty || x == 1) = true) :
    Meets (Builtin.«tuple.__mul__» ⟨[.ref l, .int x u], []⟩) (fun _ R s => s.heap.get? l = some { cls := .type "tuple", dict := dd, data := .seq items n, slots := sl } ∧ R (.ok (.ret (Value.ref l))) s) :=
  .of_wp fun prog w A R s h => by
    obtain ⟨hp, g, d, tk, os⟩ := s
    obtain ⟨hl, h⟩ := h
    have f1 := AutoSeq1.idx_int
    wp_walk using wpAny_loadPart' hl
    repeat (first
      | (refine wpAny_ite_false (decide_eq_false (by rw [c0]; exact Bool.false_ne_true)) ?_; wp_walk using wpAny_loadPart' hl)
      | (refine wpAny_ite_true (decide_eq_true c1) ?_; wp_walk using wpAny_loadPart' hl))
    exact ⟨_, rfl, h⟩
theorem mul_noneW (l : Addr) (items : Array Value) (n : Nat) (dd : Option Addr) (sl : Array (Option Value)) (x : Int) (u : Tok) (c0 : (decide (x < -(2 ^ 63)) || decide (x ≥ 2 ^ 63)) = false) (c1 : (items.isEmpty || x == 1) = false) (c2 : (decide (x ≤ 0) || items.isEmpty) = true) :
    Meets (Builtin.«tuple.__mul__» ⟨[.ref l, .int x u], []⟩) (fun _ R s => s.heap.get? l = some { cls := .type "tuple", dict := dd, data := .seq items n, slots := sl } ∧
      R (.ok (.ret (Value.ref s.heap.objs.size))) { s with heap := s.heap.push { cls := Value.type "tuple", data := Data.seq #[] }, toks := s.toks }) :=
  .of_wp fun prog w A R s h => by
    obtain ⟨hp, g, d, tk, os⟩ := s
    obtain ⟨hl, h⟩ := h
    have f1 := AutoSeq1.idx_int
    wp_walk using wpAny_loadPart' hl
    repeat (first
      | (refine wpAny_ite_false (decide_eq_false (by rw [c0]; exact Bool.false_ne_true)) ?_; wp_walk using wpAny_loadPart' hl)
      | (refine wpAny_ite_false (decide_eq_false (by rw [c1]; exact Bool.false_ne_true)) ?_; wp_walk using wpAny_loadPart' hl)
      | (refine wpAny_ite_true (decide_eq_true c2) ?_; wp_walk using wpAny_loadPart' hl))
    exact ⟨_, rfl, h⟩
/-- a tuple, so many times, 0 and 1 and nothing among them -/
def rRepA (K : PySem.W.Frag) : R2 := fun x y H Q => ∃ l k xs, x = .ref l ∧ y = .int k ∧ SqT K H l xs ∧ 0 ≤ k ∧ k ≤ 1000 ∧ xs.length ≤ 1000 ∧
  ((k = 1 ∨ xs = []) → Q (.ref l) H) ∧ (¬ (k = 1 ∨ xs = []) → ∀ p, H p = none → Q (.ref p) (upd H p (.tup (List.replicate k.toNat xs).flatten)))
theorem op_repA {X : Cx} : OpR X (binaryOp .Mult) (rRepA X.K) := by
  intro pins s σ H x y v u Q I rx ry h
  obtain ⟨l, k, xs, rfl, rfl, hT, h1, h2, hz, q1, q2⟩ := h
  by_cases big : xs ≠ [] ∧ 2 ≤ k
  · exact op_repT pins s σ H _ _ v u Q I rx ry ⟨l, k, xs, rfl, rfl, hT, big.1, big.2, h2, hz, q2 (fun e => e.elim (fun e => by omega) big.1)⟩
  · cases rx
    obtain ⟨t, rfl⟩ := ry
    obtain ⟨its, r, ⟨⟨cls, dd, data, sl⟩, ho, hc, n, hd⟩, hs⟩ := I.tuple hT
    simp only at hc hd
    subst hc hd
    have hle : its.length = xs.length := r.length.symm
    have c0 : (decide (k < -(2 ^ 63)) || decide (k ≥ 2 ^ 63)) = false := by
      rw [decide_eq_false (by omega), decide_eq_false (by omega)] <;> rfl
    have emp : its.toArray.isEmpty = decide (xs = []) := by
      cases its with
      | nil =>
        have : xs = [] := List.eq_nil_of_length_eq_zero hle.symm
        rw [decide_eq_true this]
        rfl
      | cons a b =>
        have : xs ≠ [] := fun e => by rw [e] at hle; cases hle
        rw [decide_eq_false this]
        rfl
    by_cases one : k = 1 ∨ xs = []
    · have c1 : (its.toArray.isEmpty || k == 1) = true := by
        rw [emp]
        rcases one with e | e
        · rw [e]; simp
        · rw [decide_eq_true e]; rfl
      exact wpAny_binaryOp_repeat_ref (T := "tuple") (U := "int") (by decide) ⟨_, ho, rfl⟩ (fun s' => typeIs_int s' k t) noFill_tuple_mul F.fills_int_mul F.slot_int_rmul repeat_tuple F.slot_int_index.lookup
        (call_meets F.slot_int_rmul (typeIs_int s k t) F.entry_int_rmul (F.args_int_rmul_2 _ _) (int_rmul_tuple k t l its.toArray n dd sl)
          ⟨ho, rfl, ⟨_, ho, rfl⟩, call_meets F.slot_tuple_mul ⟨_, ho, rfl⟩ F.entry_tuple_mul (F.args_tuple_mul_2 _ _) (mul_sameW l its.toArray n dd sl k t c0 c1) ⟨ho, ⟨.ref l, H, I, rfl, q1 one⟩⟩⟩)
    · have hne : xs ≠ [] := fun e => one (.inr e)
      have k0 : k = 0 := by
        have : ¬ 2 ≤ k := fun e => big ⟨hne, e⟩
        have : k ≠ 1 := fun e => one (.inl e)
        omega
      subst k0
      have c1 : (its.toArray.isEmpty || (0 : Int) == 1) = false := by rw [emp, decide_eq_false hne]; rfl
      have c2 : (decide ((0 : Int) ≤ 0) || its.toArray.isEmpty) = true := rfl
      refine wpAny_binaryOp_repeat_ref (T := "tuple") (U := "int") (by decide) ⟨_, ho, rfl⟩ (fun s' => typeIs_int s' 0 t) noFill_tuple_mul F.fills_int_mul F.slot_int_rmul repeat_tuple F.slot_int_index.lookup
        (call_meets F.slot_int_rmul (typeIs_int s 0 t) F.entry_int_rmul (F.args_int_rmul_2 _ _) (int_rmul_tuple 0 t l its.toArray n dd sl)
          ⟨ho, rfl, ⟨_, ho, rfl⟩, call_meets F.slot_tuple_mul ⟨_, ho, rfl⟩ F.entry_tuple_mul (F.args_tuple_mul_2 _ _) (mul_noneW l its.toArray n dd sl 0 t c0 c1 c2) ⟨ho, ?_⟩⟩)
      refine ⟨.ref s.heap.objs.size, _, I.laid (t' := s.toks) (o := .tup []) (fun b ob q => Heap.get?_push_of_some _ q) (Nat.le_refl _) ?_, rfl, q2 one _ (I.hok.fresh (Nat.le_refl _))⟩
      exact ⟨by decide, _, .nil, IsTup.new _ _⟩
end Tr

set_option Elab.async false
set_option linter.all false
set_option maxRecDepth 100000
set_option maxHeartbeats 6400000
namespace K16
open PySem L2 Tx Tg Tm Da RZ
theorem flat_zeros : ∀ k : Nat, (List.replicate k [V.int 0]).flatten = intsV (List.replicate k 0)
  | 0 => rfl
  | k + 1 => by
    rw [List.replicate_succ, List.flatten_cons, flat_zeros k]
    rfl
section
variable {K : PySem.W.Frag}
theorem zeros_run {σ : L2.St} {H : Hp} {Q : VK} {i : Nat} {b : Addr} {ys : List V} (hi : σ[i]? = some (some (.ref b))) (hy : ∀ H', Same H H' → SqT K H' b ys) (hm : ys.length ≤ 9) (q : ∀ p H', Same H H' → RowI H' p (List.replicate ys.length 0) → Q (.ref p) H') :
    tOp (Tr.rRepA K) (tTup (tCons (tC (.int 0)) tNil)) (tCB (fun xs H Q => ∃ p ys, xs = [.ref p] ∧ (SqL K H p ys ∨ SqT K H p ys) ∧ Q (.int ys.length) H) (tCons (tVar i) tNil)) σ H Q := by
  refine ⟨(by show 1 ≤ sizeLine; decide), fun p np => ?_⟩
  have s1 := same_upd (o := .tup [V.int 0]) np
  refine ⟨_, hi, b, ys, rfl, .inr (hy _ s1), p, ys.length, [.int 0], rfl, rfl, SqT.of upd_same, by omega, by omega, by show 1 ≤ 1000; decide, fun h => ?_, fun h r nr => ?_⟩
  · have e1 : ys.length = 1 := by
      rcases h with h | h
      · omega
      · cases h
    refine q p _ s1 ?_
    rw [e1]
    exact upd_same
  · rw [Int.toNat_natCast, flat_zeros]
    exact q r _ (s1.trans (same_upd nr)) upd_same
theorem cat_ints {Q : VK} {H : Hp} {a b : Addr} {l m : List Int} (ha : RowI H a l) (hb : RowI H b m) (hl : l.length + m.length ≤ sizeLine) (q : ∀ p H', Same H H' → RowI H' p (l ++ m) → Q (.ref p) H') : rCatA K (.ref a) (.ref b) H Q := by
  refine ⟨a, b, intsV l, intsV m, rfl, rfl, SqT.of ha, SqT.of hb, by rw [List.length_map, List.length_map]; exact hl, fun e => ?_, fun _ e => ?_, fun _ _ p np => ?_⟩
  · have e := List.map_eq_nil_iff.mp e
    refine q b H (Same.refl H) ?_
    rw [e]
    exact hb
  · have e := List.map_eq_nil_iff.mp e
    refine q a H (Same.refl H) ?_
    rw [e, List.append_nil]
    exact ha
  · rw [← List.map_append]
    exact q p _ (same_upd np) upd_same
end
section
variable {P : Program} {w : World} {K : PySem.W.Frag} {mg : Str → Option Value} {base : Heap}
abbrev nJoined : List Str := ["one", "other", "upper", "lower", "row"]
theorem scJoined : FnScope nJoined ["one", "other"] (defScope sJoined) := ⟨rfl, rfl, rfl, by decide +kernel, rfl, by decide +kernel, by decide +kernel⟩
def spJoined : Sp := fun vs H Q _ => ∃ (a b : Addr) (A B : List (List Int)) (n m : Nat), vs = [.ref a, .ref b] ∧ SqAt H a A ∧ SqAt H b B ∧ Ty.Sq n A ∧ Ty.Sq m B ∧ n + m ≤ 9 ∧ ∀ c H', Same H H' → SqAt H' c (Ty.joinL A B) → Q (.ref c) H'
theorem ok_joined {f : Addr} {fd : FuncData} (F : Fun K "joined_square" "joined_square" sJoined f fd) (T : Txt K mg) : FnOk P w K mg base CX0 1 f fd ["one", "other"] spJoined := by
  refine F.ok scJoined (fun vs H Q E h => ?_) (fun cdv A outer s H vs Q E hr h => ?_)
  · obtain ⟨a, b, A, B, n, m, rfl, _⟩ := h
    rfl
  · obtain ⟨a, b, A, B, n, m, rfl, ⟨ps, ea, hps⟩, ⟨qs, eb, hqs⟩, hA, hB, hnm, q⟩ := h
    refine ⟨_, (pss_cons (ps_setLc (i := 2) (own := [("row", 4)]) (g := (gName 4)) (tt := tYes) (te := tOp (rCatA K) (tVar 4) (tOp (Tr.rRepA K) (tTup (tCons (tC (.int 0)) tNil)) (tCB (fun xs H Q => ∃ p ys, xs = [.ref p] ∧ (SqL K H p ys ∨ SqT K H p ys) ∧ Q (.int ys.length) H) (tCons (tVar 1) tNil)))) (by rfl) scJoined.nd rfl rfl (sw_true rfl rfl rfl (by decide +kernel)) (pi_tup (pv 0)) (blkOk_by (own := [("row", 4)]) (N := nJoined) (sc := defScope sJoined) (by decide +kernel)) (fun _ _ _ _ _ => (pg_name (i := 4) scJoined.nd rfl (Or.inl rfl))) (fun _ _ _ _ _ => pts_nil) (fun _ _ _ _ _ => (pe_op op_catA (pv 4) (pe_op Tr.op_repA (pe_tup (pa_cons pe_int pa_nil)) (pe_callB call_len_seq (by rfl) T.len PySem.boot_len (pa_cons (pv 1) pa_nil))))))
    (pss_cons (ps_setLc (i := 3) (own := [("row", 4)]) (g := (gName 4)) (tt := tYes) (te := tOp (rCatA K) (tOp (Tr.rRepA K) (tTup (tCons (tC (.int 0)) tNil)) (tCB (fun xs H Q => ∃ p ys, xs = [.ref p] ∧ (SqL K H p ys ∨ SqT K H p ys) ∧ Q (.int ys.length) H) (tCons (tVar 0) tNil))) (tVar 4)) (by rfl) scJoined.nd rfl rfl (sw_true rfl rfl rfl (by decide +kernel)) (pi_tup (pv 1)) (blkOk_by (own := [("row", 4)]) (N := nJoined) (sc := defScope sJoined) (by decide +kernel)) (fun _ _ _ _ _ => (pg_name (i := 4) scJoined.nd rfl (Or.inl rfl))) (fun _ _ _ _ _ => pts_nil) (fun _ _ _ _ _ => (pe_op op_catA (pe_op Tr.op_repA (pe_tup (pa_cons pe_int pa_nil)) (pe_callB call_len_seq (by rfl) T.len PySem.boot_len (pa_cons (pv 0) pa_nil))) (pv 4))))
    (pss_one (ps_ret (pe_callTy call_tuple_of (by rfl) T.tuple (by decide +kernel) (pa_cons (pe_op op_cat (pv 2) (pv 3)) pa_nil)))))), ?_⟩
    have lA := hA.len
    have lB := hB.len
    have lps := hps.length
    have lqs := hqs.length
    refine ⟨_, rfl, a, rfl, ⟨_, SqT.of ea⟩, fun D nD => ?_⟩
    refine Lc.lcTR (R := RowI) rowI_kt (ys := A.map fun r => r ++ List.replicate B.length 0) (SqT.of ea) nD (by rw [List.length_map, List.length_map, lps]) (by rw [List.length_map, lps]; exact Nat.lt_of_le_of_lt (show A.length ≤ 9 by omega) (by decide)) (fun _ => rfl) ?_ ?_
    · intro i x y H2 hx hy s2 Q' q'
      have hi := (List.getElem?_eq_some_iff.mp hx).1
      rw [List.length_map] at hi
      have hiA : i < A.length := by omega
      rw [List.getElem?_map, List.getElem?_eq_getElem hi] at hx
      rw [List.getElem?_map, List.getElem?_eq_getElem hiA] at hy
      cases hx
      cases hy
      have hrow := s2 _ _ (each_at2 hps (List.getElem?_eq_getElem hi) (List.getElem?_eq_getElem hiA))
      refine ⟨_, rfl, ?_⟩
      refine zeros_run (b := b) (ys := qs.map V.ref) rfl (fun H' s' => SqT.of (s' _ _ (s2 _ _ eb))) (by rw [List.length_map]; omega) fun p H3 s3 hp => ?_
      rw [List.length_map, lqs] at hp
      exact cat_ints (s3 _ _ hrow) hp (by rw [hA.row _ (List.getElem_mem hiA), List.length_replicate]; exact Nat.le_trans (show n + B.length ≤ 9 by omega) (by decide)) fun c H4 s4 hc => q' c H4 (s3.trans s4) hc
    intro H2 us s2 e2 r2
    dsimp only [gName]
    refine ⟨_, rfl, b, rfl, ⟨_, SqT.of (s2 _ _ eb)⟩, fun D2 nD2 => ?_⟩
    refine Lc.lcTR (R := RowI) rowI_kt (ys := B.map fun r => List.replicate A.length 0 ++ r) (SqT.of (s2 _ _ eb)) nD2 (by rw [List.length_map, List.length_map, lqs]) (by rw [List.length_map, lqs]; exact Nat.lt_of_le_of_lt (show B.length ≤ 9 by omega) (by decide)) (fun _ => rfl) ?_ ?_
    · intro i x y H3 hx hy s3 Q' q'
      have hi := (List.getElem?_eq_some_iff.mp hx).1
      rw [List.length_map] at hi
      have hiB : i < B.length := by omega
      rw [List.getElem?_map, List.getElem?_eq_getElem hi] at hx
      rw [List.getElem?_map, List.getElem?_eq_getElem hiB] at hy
      cases hx
      cases hy
      have hrow := s3 _ _ (s2 _ _ (each_at2 hqs (List.getElem?_eq_getElem hi) (List.getElem?_eq_getElem hiB)))
      refine zeros_run (b := a) (ys := ps.map V.ref) rfl (fun H' s' => SqT.of (s' _ _ (s3 _ _ (s2 _ _ ea)))) (by rw [List.length_map]; omega) fun p H4 s4 hp => ?_
      rw [List.length_map, lps] at hp
      refine ⟨_, rfl, ?_⟩
      exact cat_ints hp (s4 _ _ hrow) (by rw [hB.row _ (List.getElem_mem hiB), List.length_replicate]; exact Nat.le_trans (show A.length + m ≤ 9 by omega) (by decide)) fun c H5 s5 hc => q' c H5 (s4.trans s5) hc
    intro H3 ws s3 e3 r3
    dsimp only [gName]
    have lu := r2.length
    have lws := r3.length
    rw [List.length_map] at lu lws
    have e23 := s3 _ _ e2
    refine ⟨_, rfl, _, rfl, D, D2, _, _, rfl, rfl, e23, e3, by rw [List.length_map, List.length_map]; exact Nat.le_trans (show us.length + ws.length ≤ 9 by omega) (by decide), fun p np => ?_⟩
    have s4 := same_upd (o := .lst (us.map V.ref ++ ws.map V.ref)) np
    refine ⟨p, _, rfl, .inl ⟨SqL.of upd_same, fun c nc => ?_⟩⟩
    have s5 := s4.trans (same_upd (o := .tup (us.map V.ref ++ ws.map V.ref)) nc)
    refine q c _ (s2.trans (s3.trans s5)) ⟨us ++ ws, by rw [upd_same, List.map_append], ?_⟩
    exact each_app (PySem.W.EachIs.mono (fun _ _ e => s5 _ _ (s3 _ _ e)) r2) (PySem.W.EachIs.mono (fun _ _ e => s5 _ _ e) r3)
end
end K16

set_option Elab.async false
set_option linter.all false
set_option maxRecDepth 100000
set_option maxHeartbeats 3200000
/-! [.. for x in one for y in other], two tuples -/
namespace Lc
open PySem L2 Tx Tg Tm RZ
theorem lc2_tup {K : PySem.W.Frag} {a b : Addr} {xs ys : List V} {te : TE} {σ : L2.St} {H1 : Hp} {D : Addr} {Qd : Hp → Prop} {j0 j1 q : Nat} (Pv : Nat → Nat → Hp → Prop) (h0 : Pv 0 0 (upd H1 D (.lst []))) (hq : ∀ i j H, Pv i j H → SqT K H a xs ∧ SqT K H b ys)
    (hw : ∀ x, wipe ((wipe σ [j0, j1]).set j0 (some x)) [j0, j1] = wipe σ [j0, j1]) (hw1 : ∀ x y, wipe ((wipe ((wipe σ [j0, j1]).set j0 (some x)) [j1]).set j1 (some y)) [j1] = wipe ((wipe σ [j0, j1]).set j0 (some x)) [j1])
    (hb : ∀ x, ((wipe σ [j0, j1]).set j0 (some x))[q]? = some (some (.ref b)))
    (hs : ∀ i j x y H, xs[i]? = some x → ys[j]? = some y → Pv i j H → te ((wipe ((wipe σ [j0, j1]).set j0 (some x)) [j1]).set j1 (some y)) H fun v H4 => ∃ acc, H4 D = some (.lst acc) ∧ acc.length < sizeLine ∧ Pv i (j + 1) (upd H4 D (.lst (acc ++ [v]))))
    (hn : ∀ i H, i < xs.length → Pv i ys.length H → Pv (i + 1) 0 H) (hd : ∀ H, Pv xs.length 0 H → Qd H) :
    ∃ W : Nat → Nat → Hp → Prop, (∃ m, W 0 m (upd H1 D (.lst []))) ∧ ∀ i m H, W i m H →
      ((Itt K a).stop i H ∧ Qd H) ∨ ((Itt K a).go i H ∧ ∃ Nx : Hp → Prop, (∀ H', Nx H' → ∃ m', m' < m ∧ W (i + 1) m' H') ∧ ∀ x H', (Itt K a).yld i H x H' → gName j0 x (wipe σ [j0, j1]) H' fun σ2 H2 => wipe σ2 [j0, j1] = wipe σ [j0, j1] ∧ tYes σ2 H2 fun b H3 =>
        if b = true then iTup K (tVar q) σ2 H3 fun J1 H4 => ∃ W1 : Nat → Nat → Hp → Prop, (∃ m, W1 0 m H4) ∧ ∀ j k H, W1 j k H →
          (J1.stop j H ∧ Nx H) ∨ (J1.go j H ∧ ∃ Nx1 : Hp → Prop, (∀ H', Nx1 H' → ∃ k', k' < k ∧ W1 (j + 1) k' H') ∧ ∀ x H', J1.yld j H x H' → gName j1 x (wipe σ2 [j1]) H' fun σ3 H5 => wipe σ3 [j1] = wipe σ2 [j1] ∧ tYes σ3 H5 fun b H6 =>
            if b = true then te σ3 H6 fun y H7 => ∃ acc, H7 D = some (.lst acc) ∧ acc.length < sizeLine ∧ Nx1 (upd H7 D (.lst (acc ++ [y]))) else Nx1 H6)
        else Nx H3) := by
  refine ⟨fun i m H => m = xs.length - i ∧ i ≤ xs.length ∧ Pv i 0 H, ⟨xs.length, by simp, Nat.zero_le _, h0⟩, ?_⟩
  rintro i m H ⟨rfl, hi, p⟩
  by_cases hlt : i < xs.length
  · refine .inr ⟨⟨xs, xs[i], (hq i 0 H p).1, by simp [hlt]⟩, Pv (i + 1) 0, fun H' p' => ⟨xs.length - (i + 1), by omega, rfl, hlt, p'⟩, fun x H' y => ?_⟩
    obtain ⟨e, y⟩ := y
    subst e
    have ex := y xs (hq i 0 _ p).1
    refine ⟨hw _, iteT (B := False) ?_⟩
    refine ⟨_, hb _, b, rfl, ⟨ys, (hq i 0 _ p).2⟩, ?_⟩
    refine ⟨fun j k H => k = ys.length - j ∧ j ≤ ys.length ∧ Pv i j H, ⟨ys.length, by simp, Nat.zero_le _, p⟩, ?_⟩
    rintro j k H5 ⟨rfl, hj, p5⟩
    by_cases hjl : j < ys.length
    · refine .inr ⟨⟨ys, ys[j], (hq i j _ p5).2, by simp [hjl]⟩, Pv i (j + 1), fun H' p' => ⟨ys.length - (j + 1), by omega, rfl, hjl, p'⟩, fun z H6 yz => ?_⟩
      obtain ⟨e, yz⟩ := yz
      subst e
      exact ⟨hw1 _ _, iteT (B := False) (hs i j x z _ ex (yz ys (hq i j _ p5).2) p5)⟩
    · have e : j = ys.length := by omega
      subst e
      exact .inl ⟨⟨ys, (hq i _ _ p5).2, Nat.le_refl _⟩, hn i _ hlt p5⟩
  · have e : i = xs.length := by omega
    subst e
    exact .inl ⟨⟨xs, (hq _ 0 H p).1, Nat.le_refl _⟩, hd H p⟩
end Lc

set_option Elab.async false
set_option linter.all false
set_option maxRecDepth 100000
set_option maxHeartbeats 6400000
namespace K16
open PySem L2 Tx Tg Tm Da RZ
section
variable {P : Program} {w : World} {K : PySem.W.Frag} {mg : Str → Option Value} {base : Heap}
/-! ### crossed -/
theorem each_take {α β γ : Type} {f : α → β → γ} {as : List α} {bs : List β} {i j : Nat} (hi : i < as.length) (hj : j < bs.length) : (Ty.each f as bs).take (i * bs.length + (j + 1)) = (Ty.each f as bs).take (i * bs.length + j) ++ [f as[i] bs[j]] := by
  have h : i * bs.length + j < as.length * bs.length := by
    have : (i + 1) * bs.length ≤ as.length * bs.length := Nat.mul_le_mul_right _ hi
    rw [Nat.succ_mul] at this
    omega
  have e := Ty.each_at (f := f) (a := as) (b := bs) h
  have d1 : (i * bs.length + j) / bs.length = i := by rw [Nat.mul_comm, Nat.mul_add_div (by omega), Nat.div_eq_of_lt hj, Nat.add_zero]
  have d2 : (i * bs.length + j) % bs.length = j := by rw [Nat.mul_comm, Nat.mul_add_mod, Nat.mod_eq_of_lt hj]
  rw [← Nat.add_assoc, List.take_add_one, e]
  simp [d1, d2]
abbrev nPairedR : List Str := ["one", "other", "left", "right"]
theorem scPairedR : FnScope nPairedR ["one", "other"] (defScope sPairedR) := ⟨rfl, rfl, rfl, by decide +kernel, rfl, by decide +kernel, by decide +kernel⟩
def spPairedR : Sp := fun vs H Q _ => ∃ (a b : Addr) (l m : List Int), vs = [.ref a, .ref b] ∧ RowI H a l ∧ RowI H b m ∧ l.length ≤ 9 ∧ m.length ≤ 9 ∧ (Few l ∨ Few m) ∧ ∀ c H', Same H H' → RowI H' c (Ty.crossR l m) → Q (.ref c) H'
theorem ok_pairedR {f : Addr} {fd : FuncData} (F : Fun K "paired_row" "paired_row" sPairedR f fd) (T : Txt K mg) : FnOk P w K mg base CX0 1 f fd ["one", "other"] spPairedR := by
  refine F.ok scPairedR (fun vs H Q E h => ?_) (fun cdv A outer s H vs Q E hr h => ?_)
  · obtain ⟨a, b, l, m, rfl, _⟩ := h
    rfl
  · obtain ⟨a, b, l, m, rfl, ha, hb, hl, hm, hf, q⟩ := h
    refine ⟨_, (pss_one (ps_ret (pe_callTy call_tuple_of (by rfl) T.tuple (by decide +kernel) (pa_cons (pe_lc2 (own := [("left", 2), ("right", 3)]) (g := gName 2) (g1 := gName 3) (tt := tYes) (tt1 := tYes) (vs1 := [3]) (wi1 := iTup K (tVar 1)) rfl scPairedR.nd (pi_tup (pv 0))
      (blkOk_by (own := [("left", 2), ("right", 3)]) (N := nPairedR) (sc := defScope sPairedR) (by decide +kernel)) (by decide) (fun _ _ _ _ _ => pg_name (i := 2) scPairedR.nd rfl (Or.inl rfl)) (fun _ _ _ _ _ => pts_nil)
      (fun _ _ _ _ _ => pi_tup (pv 1)) (fun _ _ _ _ _ => pg_name (i := 3) scPairedR.nd rfl (Or.inl rfl)) (fun _ _ _ _ _ => pts_nil) (fun _ _ _ _ _ => pe_op op_mul (pv 2) (pv 3))) pa_nil)))), ?_⟩
    refine ⟨_, rfl, a, rfl, ⟨_, SqT.of ha⟩, fun D nD => ?_⟩
    have lc : (Ty.crossR l m).length = l.length * m.length := Ty.each_len
    have l81 : l.length * m.length ≤ 81 := Nat.mul_le_mul hl hm
    refine Lc.lc2_tup (xs := intsV l) (ys := intsV m) (b := b) (q := 1) (fun i j H2 => Same H H2 ∧ H2 D = some (.lst (intsV ((Ty.crossR l m).take (i * m.length + j))))) ⟨same_upd nD, by rw [upd_same, Nat.zero_mul]; rfl⟩ (fun i j H2 z => ⟨SqT.of (z.1 _ _ ha), SqT.of (z.1 _ _ hb)⟩) (fun _ => rfl) (fun _ _ => rfl) (fun _ => rfl) ?_ ?_ ?_
    · rintro i j x y H2 hx hy ⟨s2, e2⟩
      have hi := (List.getElem?_eq_some_iff.mp hx).1
      have hj := (List.getElem?_eq_some_iff.mp hy).1
      rw [List.length_map] at hi hj
      rw [List.getElem?_map, List.getElem?_eq_getElem hi] at hx
      rw [List.getElem?_map, List.getElem?_eq_getElem hj] at hy
      cases hx
      cases hy
      have cm : CMul l[i] m[j] := by
        rcases hf with hf | hf
        · exact .inl (hf _ (List.getElem_mem hi))
        · exact .inr (hf _ (List.getElem_mem hj))
      refine ⟨_, rfl, _, rfl, _, _, rfl, rfl, cm, _, e2, ?_, same_put s2 nD, ?_⟩
      · rw [List.length_map, List.length_take]
        exact Nat.lt_of_le_of_lt (Nat.min_le_right _ _) (by rw [lc]; exact Nat.lt_of_le_of_lt l81 (by decide))
      · have et : (Ty.crossR l m).take (i * m.length + (j + 1)) = (Ty.crossR l m).take (i * m.length + j) ++ [l[i] * m[j]] := each_take hi hj
        rw [upd_same, et]
        show some (HO.lst _) = some (HO.lst (List.map V.int (_ ++ [l[i] * m[j]])))
        rw [List.map_append]
        rfl
    · rintro i H2 hi ⟨s2, e2⟩
      rw [List.length_map] at e2
      exact ⟨s2, by rw [e2, Nat.succ_mul]; rfl⟩
    · rintro H2 ⟨s2, e2⟩
      rw [List.length_map, Nat.add_zero, List.take_of_length_le (by rw [lc]; exact Nat.le_refl _)] at e2
      refine ⟨D, _, rfl, .inl ⟨SqL.of e2, fun c nc => ?_⟩⟩
      exact q c _ (s2.trans (same_upd nc)) upd_same
abbrev nPairedS : List Str := ["one", "other", "left", "right"]
theorem scPairedS : FnScope nPairedS ["one", "other"] (defScope sPairedS) := ⟨rfl, rfl, rfl, by decide +kernel, rfl, by decide +kernel, by decide +kernel⟩
def spPairedS : Sp := fun vs H Q _ => ∃ (a b : Addr) (A B : List (List Int)) (n m : Nat), vs = [.ref a, .ref b] ∧ SqAt H a A ∧ SqAt H b B ∧ Ty.Sq n A ∧ Ty.Sq m B ∧ n ≤ 9 ∧ m ≤ 9 ∧ (∀ r ∈ A, Few r) ∧ ∀ c H', Same H H' → SqAt H' c (Ty.crossL A B) → Q (.ref c) H'
theorem ok_pairedS {f fR : Addr} {fd dR : FuncData} (F : Fun K "paired_square" "paired_square" sPairedS f fd) (T : Txt K mg) (DR : Df K mg "paired_row" sPairedR ["one", "other"] fR dR) : FnOk P w K mg base CX0 2 f fd ["one", "other"] spPairedS := by
  have GR := ok_pairedR (P := P) (w := w) (base := base) DR.F T
  refine F.ok scPairedS (fun vs H Q E h => ?_) (fun cdv A outer s H vs Q E hr h => ?_)
  · obtain ⟨a, b, A, B, n, m, rfl, _⟩ := h
    rfl
  · obtain ⟨a, b, A, B, n, m, rfl, ⟨ps, ea, hps⟩, ⟨qs, eb, hqs⟩, hA, hB, hn, hm, hf, q⟩ := h
    refine ⟨_, (pss_one (ps_ret (pe_callTy call_tuple_of (by rfl) T.tuple (by decide +kernel) (pa_cons (pe_lc2 (own := [("left", 2), ("right", 3)]) (g := gName 2) (g1 := gName 3) (tt := tYes) (tt1 := tYes) (vs1 := [3]) (wi1 := iTup K (tVar 1)) (te := tCall spPairedR [] E0 (tCons (tVar 2) (tCons (tVar 3) tNil))) rfl scPairedS.nd (pi_tup (pv 0))
      (blkOk_by (own := [("left", 2), ("right", 3)]) (N := nPairedS) (sc := defScope sPairedS) (by decide +kernel)) (by decide) (fun _ _ _ _ _ => pg_name (i := 2) scPairedS.nd rfl (Or.inl rfl)) (fun _ _ _ _ _ => pts_nil)
      (fun _ _ _ _ _ => pi_tup (pv 1)) (fun _ _ _ _ _ => pg_name (i := 3) scPairedS.nd rfl (Or.inl rfl)) (fun _ _ _ _ _ => pts_nil) (fun _ _ _ _ _ => pe_call GR (hr.mono (by decide)) (by rfl) DR.m DR.F.kp DR.b .nil pass0 (pa_cons (pv 2) (pa_cons (pv 3) pa_nil)))) pa_nil)))), ?_⟩
    have lps := hps.length
    have lqs := hqs.length
    have lA := hA.len
    have lB := hB.len
    refine ⟨_, rfl, a, rfl, ⟨_, SqT.of ea⟩, fun D nD => ?_⟩
    have lc : (Ty.crossL A B).length = A.length * B.length := Ty.each_len
    have l81 : A.length * B.length ≤ 81 := Nat.mul_le_mul (show A.length ≤ 9 by omega) (show B.length ≤ 9 by omega)
    refine Lc.lc2_tup (xs := ps.map V.ref) (ys := qs.map V.ref) (b := b) (q := 1) (fun i j H2 => ∃ us : List Addr, Same H H2 ∧ H2 D = some (.lst (us.map V.ref)) ∧ PySem.W.EachIs (RowI H2) us ((Ty.crossL A B).take (i * B.length + j))) ⟨[], same_upd nD, upd_same, by rw [Nat.zero_mul]; exact .nil⟩ (fun i j H2 z => by
      obtain ⟨_, s, _⟩ := z
      exact ⟨SqT.of (s _ _ ea), SqT.of (s _ _ eb)⟩) (fun _ => rfl) (fun _ _ => rfl) (fun _ => rfl) ?_ ?_ ?_
    · rintro i j x y H2 hx hy ⟨us, s2, e2, r2⟩
      have hi := (List.getElem?_eq_some_iff.mp hx).1
      have hj := (List.getElem?_eq_some_iff.mp hy).1
      rw [List.length_map] at hi hj
      have hiA : i < A.length := by omega
      have hjB : j < B.length := by omega
      rw [List.getElem?_map, List.getElem?_eq_getElem hi] at hx
      rw [List.getElem?_map, List.getElem?_eq_getElem hj] at hy
      cases hx
      cases hy
      have h1 := s2 _ _ (each_at2 hps (List.getElem?_eq_getElem hi) (List.getElem?_eq_getElem hiA))
      have h2 := s2 _ _ (each_at2 hqs (List.getElem?_eq_getElem hj) (List.getElem?_eq_getElem hjB))
      refine ⟨_, rfl, _, rfl, ps[i], qs[j], A[i], B[j], rfl, h1, h2, by rw [hA.row _ (List.getElem_mem hiA)]; exact hn, by rw [hB.row _ (List.getElem_mem hjB)]; exact hm, .inl (hf _ (List.getElem_mem hiA)), fun c H4 s4 hc => ?_⟩
      have e4 := s4 _ _ e2
      have lu := r2.length
      refine ⟨_, e4, ?_, us ++ [c], same_put (s2.trans s4) nD, ?_, ?_⟩
      · rw [List.length_map, lu, List.length_take]
        exact Nat.lt_of_le_of_lt (Nat.min_le_right _ _) (by rw [lc]; exact Nat.lt_of_le_of_lt l81 (by decide))
      · rw [upd_same, List.map_append]
        rfl
      · have et : (Ty.crossL A B).take (i * B.length + (j + 1)) = (Ty.crossL A B).take (i * B.length + j) ++ [Ty.crossR A[i] B[j]] := each_take hiA hjB
        have k5 : KeepT H4 (upd H4 D (.lst (us.map V.ref ++ [V.ref c]))) := KeepT.upd (.lst e4)
        rw [et]
        exact each_app (PySem.W.EachIs.mono (fun _ _ e => k5 _ _ (s4 _ _ e)) r2) (.cons (k5 _ _ hc) .nil)
    · rintro i H2 hi ⟨us, s2, e2, r2⟩
      rw [List.length_map, lqs] at r2
      refine ⟨us, s2, e2, ?_⟩
      rw [Nat.succ_mul]
      exact r2
    · rintro H2 ⟨us, s2, e2, r2⟩
      rw [List.length_map, lps, Nat.add_zero, List.take_of_length_le (by rw [lc]; exact Nat.le_refl _)] at r2
      refine ⟨D, _, rfl, .inl ⟨SqL.of e2, fun c nc => ?_⟩⟩
      have s3 := same_upd (o := .tup (us.map V.ref)) nc
      exact q c _ (s2.trans s3) ⟨us, upd_same, PySem.W.EachIs.mono (fun _ _ e => s3 _ _ e) r2⟩
end
end K16

set_option Elab.async false
set_option linter.all false
set_option maxRecDepth 100000
set_option maxHeartbeats 6400000
namespace K16
open PySem L2 Tx Tg Tm Da RZ
/-! ### judges that pass -/
theorem few_isInt {x : Int} (h : -(2 ^ 64) < x ∧ x < 2 ^ 64) : isInt (.int x) = true := by
  refine decide_eq_true ?_
  exact Nat.lt_of_lt_of_le (show x.natAbs < 2 ^ 64 by omega) (show (2 : Nat) ^ 64 ≤ 10 ^ 200 by decide +kernel)
/-- the primes that the law draws -/
def Pr (p : Int) : Prop := p = 2 ∨ p = 3 ∨ p = 5 ∨ p = 7
theorem all_true {n : Nat} : ((List.replicate n true).all id) = true := List.all_eq_true.mpr fun b hb => by rw [(List.mem_replicate.mp hb).2]; rfl
section
variable {P : Program} {w : World} {K : PySem.W.Frag} {mg : Str → Option Value} {base : Heap}
abbrev nPrimeQ : List Str := ["value"]
theorem scPrimeQ : FnScope nPrimeQ ["value"] (defScope sPrimeQ) := ⟨rfl, rfl, rfl, by decide +kernel, rfl, by decide +kernel, by decide +kernel⟩
def spPrimeQ : Sp := fun vs H Q _ => ∃ p : Int, vs = [.int p] ∧ Pr p ∧ Q (.bl true) H
theorem ok_primeq {f fI : Addr} {fd dI : FuncData} (F : Fun K "is_prime" "is_prime" sPrimeQ f fd) (T : Txt K mg) (DI : Df K mg "is_integer" sInt ["value"] fI dI) : FnOk P w K mg base CX0 2 f fd ["value"] spPrimeQ := by
  have GI := ok_int (P := P) (w := w) (base := base) DI.F T
  refine F.ok scPrimeQ (fun vs H Q E h => ?_) (fun cdv A outer s H vs Q E hr h => ?_)
  · obtain ⟨p, rfl, _⟩ := h
    rfl
  · obtain ⟨p, rfl, hp, q⟩ := h
    obtain ⟨pp, hpp, hs⟩ := T.primes
    refine ⟨_, (pss_one (ps_ret (pe_and (pe_call GI (hr.mono (by decide)) (by rfl) DI.m DI.F.kp DI.b .nil pass0 (pa_cons (pv 0) pa_nil)) (pe_one (pe_cmpR op_in_seq (pv 0) (pe_glob (v := .ref pp) rfl hpp rfl) (by rfl)))))), ?_⟩
    refine ⟨_, rfl, .int p, .int p, rfl, .int p, _, rfl, ?_⟩
    rw [few_isInt (by rcases hp with rfl | rfl | rfl | rfl <;> decide)]
    refine iteT ⟨_, rfl, pp, _, rfl, .inr (hs _), rfl, rfl, ?_⟩
    have e : inV (.int p) [.int 2, .int 3, .int 5, .int 7] = true := by rcases hp with rfl | rfl | rfl | rfl <;> rfl
    show Q (.bl (if false = true then _ else inV (.int p) _)) H
    rw [if_neg Bool.false_ne_true, e]
    exact q
abbrev nCInt : List Str := ["value"]
theorem scCInt : FnScope nCInt ["value"] (defScope sCInt) := ⟨rfl, rfl, rfl, by decide +kernel, rfl, by decide +kernel, by decide +kernel⟩
def spCInt : Sp := fun vs H Q _ => ∃ x : Int, vs = [.int x] ∧ isInt (.int x) = true ∧ Q .non H
theorem ok_cint {f fI : Addr} {fd dI : FuncData} (F : Fun K "check_integer" "check_integer" sCInt f fd) (T : Txt K mg) (DI : Df K mg "is_integer" sInt ["value"] fI dI) : FnOk P w K mg base CX0 2 f fd ["value"] spCInt := by
  have GI := ok_int (P := P) (w := w) (base := base) DI.F T
  refine F.ok scCInt (fun vs H Q E h => ?_) (fun cdv A outer s H vs Q E hr h => ?_)
  · obtain ⟨x, rfl, _⟩ := h
    rfl
  · obtain ⟨x, rfl, hx, q⟩ := h
    refine ⟨_, (pss_one (ps_if (pt_not (pt_val (pe_call GI (hr.mono (by decide)) (by rfl) DI.m DI.F.kp DI.b .nil pass0 (pa_cons (pv 0) pa_nil)))) (pss_one ps_never) pss_nil)), ?_⟩
    refine ⟨_, rfl, .int x, .int x, rfl, .int x, _, rfl, ?_⟩
    rw [hx]
    exact iteF q
abbrev nCPrime : List Str := ["value"]
theorem scCPrime : FnScope nCPrime ["value"] (defScope sCPrime) := ⟨rfl, rfl, rfl, by decide +kernel, rfl, by decide +kernel, by decide +kernel⟩
def spCPrime : Sp := fun vs H Q _ => ∃ p : Int, vs = [.int p] ∧ Pr p ∧ Q .non H
theorem ok_cprime {f fI fP : Addr} {fd dI dP : FuncData} (F : Fun K "check_prime" "check_prime" sCPrime f fd) (T : Txt K mg) (DI : Df K mg "is_integer" sInt ["value"] fI dI) (DP : Df K mg "is_prime" sPrimeQ ["value"] fP dP) : FnOk P w K mg base CX0 3 f fd ["value"] spCPrime := by
  have GP := ok_primeq (P := P) (w := w) (base := base) DP.F T DI
  refine F.ok scCPrime (fun vs H Q E h => ?_) (fun cdv A outer s H vs Q E hr h => ?_)
  · obtain ⟨p, rfl, _⟩ := h
    rfl
  · obtain ⟨p, rfl, hp, q⟩ := h
    refine ⟨_, (pss_one (ps_if (pt_not (pt_val (pe_call GP (hr.mono (by decide)) (by rfl) DP.m DP.F.kp DP.b .nil pass0 (pa_cons (pv 0) pa_nil)))) (pss_one ps_never) pss_nil)), ?_⟩
    exact ⟨_, rfl, p, rfl, hp, _, rfl, iteF q⟩
abbrev nCSome : List Str := ["value"]
theorem scCSome : FnScope nCSome ["value"] (defScope sCSome) := ⟨rfl, rfl, rfl, by decide +kernel, rfl, by decide +kernel, by decide +kernel⟩
def okPr : Option Int → Prop
  | none => True
  | some p => Pr p
theorem okPr.ok {p : Option Int} (h : okPr p) : okP p := by
  cases p with
  | none => trivial
  | some p => rcases (h : Pr p) with rfl | rfl | rfl | rfl <;> (show (0 : Int) < _; decide)
def spCSome : Sp := fun vs H Q _ => ∃ p : Option Int, vs = [pV p] ∧ okPr p ∧ Q .non H
theorem ok_csome {f fI fP fC : Addr} {fd dI dP dC : FuncData} (F : Fun K "check_some_prime" "check_some_prime" sCSome f fd) (T : Txt K mg) (DI : Df K mg "is_integer" sInt ["value"] fI dI) (D0 : Df K mg "is_prime" sPrimeQ ["value"] fP dP) (DP : Df K mg "check_prime" sCPrime ["value"] fC dC) : FnOk P w K mg base CX0 4 f fd ["value"] spCSome := by
  have GP := ok_cprime (P := P) (w := w) (base := base) DP.F T DI D0
  refine F.ok scCSome (fun vs H Q E h => ?_) (fun cdv A outer s H vs Q E hr h => ?_)
  · obtain ⟨p, rfl, _⟩ := h
    rfl
  · obtain ⟨p, rfl, hp, q⟩ := h
    refine ⟨_, (pss_one (ps_if (pt_cmpR op_notN (pv 0) pe_non (nomark _)) (pss_one (ps_expr (pe_call GP (hr.mono (by decide)) (by rfl) DP.m DP.F.kp DP.b .nil pass0 (pa_cons (pv 0) pa_nil)))) pss_nil)), ?_⟩
    cases p with
    | none =>
      refine ⟨_, rfl, rfl, _, rfl, ?_⟩
      rw [decide_eq_true (show pV none = V.non from rfl)]
      exact iteF q
    | some p =>
      refine ⟨_, rfl, rfl, _, rfl, ?_⟩
      rw [decide_eq_false (show ¬ (pV (some p) = V.non) from fun e => nomatch e)]
      exact iteT ⟨_, rfl, p, rfl, hp, q⟩
abbrev nCMost : List Str := ["many", "limit"]
theorem scCMost : FnScope nCMost ["many", "limit"] (defScope sCMost) := ⟨rfl, rfl, rfl, by decide +kernel, rfl, by decide +kernel, by decide +kernel⟩
def spCMost : Sp := fun vs H Q _ => ∃ x y : Int, vs = [.int x, .int y] ∧ x ≤ y ∧ Q .non H
theorem ok_cmost {f : Addr} {fd : FuncData} (F : Fun K "check_most" "check_most" sCMost f fd) : FnOk P w K mg base CX0 1 f fd ["many", "limit"] spCMost := by
  refine F.ok scCMost (fun vs H Q E h => ?_) (fun cdv A outer s H vs Q E hr h => ?_)
  · obtain ⟨x, y, rfl, _⟩ := h
    rfl
  · obtain ⟨x, y, rfl, hxy, q⟩ := h
    refine ⟨_, (pss_one (ps_if (pt_cmpR op_gt (pv 0) (pv 1) (nomark _)) (pss_one ps_never) pss_nil)), ?_⟩
    refine ⟨_, rfl, _, rfl, _, _, rfl, rfl, _, rfl, ?_⟩
    rw [decide_eq_false (show ¬ (x > y) by omega)]
    exact iteF q
abbrev nIsRow : List Str := ["value", "width", "number"]
theorem scIsRow : FnScope nIsRow ["value", "width"] (defScope sIsRow) := ⟨rfl, rfl, rfl, by decide +kernel, rfl, by decide +kernel, by decide +kernel⟩
def spIsRow : Sp := fun vs H Q _ => ∃ (a : Addr) (l : List Int), vs = [.ref a, .int (l.length : Int)] ∧ RowI H a l ∧ Few l ∧ l.length ≤ 100 ∧ ∀ H', Same H H' → Q (.bl true) H'
theorem ok_isrow {f fI : Addr} {fd dI : FuncData} (F : Fun K "is_row" "is_row" sIsRow f fd) (T : Txt K mg) (DI : Df K mg "is_integer" sInt ["value"] fI dI) : FnOk P w K mg base CX0 2 f fd ["value", "width"] spIsRow := by
  have GI := ok_int (P := P) (w := w) (base := base) DI.F T
  refine F.ok scIsRow (fun vs H Q E h => ?_) (fun cdv A outer s H vs Q E hr h => ?_)
  · obtain ⟨a, l, rfl, _⟩ := h
    rfl
  · obtain ⟨a, l, rfl, ha, hf, hl, q⟩ := h
    refine ⟨_, (pss_one (ps_ret (pe_and (pe_callB call_isi (by rfl) T.isi (by decide +kernel) (pa_cons (pv 0) (pa_cons (pe_bltn (v := .ty "tuple") (by rfl) T.tuple (by decide +kernel) rfl) pa_nil))) (pe_and (pe_cmpR op_eq (pe_callB call_len_seq (by rfl) T.len PySem.boot_len (pa_cons (pv 0) pa_nil)) (pv 1) (nomark _)) (pe_one (pe_callB (cr_all rfl) (by rfl) T.all (by decide +kernel) (pa_cons (pe_lc (own := [("number", 2)]) (g := (gName 2)) (tt := tYes)  rfl scIsRow.nd (pi_tup (pv 0)) (blkOk_by (own := [("number", 2)]) (N := nIsRow) (sc := defScope sIsRow) (by decide +kernel)) (fun _ _ _ _ _ => (pg_name (i := 2) scIsRow.nd rfl (Or.inl rfl))) (fun _ _ _ _ _ => pts_nil) (fun _ _ _ _ _ => (pe_call GI (hr.mono (by decide)) (by rfl) DI.m DI.F.kp DI.b .nil pass0 (pa_cons (pv 2) pa_nil)))) pa_nil))))))), ?_⟩
    have ht : SqT K H a (intsV l) := SqT.of ha
    refine ⟨_, rfl, _, _, _, _, _, rfl, .ty "tuple", ty_tup ht, kit_ty k_tuple_tuple, true, rfl, iteT ?_⟩
    refine ⟨_, rfl, a, _, rfl, .inr ht, _, rfl, rfl, true, ?_, iteT ?_⟩
    · rw [List.length_map, decide_eq_true rfl]
    refine ⟨_, rfl, a, rfl, ⟨_, ht⟩, fun D nD => ?_⟩
    refine Lc.lcTS (ys := (List.replicate l.length true).map V.bl) ht nD (by rw [List.length_map, List.length_map, List.length_replicate]) (by rw [List.length_map]; exact Nat.lt_of_le_of_lt hl (by decide)) (fun _ => rfl) ?_ ?_
    · intro i x y H2 hx hy s2 Q' q'
      have hi := (List.getElem?_eq_some_iff.mp hx).1
      rw [List.length_map] at hi
      rw [List.getElem?_map, List.getElem?_eq_getElem hi] at hx
      rw [List.getElem?_map, List.getElem?_replicate, if_pos hi] at hy
      cases hx
      cases hy
      have e := few_isInt (hf _ (List.getElem_mem hi))
      refine ⟨_, rfl, .int l[i], .int l[i], rfl, .int _, ?_⟩
      rw [e]
      exact q' H2 (Same.refl _)
    · intro H2 s2 e2
      refine ⟨D, _, rfl, SqL.of e2, ?_⟩
      rw [all_true]
      exact q H2 s2
abbrev nIsSq : List Str := ["value", "width", "row"]
theorem scIsSq : FnScope nIsSq ["value", "width"] (defScope sIsSq) := ⟨rfl, rfl, rfl, by decide +kernel, rfl, by decide +kernel, by decide +kernel⟩
def spIsSq : Sp := fun vs H Q _ => ∃ (a : Addr) (M : List (List Int)) (n : Nat), vs = [.ref a, .int (n : Int)] ∧ SqAt H a M ∧ Ty.Sq n M ∧ n ≤ 9 ∧ (∀ r ∈ M, Few r) ∧ ∀ H', Same H H' → Q (.bl true) H'
theorem ok_issq {f fI fR : Addr} {fd dI dR : FuncData} (F : Fun K "is_square" "is_square" sIsSq f fd) (T : Txt K mg) (DI : Df K mg "is_integer" sInt ["value"] fI dI) (DR : Df K mg "is_row" sIsRow ["value", "width"] fR dR) : FnOk P w K mg base CX0 3 f fd ["value", "width"] spIsSq := by
  have GR := ok_isrow (P := P) (w := w) (base := base) DR.F T DI
  refine F.ok scIsSq (fun vs H Q E h => ?_) (fun cdv A outer s H vs Q E hr h => ?_)
  · obtain ⟨a, M, n, rfl, _⟩ := h
    rfl
  · obtain ⟨a, M, n, rfl, ⟨ps, ea, hps⟩, hM, hn, hf, q⟩ := h
    refine ⟨_, (pss_one (ps_ret (pe_and (pe_callB call_isi (by rfl) T.isi (by decide +kernel) (pa_cons (pv 0) (pa_cons (pe_bltn (v := .ty "tuple") (by rfl) T.tuple (by decide +kernel) rfl) pa_nil))) (pe_and (pe_cmpR op_eq (pe_callB call_len_seq (by rfl) T.len PySem.boot_len (pa_cons (pv 0) pa_nil)) (pv 1) (nomark _)) (pe_one (pe_callB (cr_all rfl) (by rfl) T.all (by decide +kernel) (pa_cons (pe_lc (own := [("row", 2)]) (g := (gName 2)) (tt := tYes) (te := tCall spIsRow [] E0 (tCons (tVar 2) (tCons (tVar 1) tNil))) rfl scIsSq.nd (pi_tup (pv 0)) (blkOk_by (own := [("row", 2)]) (N := nIsSq) (sc := defScope sIsSq) (by decide +kernel)) (fun _ _ _ _ _ => (pg_name (i := 2) scIsSq.nd rfl (Or.inl rfl))) (fun _ _ _ _ _ => pts_nil) (fun _ _ _ _ _ => (pe_call GR (hr.mono (by decide)) (by rfl) DR.m DR.F.kp DR.b .nil pass0 (pa_cons (pv 2) (pa_cons (pv 1) pa_nil))))) pa_nil))))))), ?_⟩
    have ht : SqT K H a (ps.map V.ref) := SqT.of ea
    have lps := hps.length
    have lM := hM.len
    refine ⟨_, rfl, _, _, _, _, _, rfl, .ty "tuple", ty_tup ht, kit_ty k_tuple_tuple, true, rfl, iteT ?_⟩
    refine ⟨_, rfl, a, _, rfl, .inr ht, _, rfl, rfl, true, ?_, iteT ?_⟩
    · rw [List.length_map, lps, lM, decide_eq_true rfl]
    refine ⟨_, rfl, a, rfl, ⟨_, ht⟩, fun D nD => ?_⟩
    refine Lc.lcTS (ys := (List.replicate n true).map V.bl) ht nD (by rw [List.length_map, List.length_map, List.length_replicate, lps, lM]) (by rw [List.length_map, lps, lM]; exact Nat.lt_of_le_of_lt hn (by decide)) (fun _ => rfl) ?_ ?_
    · intro i x y H2 hx hy s2 Q' q'
      have hi := (List.getElem?_eq_some_iff.mp hx).1
      rw [List.length_map] at hi
      have hiM : i < M.length := by omega
      rw [List.getElem?_map, List.getElem?_eq_getElem hi] at hx
      rw [List.getElem?_map, List.getElem?_replicate, if_pos (by omega)] at hy
      cases hx
      cases hy
      have hrow := s2 _ _ (each_at2 hps (List.getElem?_eq_getElem hi) (List.getElem?_eq_getElem hiM))
      have lr := hM.row _ (List.getElem_mem hiM)
      exact ⟨_, rfl, _, rfl, ps[i], M[i], by rw [lr]; rfl, hrow, hf _ (List.getElem_mem hiM), by rw [lr]; exact Nat.le_trans hn (by decide), fun H3 s3 => q' H3 s3⟩
    · intro H2 s2 e2
      refine ⟨D, _, rfl, SqL.of e2, ?_⟩
      rw [all_true]
      exact q H2 s2
end
end K16

set_option Elab.async false
set_option linter.all false
set_option maxRecDepth 100000
set_option maxHeartbeats 6400000
namespace K16
open PySem L2 Tx Tg Tm Da RZ
theorem k_dict_dict : kitB "dict" "dict" = some true := by decide +kernel
theorem mvs_len {H : Hp} {kvs : List (Key × V)} {W : List Mv} (h : MvsAt H kvs W) : kvs.length = W.length := h.length
section
variable {P : Program} {w : World} {K : PySem.W.Frag} {mg : Str → Option Value} {base : Heap}
abbrev nAreMoves : List Str := ["letters", "value", "width", "letter"]
theorem scAreMoves : FnScope nAreMoves ["letters", "value", "width"] (defScope sAreMoves) := ⟨rfl, rfl, rfl, by decide +kernel, rfl, by decide +kernel, by decide +kernel⟩
def spAreMoves : Sp := fun vs H Q _ => ∃ (sg : Str) (d : Addr) (W : List Mv) (n : Nat), vs = [.str sg, .ref d, .int (n : Int)] ∧ Signs sg ∧ MovAt H d W ∧ okM n W ∧ W.map (·.1) = cds sg ∧ n ≤ 9 ∧ ∀ H', Same H H' → Q (.bl true) H'
theorem ok_aremoves {f fI fR fS : Addr} {fd dI dR dS : FuncData} (F : Fun K "are_moves" "are_moves" sAreMoves f fd) (T : Txt K mg) (DI : Df K mg "is_integer" sInt ["value"] fI dI) (DR : Df K mg "is_row" sIsRow ["value", "width"] fR dR) (DS : Df K mg "is_square" sIsSq ["value", "width"] fS dS) :
    FnOk P w K mg base CX0 4 f fd ["letters", "value", "width"] spAreMoves := by
  have GS := ok_issq (P := P) (w := w) (base := base) DS.F T DI DR
  refine F.ok scAreMoves (fun vs H Q E h => ?_) (fun cdv A outer s H vs Q E hr h => ?_)
  · obtain ⟨sg, d, W, n, rfl, _⟩ := h
    rfl
  · obtain ⟨sg, d, W, n, rfl, hsg, ⟨kvs, ed, hw⟩, ok, ord, hn, q⟩ := h
    have hu := hu_of hr
    have sg3 := (sg_len hsg).2
    have sgl : sg.length ≤ sizeLine := Nat.le_trans sg3 (by decide)
    have lW : W.length = sg.length := by
      have := congrArg List.length ord
      rw [List.length_map, cds_len] at this
      exact this
    refine ⟨_, (pss_cons (ps_if (PW.pt (pw_or (pt_not (pt_val (pe_callB call_isi (by rfl) T.isi (by decide +kernel) (pa_cons (pv 1) (pa_cons (pe_bltn (v := .ty "dict") (by rfl) T.dict (by decide +kernel) rfl) pa_nil))))) (pw_or1 (pt_cmpR op_ne (pe_callB call_lenD (by rfl) T.len PySem.boot_len (pa_cons (pv 1) pa_nil)) (pe_callB call_len_str (by rfl) T.len PySem.boot_len (pa_cons (pv 0) pa_nil)) (nomark _))))) (pss_one (ps_ret pe_bl)) pss_nil)
    (pss_one (ps_ret (pe_callB (cr_all rfl) (by rfl) T.all (by decide +kernel) (pa_cons (pe_lc (own := [("letter", 3)]) (g := (gName 3)) (tt := tYes) (te := tAndV (tDIn (tVar 3) (tVar 1)) (tCall spIsSq [] E0 (tCons (tDGet (tVar 1) (tVar 3)) (tCons (tVar 2) tNil)))) rfl scAreMoves.nd (pi_str (pv 0)) (blkOk_by (own := [("letter", 3)]) (N := nAreMoves) (sc := defScope sAreMoves) (by decide +kernel)) (fun _ _ _ _ _ => (pg_name (i := 3) scAreMoves.nd rfl (Or.inl rfl))) (fun _ _ _ _ _ => pts_nil) (fun _ _ _ _ _ => (pe_and (pe_cmp (pc_din hu (pv 3) (pv 1))) (pe_one (pe_call GS (hr.mono (by decide)) (by rfl) DS.m DS.F.kp DS.b .nil pass0 (pa_cons (pe_dget hu (pv 1) (pv 3) (fun _ _ => rfl)) (pa_cons (pv 2) pa_nil))))))) pa_nil))))), ?_⟩
    refine ⟨_, rfl, _, _, _, _, _, rfl, .ty "dict", .base (.dK ed), kit_ty k_dict_dict, true, rfl, iteF ?_⟩
    refine ⟨_, rfl, d, kvs, rfl, ed, _, rfl, _, rfl, sgl, rfl, _, rfl, ?_⟩
    rw [decide_eq_true (congrArg V.int (by rw [mvs_len hw, lW] : (kvs.length : Int) = (sg.length : Int)))]
    refine iteF ?_
    refine ⟨_, rfl, sg, rfl, fun D nD => ?_⟩
    refine Lc.lc_text (fun i H1 => Same H H1 ∧ H1 D = some (.lst ((List.replicate i true).map V.bl))) ⟨same_upd nD, upd_same⟩ ?_ ?_
    · rintro i c H1 hc ⟨s1, e1⟩
      have mc := List.mem_of_getElem? hc
      have hi := (List.getElem?_eq_some_iff.mp hc).1
      rw [cds_len] at hi
      rw [← ord] at mc
      obtain ⟨m, hm, em⟩ := List.mem_map.mp mc
      subst em
      obtain ⟨p, g, r⟩ := mvs_get (hw.keep (.same s1)) ok.nd hm
      have g1 : DGet H1 d (.str (one m.1)) (some (.ref p)) := by
        have := DGet.k (k := (Sum.inr (one m.1) : Key)) (s1 _ _ ed)
        rw [g] at this
        exact this
      refine ⟨rfl, iteT (B := False) ?_⟩
      refine ⟨_, rfl, _, rfl, d, some (.ref p), rfl, g1, true, rfl, iteT ?_⟩
      refine ⟨_, rfl, _, rfl, d, _, rfl, g1, _, rfl, p, m.2, n, rfl, r, ok.sq m hm, hn, ok.small m hm, fun H2 s2 => ?_⟩
      refine ⟨_, s2 _ _ e1, ?_, same_put (s1.trans s2) nD, ?_⟩
      · rw [List.length_map, List.length_replicate]
        exact Nat.lt_of_le_of_lt (show i ≤ 3 by omega) (by decide)
      · rw [upd_same, List.replicate_succ', List.map_append]
        rfl
    · rintro H1 ⟨s1, e1⟩
      refine ⟨D, _, rfl, SqL.of e1, ?_⟩
      rw [all_true]
      exact q H1 s1
abbrev nParts : List Str := ["letters", "first", "moves", "last"]
theorem scParts : FnScope nParts ["letters", "first", "moves", "last"] (defScope sCheckParts) := ⟨rfl, rfl, rfl, by decide +kernel, rfl, by decide +kernel, by decide +kernel⟩
def spParts : Sp := fun vs H Q _ => ∃ (sg : Str) (a d b : Addr) (l m : List Int) (W : List Mv) (n : Nat), vs = [.str sg, .ref a, .ref d, .ref b] ∧ Signs sg ∧ RowI H a l ∧ RowI H b m ∧ l.length = n ∧ m.length = n ∧ Few l ∧ Few m ∧ MovAt H d W ∧ okM n W ∧ W.map (·.1) = cds sg ∧ n ≤ 9 ∧ ∀ H', Same H H' → Q .non H'
theorem ok_parts {f fI fR fS fM : Addr} {fd dI dR dS dM : FuncData} (F : Fun K "check_parts" "check_parts" sCheckParts f fd) (T : Txt K mg) (DI : Df K mg "is_integer" sInt ["value"] fI dI) (DR : Df K mg "is_row" sIsRow ["value", "width"] fR dR) (DS : Df K mg "is_square" sIsSq ["value", "width"] fS dS) (DM : Df K mg "are_moves" sAreMoves ["letters", "value", "width"] fM dM) :
    FnOk P w K mg base CX0 5 f fd ["letters", "first", "moves", "last"] spParts := by
  have GR := ok_isrow (P := P) (w := w) (base := base) DR.F T DI
  have GM := ok_aremoves (P := P) (w := w) (base := base) DM.F T DI DR DS
  refine F.ok scParts (fun vs H Q E h => ?_) (fun cdv A outer s H vs Q E hr h => ?_)
  · obtain ⟨sg, a, d, b, l, m, W, n, rfl, _⟩ := h
    rfl
  · obtain ⟨sg, a, d, b, l, m, W, n, rfl, hsg, ha, hb, hl, hm, fl, fm, hM, ok, ord, hn, q⟩ := h
    obtain ⟨tw, gW⟩ := T.mWid
    refine ⟨_, (pss_cons (ps_if (PW.pt (pw_or (pt_not (pt_val (pe_callB call_isi (by rfl) T.isi (by decide +kernel) (pa_cons (pv 1) (pa_cons (pe_bltn (v := .ty "tuple") (by rfl) T.tuple (by decide +kernel) rfl) pa_nil))))) (pw_or (pt_cmpR op_gt (pe_callB call_len_seq (by rfl) T.len PySem.boot_len (pa_cons (pv 1) pa_nil)) (pe_glob (v := .int 60) rfl gW ⟨_, rfl⟩) (nomark _)) (pw_or1 (pt_not (pt_val (pe_call GR (hr.mono (by decide)) (by rfl) DR.m DR.F.kp DR.b .nil pass0 (pa_cons (pv 1) (pa_cons (pe_callB call_len_seq (by rfl) T.len PySem.boot_len (pa_cons (pv 1) pa_nil)) pa_nil))))))))) (pss_one ps_never) pss_nil)
    (pss_cons (ps_if (pt_not (pt_val (pe_call GM (hr.mono (by decide)) (by rfl) DM.m DM.F.kp DM.b .nil pass0 (pa_cons (pv 0) (pa_cons (pv 2) (pa_cons (pe_callB call_len_seq (by rfl) T.len PySem.boot_len (pa_cons (pv 1) pa_nil)) pa_nil)))))) (pss_one ps_never) pss_nil)
    (pss_one (ps_if (pt_not (pt_val (pe_call GR (hr.mono (by decide)) (by rfl) DR.m DR.F.kp DR.b .nil pass0 (pa_cons (pv 3) (pa_cons (pe_callB call_len_seq (by rfl) T.len PySem.boot_len (pa_cons (pv 1) pa_nil)) pa_nil))))) (pss_one ps_never) pss_nil)))), ?_⟩
    have ht : SqT K H a (intsV l) := SqT.of ha
    have el : ((intsV l).length : Int) = (n : Int) := by rw [List.length_map, hl]
    refine ⟨_, rfl, _, _, _, _, _, rfl, .ty "tuple", ty_tup ht, kit_ty k_tuple_tuple, true, rfl, iteF ?_⟩
    refine ⟨_, rfl, a, _, rfl, .inr ht, _, _, rfl, rfl, _, rfl, ?_⟩
    rw [decide_eq_false (show ¬ (((intsV l).length : Int) > 60) by omega)]
    refine iteF ?_
    refine ⟨_, rfl, _, rfl, a, _, rfl, .inr ht, a, l, by rw [List.length_map]; rfl, ha, fl, by omega, fun H1 s1 => ⟨_, rfl, iteF ?_⟩⟩
    refine ⟨_, rfl, _, rfl, _, rfl, a, _, rfl, .inr (SqT.of (s1 _ _ ha)), sg, d, W, n, by rw [el]; rfl, hsg, (let ⟨k, e, h⟩ := hM; ⟨k, s1 _ _ e, h.keep (.same s1)⟩), ok, ord, hn, fun H2 s2 => ⟨_, rfl, iteF ?_⟩⟩
    have s12 := s1.trans s2
    refine ⟨_, rfl, _, rfl, a, _, rfl, .inr (SqT.of (s12 _ _ ha)), b, m, by rw [el, hm]; rfl, s12 _ _ hb, fm, by omega, fun H3 s3 => ⟨_, rfl, iteF ?_⟩⟩
    exact q H3 (s12.trans s3)
end
end K16

set_option Elab.async false
set_option linter.all false
set_option maxRecDepth 100000
set_option maxHeartbeats 3200000
/-! a * b, ~a and the like by an own operator of a class of the text -/
namespace Ow
open PySem PySem.Spec PyProof.Rows L2
theorem no_ni {v : V} {u : Value} (r : RelV v u) : u ≠ .notImplemented := by
  rintro rfl
  cases v <;> first | (obtain ⟨_, r⟩ := r; exact Value.noConfusion r) | exact Value.noConfusion r
section
variable {X : Cx} {CX : CXT} {C f : Addr} {fd : FuncData} {ps : List Str} {sp : Sp} {E : XK} {k : Nat} {op : Operator}
/-- both of the class at C: what the operator's def promises -/
def rOwn (C : Addr) (sp : Sp) (E : XK) : R2 := fun x y H Q => ∃ a b dx dy fs gs, x = .ref a ∧ y = .ref b ∧ H a = some (.ins C dx fs) ∧ H b = some (.ins C dy gs) ∧ sp [.ref a, .ref b] H Q E
/-- a call of such a def from where the operator stands -/
theorem own_call (F : FnOk X.prog X.w X.K X.mg X.base CX k f fd ps sp) (hr : Room k X.A) (hb : Binds X.K fd ps []) (hx : Passes CX X E) {pins : List (Addr × Obj)} {s : Shared} {σ : L2.St} {H : Hp} {Q : VK} {us : List Value} {vs : List V}
    (I : Inv X pins σ H s) (r : Vals vs us) (h : sp vs H Q E) : wpAny (model X.prog X.w) X.A (call (.ref f) us) (EP X pins σ Q) X.xe s := by
  have hl := F.len _ _ _ _ h
  refine wpAny_call (codeAny_mono (F.run X.A X.stack s H ⟨us, []⟩ us vs Q E hr I.env0 (by
    have := hb s us I.kIn (by rw [List.append_nil, ← r.length]; exact hl)
    simpa using this) r h) fun r s' hq => ?_)
  cases r with
  | error e => exact hx pins σ H s e s' I hq
  | ok fl =>
    cases fl with
    | ret w => exact I.after hq
    | next => exact False.elim hq
    | brk => exact False.elim hq
    | cont => exact False.elim hq
theorem op_own (F : FnOk X.prog X.w X.K X.mg X.base CX k f fd ps sp) (hr : Room k X.A) (hc : PySem.W.selfFirst X.K C = true) (hs : PySem.W.findIn X.K (.ref C) (PySem.dunder op.info.2) = some (some (.ref f))) (hf : PySem.W.isFn X.K (.ref f) = true)
    (hb : Binds X.K fd ps []) (hx : Passes CX X E) : OpR X (binaryOp op) (rOwn C sp E) := by
  intro pins s σ H x y u v Q I rx ry hq
  obtain ⟨a, b, dx, dy, fs, gs, rfl, rfl, ha, hb', h⟩ := hq
  cases rx
  cases ry
  obtain ⟨mA, J, _⟩ := ins_get I.hok ha
  obtain ⟨mB, J', _⟩ := ins_get I.hok hb'
  obtain ⟨od, J, _⟩ := J.look
  obtain ⟨od', J', _⟩ := J'.look
  obtain ⟨m, hF⟩ := I.fr
  refine PySem.W.binop_K hF I.ok.mod.kin J J'.type hc hs hf ?_
  refine wpAny_mono (own_call F hr hb hx I (vs := [V.ref a, V.ref b]) (.cons rfl (.cons rfl .nil)) h) (fun w s' z => ?_) fun _ _ e => e
  obtain ⟨v, H', I', rv, q⟩ := z
  have := no_ni rv
  cases w <;> first | exact absurd rfl this | exact ⟨v, H', I', rv, q⟩
/-- a op v, v of a built-in type (an own operator that refuses such) -/
def rOwnT (K : PySem.W.Frag) (C : Addr) (T : String) (sp : Sp) (E : XK) : R2 := fun x y H Q => ∃ a dx fs, x = .ref a ∧ H a = some (.ins C dx fs) ∧ (∀ u, RelV y u → typeOf u = pure (.type T)) ∧ sp [.ref a, y] H Q E
theorem op_ownT {T : String} {fo ro rc : Option Value} (F : FnOk X.prog X.w X.K X.mg X.base CX k f fd ps sp) (hr : Room k X.A) (hc : PySem.W.selfFirst X.K C = true) (hs : PySem.W.findIn X.K (.ref C) (PySem.dunder op.info.2) = some (some (.ref f))) (hf : PySem.W.isFn X.K (.ref f) = true)
    (hrc : PySem.W.findIn X.K (.ref C) (dunderR op.info.2) = some rc) (hp : rc = none ∨ ∃ g : Addr, rc = some (.ref g)) (h1 : PySem.W.findIn X.K (.type T) (PySem.dunder op.info.2) = some fo) (h2 : PySem.W.findIn X.K (.type T) (dunderR op.info.2) = some ro)
    (hsub : PySem.W.subIn X.K (.type T) (.ref C) = some false) (hb : Binds X.K fd ps []) (hx : Passes CX X E) : OpR X (binaryOp op) (rOwnT X.K C T sp E) := by
  intro pins s σ H x y u v Q I rx ry hq
  obtain ⟨a, dx, fs, rfl, ha, ht, h⟩ := hq
  cases rx
  obtain ⟨mA, J, _⟩ := ins_get I.hok ha
  obtain ⟨od, J, _⟩ := J.look
  obtain ⟨m, hF⟩ := I.fr
  refine PySem.W.ksp_binT hF I.ok.mod.kin J (ht _ ry) hc hs hf hrc hp h1 h2 hsub ?_
  refine wpAny_mono (own_call F hr hb hx I (vs := [V.ref a, y]) (.cons rfl (.cons ry .nil)) h) (fun w s' z => ?_) fun _ _ e => e
  obtain ⟨v, H', I', rv, q⟩ := z
  have := no_ni rv
  cases w <;> first | exact absurd rfl this | exact ⟨v, H', I', rv, q⟩
/-- ~a, -a by the text's own operator -/
def rOwn1 (C : Addr) (sp : Sp) (E : XK) : V → Hp → VK → Prop := fun x H Q => ∃ a dx fs, x = .ref a ∧ H a = some (.ins C dx fs) ∧ sp [.ref a] H Q E
theorem un_own (F : FnOk X.prog X.w X.K X.mg X.base CX k f fd ps sp) (hr : Room k X.A) (hs : PySem.W.findIn X.K (.ref C) "__invert__" = some (some (.ref f))) (hf : PySem.W.isFn X.K (.ref f) = true)
    (hb : Binds X.K fd ps []) (hx : Passes CX X E) : UnR X (unaryOp .Invert) (rOwn1 C sp E) := by
  intro pins s σ H x u Q I rx hq
  obtain ⟨a, dx, fs, rfl, ha, h⟩ := hq
  cases rx
  obtain ⟨mA, J, _⟩ := ins_get I.hok ha
  obtain ⟨od, J, _⟩ := J.look
  obtain ⟨m, hF⟩ := I.fr
  exact PySem.W.ksp_inv hF I.ok.mod.kin J hs hf (own_call F hr hb hx I (vs := [V.ref a]) (.cons rfl .nil) h)
/-- the same call one step further within -/
theorem own_call1 {A : Around} (hA : A.frames = X.A.frames) (F : FnOk X.prog X.w X.K X.mg X.base CX k f fd ps sp) (hr : Room k A) (hb : Binds X.K fd ps []) (hx : Passes CX X E) {pins : List (Addr × Obj)} {s : Shared} {σ : L2.St} {H : Hp} {Q : VK} {us : List Value} {vs : List V}
    (I : Inv X pins σ H s) (r : Vals vs us) (h : sp vs H Q E) : wpAny (model X.prog X.w) A (call (.ref f) us) (EP X pins σ Q) X.xe s := by
  have hl := F.len _ _ _ _ h
  have e0 : Env0 X.prog X.w X.K X.mg X.base A X.stack s H := by
    have e := I.env0
    exact ⟨by rw [hA]; exact e.frames, e.mod, e.bs, e.bsz, e.funs, e.frf, e.hok, e.bare⟩
  refine wpAny_call (codeAny_mono (F.run A X.stack s H ⟨us, []⟩ us vs Q E hr e0 (by
    have := hb s us I.kIn (by rw [List.append_nil, ← r.length]; exact hl)
    simpa using this) r h) fun r s' hq => ?_)
  cases r with
  | error e => exact hx pins σ H s e s' I hq
  | ok fl =>
    cases fl with
    | ret w => exact I.after hq
    | next => exact False.elim hq
    | brk => exact False.elim hq
    | cont => exact False.elim hq
/-- a == b, both of the class C, by its own __eq__, whatever it answers -/
theorem eq_own (F : FnOk X.prog X.w X.K X.mg X.base CX k f fd ps sp) (hr : Room k X.A) (hn : PySem.W.notFirst X.K C (.ref C) = true) (hs : PySem.W.findIn X.K (.ref C) "__eq__" = some (some (.ref f))) (hf : PySem.W.isFn X.K (.ref f) = true)
    (hb : Binds X.K fd ps []) (hx : Passes CX X E) : OpR X (compareOp .Eq) (rOwn C sp E) := by
  intro pins s σ H x y u v Q I rx ry hq
  obtain ⟨a, b, dx, dy, fs, gs, rfl, rfl, ha, hb', h⟩ := hq
  cases rx
  cases ry
  obtain ⟨mA, J, _⟩ := ins_get I.hok ha
  obtain ⟨mB, J', _⟩ := ins_get I.hok hb'
  obtain ⟨od, J, _⟩ := J.look
  obtain ⟨od', J', _⟩ := J'.look
  obtain ⟨m, hF⟩ := I.fr
  show wpAny (model X.prog X.w) X.A (richCompare .Eq (.ref a) (.ref b)) (EP X pins σ Q) X.xe s
  refine PySem.W.cmp_K (op := .Eq) (tb := .ref C) hr.units0 hF I.ok.mod.kin J J'.type hn hs hf ?_
  refine wpAny_mono (own_call F hr hb hx I (vs := [V.ref a, V.ref b]) (.cons rfl (.cons rfl .nil)) h) (fun w s' z => ?_) fun _ _ e => e
  obtain ⟨v, H', I', rv, q⟩ := z
  have := no_ni rv
  cases w <;> first | exact absurd rfl this | exact ⟨v, H', I', rv, q⟩
/-- len(a) by the class's own __len__ -/
def rLenOwn (C : Addr) (sp : Sp) (E : XK) : List V → Hp → VK → Prop := fun xs H Q => ∃ a dx fs, xs = [.ref a] ∧ H a = some (.ins C dx fs) ∧ sp [.ref a] H (fun v H' => ∃ n : Int, v = .int n ∧ 0 ≤ n ∧ n < 2 ^ 63 ∧ Q (.int n) H') E
theorem len_own (F : FnOk X.prog X.w X.K X.mg X.base CX k f fd ps sp) (hr : Room (k + 1) X.A) (hs : PySem.W.findIn X.K (.ref C) "__len__" = some (some (.ref f))) (hf : PySem.W.isFn X.K (.ref f) = true)
    (hb : Binds X.K fd ps []) (hx : Passes CX X E) : CallR X (.builtin "len") (rLenOwn C sp E) := by
  intro pins s σ H xs us Q I r hq
  obtain ⟨a, dx, fs, rfl, ha, h⟩ := hq
  obtain rfl := Vals.ref1 r
  obtain ⟨mA, J, _⟩ := ins_get I.hok ha
  obtain ⟨od, J, _⟩ := J.look
  obtain ⟨m, hF⟩ := I.fr
  refine PySem.W.len_K hF I.ok.mod.kin J hs hf ?_
  refine wpAny_mono (own_call1 (A := X.A.in1) rfl F hr.in1 hb hx I (vs := [V.ref a]) (.cons rfl .nil) h) (fun w s' z => ?_) fun _ _ e => e
  obtain ⟨v, H', I', rv, n, rfl, h0, h1, q⟩ := z
  obtain ⟨t, rfl⟩ := rv
  exact ⟨⟨h0, h1⟩, .int n, H', I'.tok _, ⟨_, rfl⟩, q⟩
end
end Ow

set_option Elab.async false
set_option linter.all false
set_option maxRecDepth 100000
set_option maxHeartbeats 3200000
/-! a != b, both of a class of the text that has only an own __eq__ -/
namespace Ow
open PySem PySem.Spec PyProof.Rows L2
theorem ifBound_b {A : Around} {E : Value → Shared → Prop} {s : Shared} {K : PySem.W.Frag} {x C : Addr} {ox : Obj} {od : Option Obj} {name : Str} {id : String} {M : Model} {args : List Value} {Q : Option Value → Shared → Prop} (X : K.In s.heap) (I : PySem.W.InstAt s.heap x ox C od)
    (hs : PySem.W.findIn K (.ref C) name = some (some (.builtin id))) (hb : ∀ self, bindSpecial (.builtin id) self = pure (.builtin id, [self]))
    (h : wpAny M A (call (.builtin id) (.ref x :: args)) (fun v => Q (some v)) E s) : wpAny M A (callSpecialIfBound? (.ref x) name args) Q E s := by
  simp only [callSpecialIfBound?, bindSpecialIfBound?]
  refine wpAny_holding (wpAny_bind (wpAny_bind (wpAny_bind (I.type.here ((PySem.W.looks_findIn X hs).here ?_)))))
  simp only [hb]
  refine wpAny_bind (wpAny_askSetting (wpAny_ite ?_))
  have fin : wpAny M A (call (.builtin id) ([.ref x] ++ args) >>= fun v => pure (some v)) Q E s := wpAny_bind (wpAny_mono h (fun v s' h' => wpAny_pure h') fun _ _ h' => h')
  split
  · exact wpAny_bind (wpAny_pure (wpAny_pure fin))
  · exact wpAny_tryCatch (wpAny_bind (wpAny_pure (wpAny_pure fin)))
section
variable {X : Cx} {CX : CXT} {C f : Addr} {fd : FuncData} {ps : List Str} {sp : Sp} {E : XK} {k : Nat}
def rOwnNe (C : Addr) (sp : Sp) (E : XK) : R2 := fun x y H Q => ∃ a b dx dy fs gs, x = .ref a ∧ y = .ref b ∧ H a = some (.ins C dx fs) ∧ H b = some (.ins C dy gs) ∧ sp [.ref a, .ref b] H (fun v H' => ∃ t : Bool, v = .bl t ∧ Q (.bl (!t)) H') E
theorem ne_own (F : FnOk X.prog X.w X.K X.mg X.base CX k f fd ps sp) (hr : Room (k + 1) X.A) (hob : PySem.W.subIn X.K (.ref C) (.type "object") = some true) (hn : PySem.W.findIn X.K (.ref C) "__ne__" = some (some (.builtin "object.__ne__")))
    (hs : PySem.W.findIn X.K (.ref C) "__eq__" = some (some (.ref f))) (hf : PySem.W.isFn X.K (.ref f) = true) (hb : Binds X.K fd ps []) (hx : Passes CX X E) : OpR X (compareOp .NotEq) (rOwnNe C sp E) := by
  intro pins s σ H x y u v Q I rx ry hq
  obtain ⟨a, b, dx, dy, fs, gs, rfl, rfl, ha, hb', h⟩ := hq
  cases rx
  cases ry
  obtain ⟨mA, J, _⟩ := ins_get I.hok ha
  obtain ⟨mB, J', _⟩ := ins_get I.hok hb'
  obtain ⟨od, J, _⟩ := J.look
  obtain ⟨od', J', _⟩ := J'.look
  obtain ⟨m, hF⟩ := I.fr
  have X0 := I.ok.mod.kin.keeps hF.keep
  have inner := own_call1 (A := X.A.in1) rfl F hr.in1 hb hx I (vs := [V.ref a, V.ref b]) (us := [.ref a, .ref b]) (.cons rfl (.cons rfl .nil)) h
  have one : wpAny (model X.prog X.w) X.A (tryCompare (.ref a) "__ne__" (.ref b)) (fun r s' => ∃ v, r = some v ∧ EP X pins σ Q v s') X.xe s := by
    unfold tryCompare
    refine wpAny_bind (ifBound_b X0 J hn PySem.F.cmp_object.ne.bind (wpAny_call (codeAny_call_builtin PySem.F.cmp_object.ne.plain PySem.F.cmpEntry_ne
      (PySem.W.check_slot PySem.F.cmpKind_ne PySem.F.cmpSplit_ne (J.type.andThen (PySem.W.looks_subIn X0 hob)) (PySem.F.cmpArgs_ne _ _) ?_))))
    unfold Builtin.«object.__ne__»
    repeat (first
      | with_reducible refine wpAny_cRoomFor hr.in1.units0 ?_
      | (refine wpAny_bind (m := callSpecialIfBound? (.ref a) (Str.ofString "__eq__") [.ref b]) (PySem.W.ifBound_K X0 J hs hf (wpAny_mono inner (fun r s' hr' => ?_) fun _ _ e => e)))
      | wp_step)
    obtain ⟨v, H', I', rv, t, rfl, q⟩ := hr'
    obtain rfl : r = Value.bool t := rv
    repeat (first | (refine wpAny_bind (m := truthy (.bool _)) (wpAny_truthy_bool ?_)) | wp_step)
    first
      | exact ⟨_, rfl, .bl (!t), H', I', rfl, q⟩
      | exact wpAny_pure ⟨_, rfl, .bl (!t), H', I', rfl, q⟩
  show wpAny (model X.prog X.w) X.A (richCompare .NotEq (.ref a) (.ref b)) (EP X pins σ Q) X.xe s
  unfold richCompare
  simp only [oneThing_ref]
  refine wpAny_holding (wpAny_bind (wpAny_cRoomFor hr.units0 ?_))
  refine wpAny_bind (J.type.here (wpAny_bind (J'.type.here ?_)))
  rw [show (Value.ref C != Value.ref C) = false from by simp]
  simp only [Bool.false_eq_true, if_false]
  refine wpAny_bind (wpAny_pure ?_)
  simp only [Bool.false_eq_true, if_false]
  refine wpAny_bind (wpAny_mono one (fun r s' z => ?_) fun _ _ e => e)
  obtain ⟨v, rfl, hq⟩ := z
  exact wpAny_pure hq
end
end Ow

set_option Elab.async false
set_option linter.all false
set_option maxRecDepth 100000
set_option maxHeartbeats 3200000
/-! a == v, a != v with v of another kind; a[i] by an own __getitem__; str(a) by an own __str__ -/
namespace Ow
open PySem PySem.Spec PyProof.Rows L2
section
variable {X : Cx} {CX : CXT} {C f : Addr} {fd : FuncData} {ps : List Str} {sp : Sp} {E : XK} {k : Nat}
def rOwnX (K : PySem.W.Frag) (C : Addr) (sp : Sp) (E : XK) : R2 := fun x y H Q => ∃ a dx fs t, x = .ref a ∧ H a = some (.ins C dx fs) ∧ TyX K H y t ∧ PySem.W.notFirst K C t = true ∧ sp [.ref a, y] H Q E
theorem eq_ownX (F : FnOk X.prog X.w X.K X.mg X.base CX k f fd ps sp) (hr : Room k X.A) (hs : PySem.W.findIn X.K (.ref C) "__eq__" = some (some (.ref f))) (hf : PySem.W.isFn X.K (.ref f) = true)
    (hb : Binds X.K fd ps []) (hx : Passes CX X E) : OpR X (compareOp .Eq) (rOwnX X.K C sp E) := by
  intro pins s σ H x y u v Q I rx ry hq
  obtain ⟨a, dx, fs, t, rfl, ha, ty, hn, h⟩ := hq
  cases rx
  obtain ⟨mA, J, _⟩ := ins_get I.hok ha
  obtain ⟨od, J, _⟩ := J.look
  obtain ⟨m, hF⟩ := I.fr
  obtain ⟨P, Z, hP, _⟩ := kit_of I ry ty
  show wpAny (model X.prog X.w) X.A (richCompare .Eq (.ref a) v) (EP X pins σ Q) X.xe s
  refine PySem.W.cmp_K (op := .Eq) (tb := t) hr.units0 hF I.ok.mod.kin J (Z.ty _ _ I.kIn hP) hn hs hf ?_
  refine wpAny_mono (own_call F hr hb hx I (vs := [V.ref a, y]) (.cons rfl (.cons ry .nil)) h) (fun w s' z => ?_) fun _ _ e => e
  obtain ⟨v, H', I', rv, q⟩ := z
  have := no_ni rv
  cases w <;> first | exact absurd rfl this | exact ⟨v, H', I', rv, q⟩
def rOwnNeX (K : PySem.W.Frag) (C : Addr) (sp : Sp) (E : XK) : R2 := fun x y H Q => ∃ a dx fs t, x = .ref a ∧ H a = some (.ins C dx fs) ∧ TyX K H y t ∧ PySem.W.notFirst K C t = true ∧ sp [.ref a, y] H (fun v H' => ∃ t : Bool, v = .bl t ∧ Q (.bl (!t)) H') E
theorem ne_ownX (F : FnOk X.prog X.w X.K X.mg X.base CX k f fd ps sp) (hr : Room (k + 1) X.A) (hob : PySem.W.subIn X.K (.ref C) (.type "object") = some true) (hn0 : PySem.W.findIn X.K (.ref C) "__ne__" = some (some (.builtin "object.__ne__")))
    (hs : PySem.W.findIn X.K (.ref C) "__eq__" = some (some (.ref f))) (hf : PySem.W.isFn X.K (.ref f) = true) (hb : Binds X.K fd ps []) (hx : Passes CX X E) : OpR X (compareOp .NotEq) (rOwnNeX X.K C sp E) := by
  intro pins s σ H x y u v Q I rx ry hq
  obtain ⟨a, dx, fs, ty, rfl, ha, hty, hn, h⟩ := hq
  cases rx
  obtain ⟨mA, J, _⟩ := ins_get I.hok ha
  obtain ⟨od, J, _⟩ := J.look
  obtain ⟨m, hF⟩ := I.fr
  obtain ⟨P, Z, hP, _⟩ := kit_of I ry hty
  have X0 := I.ok.mod.kin.keeps hF.keep
  have hv := Z.ty (model X.prog X.w) _ I.kIn hP
  have inner := own_call1 (A := X.A.in1) rfl F hr.in1 hb hx I (vs := [V.ref a, y]) (us := [.ref a, v]) (.cons rfl (.cons ry .nil)) h
  have one : wpAny (model X.prog X.w) X.A (tryCompare (.ref a) "__ne__" v) (fun r s' => ∃ v, r = some v ∧ EP X pins σ Q v s') X.xe s := by
    unfold tryCompare
    refine wpAny_bind (ifBound_b X0 J hn0 PySem.F.cmp_object.ne.bind (wpAny_call (codeAny_call_builtin PySem.F.cmp_object.ne.plain PySem.F.cmpEntry_ne
      (PySem.W.check_slot PySem.F.cmpKind_ne PySem.F.cmpSplit_ne (J.type.andThen (PySem.W.looks_subIn X0 hob)) (PySem.F.cmpArgs_ne _ _) ?_))))
    unfold Builtin.«object.__ne__»
    repeat (first
      | with_reducible refine wpAny_cRoomFor hr.in1.units0 ?_
      | (refine wpAny_bind (m := callSpecialIfBound? (.ref a) (Str.ofString "__eq__") [v]) (PySem.W.ifBound_K X0 J hs hf (wpAny_mono inner (fun r s' hr' => ?_) fun _ _ e => e)))
      | wp_step)
    obtain ⟨v, H', I', rv, t, rfl, q⟩ := hr'
    obtain rfl : r = Value.bool t := rv
    repeat (first | (refine wpAny_bind (m := truthy (.bool _)) (wpAny_truthy_bool ?_)) | wp_step)
    first
      | exact ⟨_, rfl, .bl (!t), H', I', rfl, q⟩
      | exact wpAny_pure ⟨_, rfl, .bl (!t), H', I', rfl, q⟩
  show wpAny (model X.prog X.w) X.A (richCompare .NotEq (.ref a) v) (EP X pins σ Q) X.xe s
  unfold richCompare
  simp only [oneThing_ref]
  refine wpAny_holding (wpAny_bind (wpAny_cRoomFor hr.units0 ?_))
  refine wpAny_bind (J.type.here (wpAny_bind (hv.here ?_)))
  split
  · rename_i q
    have e : PySem.W.subIn X.K ty (.ref C) = some false := by
      rcases Bool.or_eq_true_iff.mp hn with e | e
      · rw [beq_iff_eq.mp e] at q; simp at q
      · exact beq_iff_eq.mp e
    refine wpAny_bind ((PySem.W.looks_subIn X0 e).here ?_)
    simp only [Bool.false_eq_true, if_false]
    refine wpAny_bind (wpAny_mono one (fun r s' z => ?_) fun _ _ e => e)
    obtain ⟨v, rfl, hq⟩ := z
    exact wpAny_pure hq
  · refine wpAny_bind (wpAny_pure ?_)
    simp only [Bool.false_eq_true, if_false]
    refine wpAny_bind (wpAny_mono one (fun r s' z => ?_) fun _ _ e => e)
    obtain ⟨v, rfl, hq⟩ := z
    exact wpAny_pure hq
/-- a[i] -/
def rOwnIx (C : Addr) (sp : Sp) (E : XK) : R2 := fun x y H Q => ∃ a dx fs, x = .ref a ∧ H a = some (.ins C dx fs) ∧ sp [.ref a, y] H Q E
theorem pe_ixOwn {a b : Expr} {ta tb : TE} {pos : Pos} (F : FnOk X.prog X.w X.K X.mg X.base CX k f fd ps sp) (hr : Room (k + 1) X.A) (hs : PySem.W.findIn X.K (.ref C) "__getitem__" = some (some (.ref f))) (hf : PySem.W.fnIn X.K f = true) (hfn : PySem.W.isFn X.K (.ref f) = true)
    (hb : Binds X.K fd ps []) (hx : Passes CX X E) (ha : PE X a ta) (hbb : PE X b tb) (hsl : ∀ o i, subscripted b true o i = runValue (.builtin "lifetime.subscript" ⟨[o, i], []⟩)) : PE X (.Subscript a b pos) (tOp (rOwnIx C sp E) ta tb) := by
  refine ⟨fun pins s σ H Q I h => ?_⟩
  refine Subscript_ (binT ha hbb I (R := fun x y H2 => rOwnIx C sp E x y H2 Q) h fun v u s2 x y H2 I2 rx ry q => ?_)
  obtain ⟨a, dx, fs, rfl, ha, h⟩ := q
  cases rx
  obtain ⟨mA, J, _⟩ := ins_get I2.hok ha
  obtain ⟨od, J, _⟩ := J.look
  obtain ⟨m, hF⟩ := I2.fr
  exact PySem.W.sub_K hF I2.ok.mod.kin J hs hf hfn (own_call1 (A := X.A.in1) rfl F hr.in1 hb hx I2 (vs := [V.ref a, y]) (.cons rfl (.cons ry .nil)) h) (hsl _ _)
/-- str(a) -/
def rStrOwn (C : Addr) (sp : Sp) (E : XK) : List V → Hp → VK → Prop := fun xs H Q => ∃ a dx fs, xs = [.ref a] ∧ H a = some (.ins C dx fs) ∧ sp [.ref a] H (fun v H' => ∃ z, v = .str z ∧ Q (.str z) H') E
theorem str_own (F : FnOk X.prog X.w X.K X.mg X.base CX k f fd ps sp) (hr : Room (k + 2) X.A) (hs : PySem.W.findIn X.K (.ref C) "__str__" = some (some (.ref f))) (hf : PySem.W.isFn X.K (.ref f) = true)
    (hb : Binds X.K fd ps []) (hx : Passes CX X E) : CallR X (.type "str") (rStrOwn C sp E) := by
  intro pins s σ H xs us Q I r hq
  obtain ⟨a, dx, fs, rfl, ha, h⟩ := hq
  obtain rfl := Vals.ref1 r
  obtain ⟨mA, J, _⟩ := ins_get I.hok ha
  obtain ⟨od, J, _⟩ := J.look
  obtain ⟨m, hF⟩ := I.fr
  refine PySem.W.kso_call hr.in1.in1.units0 I.kIn J hs hf ?_
  refine wpAny_mono (own_call1 (A := X.A.in1.in1) rfl F hr.in1.in1 hb hx I (vs := [V.ref a]) (.cons rfl .nil) h) (fun w s' z => ?_) fun _ _ e => e
  obtain ⟨v, H', I', rv, n, rfl, q⟩ := z
  obtain ⟨t, rfl⟩ := rv
  exact ⟨.str n, H', I', ⟨t, rfl⟩, q⟩
end
end Ow

set_option Elab.async false
set_option linter.all false
set_option maxRecDepth 100000
set_option maxHeartbeats 3200000
/-! v in a, v not in a, by an own __contains__ -/
namespace Ow
open PySem PySem.Spec PyProof.Rows L2
section
variable {X : Cx} {CX : CXT} {k : Nat} {f C : Addr} {fd : FuncData} {ps : List Str} {sp : Sp} {E : XK}
def rOwnIn (C : Addr) (sp : Sp) (E : XK) : R2 := fun x y H Q => ∃ a dx fs, y = .ref a ∧ H a = some (.ins C dx fs) ∧ sp [.ref a, x] H (fun v H' => ∃ t : Bool, v = .bl t ∧ Q (.bl t) H') E
def rOwnNotIn (C : Addr) (sp : Sp) (E : XK) : R2 := fun x y H Q => ∃ a dx fs, y = .ref a ∧ H a = some (.ins C dx fs) ∧ sp [.ref a, x] H (fun v H' => ∃ t : Bool, v = .bl t ∧ Q (.bl (!t)) H') E
theorem in_own (F : FnOk X.prog X.w X.K X.mg X.base CX k f fd ps sp) (hr : Room k X.A) (hs : PySem.W.findIn X.K (.ref C) "__contains__" = some (some (.ref f))) (hf : PySem.W.isFn X.K (.ref f) = true)
    (hb : Binds X.K fd ps []) (hx : Passes CX X E) : OpR X (compareOp .In) (rOwnIn C sp E) := by
  intro pins s σ H x y u v Q I rx ry hq
  obtain ⟨a, dx, fs, rfl, ha, h⟩ := hq
  cases ry
  obtain ⟨mA, J, _⟩ := ins_get I.hok ha
  obtain ⟨od, J, _⟩ := J.look
  obtain ⟨m, hF⟩ := I.fr
  refine PySem.W.in_K hF I.ok.mod.kin J hs hf (wpAny_mono (own_call F hr hb hx I (vs := [V.ref a, x]) (us := [.ref a, u]) (.cons rfl (.cons rx .nil)) h) (fun r s' hr' => ?_) fun _ _ e => e)
  obtain ⟨z, H', I', rz, t, rfl, q⟩ := hr'
  obtain rfl : r = Value.bool t := rz
  exact wpAny_truthy_bool ⟨.bl t, H', I', rfl, q⟩
theorem notIn_own (F : FnOk X.prog X.w X.K X.mg X.base CX k f fd ps sp) (hr : Room k X.A) (hs : PySem.W.findIn X.K (.ref C) "__contains__" = some (some (.ref f))) (hf : PySem.W.isFn X.K (.ref f) = true)
    (hb : Binds X.K fd ps []) (hx : Passes CX X E) : OpR X (compareOp .NotIn) (rOwnNotIn C sp E) := by
  intro pins s σ H x y u v Q I rx ry hq
  obtain ⟨a, dx, fs, rfl, ha, h⟩ := hq
  cases ry
  obtain ⟨mA, J, _⟩ := ins_get I.hok ha
  obtain ⟨od, J, _⟩ := J.look
  obtain ⟨m, hF⟩ := I.fr
  refine PySem.W.notIn_K hF I.ok.mod.kin J hs hf (wpAny_mono (own_call F hr hb hx I (vs := [V.ref a, x]) (us := [.ref a, u]) (.cons rfl (.cons rx .nil)) h) (fun r s' hr' => ?_) fun _ _ e => e)
  obtain ⟨z, H', I', rz, t, rfl, q⟩ := hr'
  obtain rfl : r = Value.bool t := rz
  exact wpAny_truthy_bool ⟨.bl (!t), H', I', rfl, q⟩
end
end Ow

set_option Elab.async false
set_option linter.all false
set_option maxRecDepth 100000
set_option maxHeartbeats 6400000
namespace K16
open PySem L2 Tx Tg Tm Da RZ
/-! ### the class of what is reckoned already, and tallies in memory -/
abbrev sMadeInit : Stmt := inClass sMadeC 0
abbrev sTInit : Stmt := inClass sTally 0
/-- what is asked of the two classes -/
structure WT (K : PySem.W.Frag) (mg : Str → Option Value) (CM CT : Addr) : Prop where
  gM : mg "Made" = some (.ref CM)
  gT : mg "Tally" = some (.ref CT)
  clM : Cls K CM
  nC : NoAttr K CM "content"
  clT : Cls K CT
  nL : NoAttr K CT "_letters"
  nF : NoAttr K CT "_first"
  nM : NoAttr K CT "_moves"
  nZ : NoAttr K CT "_last"
  nP : NoAttr K CT "_prime"
  iMM : PySem.W.kitOne K (.ref CM) (.ref CM) = some true
  iTM : PySem.W.kitOne K (.type "tuple") (.ref CM) = some false
  iTT : PySem.W.kitOne K (.ref CT) (.ref CT) = some true
  tyM : ∀ (H : Hp) (a dx : Addr) (fs : List (Str × V)), H a = some (.ins CM dx fs) → TyX K H (.ref a) (.ref CM)
  tyT : ∀ (H : Hp) (a dx : Addr) (fs : List (Str × V)), H a = some (.ins CT dx fs) → TyX K H (.ref a) (.ref CT)
/-- a tally: its letters, its first row, its moves in the order of the letters, its last column, its prime, its width -/
structure Tl where
  sg : Str
  u : List Int
  W : List Mv
  v : List Int
  p : Option Int
  n : Nat
structure okT (t : Tl) : Prop where
  sg : Signs t.sg
  ord : t.W.map (·.1) = cds t.sg
  lu : t.u.length = t.n
  lv : t.v.length = t.n
  sq : ∀ m ∈ t.W, Ty.Sq t.n m.2
  pr : okPr t.p
abbrev tf (sg : Str) (a d b : Addr) (p : Option Int) : List (Str × V) := [("_letters", .str sg), ("_first", .ref a), ("_moves", .ref d), ("_last", .ref b), ("_prime", pV p)]
def TlAt (C : Addr) (H : Hp) (x : Addr) (t : Tl) : Prop := ∃ dx a d b, H x = some (.ins C dx (tf t.sg a d b t.p)) ∧ RowI H a t.u ∧ MovAt H d t.W ∧ RowI H b t.v ∧ okT t
theorem MovAt.same {H H' : Hp} {d : Addr} {W : List Mv} (s : Same H H') (h : MovAt H d W) : MovAt H' d W := let ⟨k, e, r⟩ := h; ⟨k, s _ _ e, r.keep (.same s)⟩
theorem TlAt.same {C : Addr} {H H' : Hp} {x : Addr} {t : Tl} (s : Same H H') (h : TlAt C H x t) : TlAt C H' x t := let ⟨dx, a, d, b, e, ha, hd, hb, ok⟩ := h; ⟨dx, a, d, b, s _ _ e, s _ _ ha, hd.same s, s _ _ hb, ok⟩
theorem TlAt.ok {C : Addr} {H : Hp} {x : Addr} {t : Tl} (h : TlAt C H x t) : okT t := let ⟨_, _, _, _, _, _, _, _, ok⟩ := h; ok
section
variable {P : Program} {w : World} {K : PySem.W.Frag} {mg : Str → Option Value} {base : Heap}
def spMadeInit (CM : Addr) : Sp := fun vs H Q _ => ∃ (x dx : Addr) (v : V), vs = [.ref x, v] ∧ H x = some (.ins CM dx []) ∧ Q .non (upd H x (.ins CM dx [("content", v)]))
theorem scMadeInit : FnScope ["self", "content"] ["self", "content"] (defScope sMadeInit) := ⟨rfl, rfl, rfl, by decide +kernel, rfl, by decide +kernel, by decide +kernel⟩
theorem ok_madeinit {CM CT f : Addr} {fd : FuncData} (F : Fun K "__init__" "Made.__init__" sMadeInit f fd) (W : WT K mg CM CT) : FnOk P w K mg base CX0 1 f fd ["self", "content"] (spMadeInit CM) := by
  refine F.ok scMadeInit (fun vs H Q E h => ?_) (fun cdv A outer s H vs Q E hr h => ?_)
  · obtain ⟨x, dx, v, rfl, _⟩ := h
    rfl
  · obtain ⟨x, dx, v, rfl, hx, q⟩ := h
    refine ⟨_, pss_one (ps_fld (pv 0) (pv 1) rfl), ?_⟩
    exact ⟨_, rfl, _, rfl, x, CM, dx, [], rfl, hx, W.clM, W.nC, by decide, q⟩
end
end K16

set_option Elab.async false
set_option linter.all false
set_option maxRecDepth 100000
set_option maxHeartbeats 6400000
namespace K16
open PySem L2 Tx Tg Tm Da RZ
section
variable {P : Program} {w : World} {K : PySem.W.Frag} {mg : Str → Option Value} {base : Heap}
abbrev nTInit : List Str := ["self", "letters", "first", "moves", "last", "prime", "row", "squares", "column", "letter"]
theorem scTInit : FnScope nTInit ["self", "letters", "first", "moves", "last", "prime"] (defScope sTInit) := ⟨rfl, rfl, rfl, by decide +kernel, rfl, by decide +kernel, by decide +kernel⟩
/-- a new tally of plain parts -/
def spTInit (CT : Addr) : Sp := fun vs H Q _ => ∃ (x dx : Addr) (sg : Str) (a d b : Addr) (l m : List Int) (W : List Mv) (n : Nat) (p : Option Int), vs = [.ref x, .str sg, .ref a, .ref d, .ref b, pV p] ∧ H x = some (.ins CT dx []) ∧ Signs sg ∧ RowI H a l ∧ RowI H b m ∧ l.length = n ∧ m.length = n ∧ Few l ∧ Few m ∧ MovAt H d W ∧ okM n W ∧ W.map (·.1) = cds sg ∧ n ≤ 9 ∧ okPr p ∧
  ∀ H', But x H H' → TlAt CT H' x ⟨sg, l.map (Ty.rest p), W.map fun w => (w.1, w.2.map fun r => r.map (Ty.rest p)), m.map (Ty.rest p), p, n⟩ → Q .non H'
variable {fI fH fL fC fPr fCP fCS f0 fR fQ fIR fIS fAM fP : Addr} {dI dH dL dC dPr dCP dCS d0 dR dQ dIR dIS dAM dP : FuncData}
theorem ok_tinit {f CM CT : Addr} {fd : FuncData} (F : Fun K "__init__" "Tally.__init__" sTInit f fd) (T : Txt K mg) (W0 : WT K mg CM CT) (DH : Df K mg "has_only" sHas ["value", "signs", "most"] fH dH) (DL : Df K mg "is_letters" sLetters ["value"] fL dL) (DC : Df K mg "check_letters" sCheck ["value"] fC dC)
    (DI : Df K mg "is_integer" sInt ["value"] fI dI) (DPr : Df K mg "is_prime" sPrimeQ ["value"] fPr dPr) (DCP : Df K mg "check_prime" sCPrime ["value"] fCP dCP) (DS : Df K mg "check_some_prime" sCSome ["value"] fCS dCS) (D0 : Df K mg "rest_of" sRest ["number", "prime"] f0 d0) (DR : Df K mg "rest_row" sRestRow ["row", "prime"] fR dR) (DQ : Df K mg "rest_square" sRestSq ["square", "prime"] fQ dQ)
    (DIR : Df K mg "is_row" sIsRow ["value", "width"] fIR dIR) (DIS : Df K mg "is_square" sIsSq ["value", "width"] fIS dIS) (DAM : Df K mg "are_moves" sAreMoves ["letters", "value", "width"] fAM dAM) (DP : Df K mg "check_parts" sCheckParts ["letters", "first", "moves", "last"] fP dP) :
    FnOk P w K mg base CX0 6 f fd ["self", "letters", "first", "moves", "last", "prime"] (spTInit CT) := by
  have GC := ok_passL (P := P) (w := w) (base := base) DC.F T DH DL
  have GP := ok_parts (P := P) (w := w) (base := base) DP.F T DI DIR DIS DAM
  have GS := ok_csome (P := P) (w := w) (base := base) DS.F T DI DPr DCP
  have GR := ok_rrow (P := P) (w := w) (base := base) DR.F T D0
  have GQ := ok_rsq (P := P) (w := w) (base := base) DQ.F T D0 DR
  refine F.ok scTInit (fun vs H Q E h => ?_) (fun cdv A outer s H vs Q E hr h => ?_)
  · obtain ⟨x, dx, sg, a, d, b, l, m, W, n, p, rfl, _⟩ := h
    rfl
  · obtain ⟨x, dx, sg, a, d, b, l, m, W, n, p, rfl, hx, hsg, ha, hb, hl, hm, fl, fm, hM, ok, ord, hn, hp, q⟩ := h
    have hu := hu_of hr
    refine ⟨_, (pss_cons (ps_expr (pe_call GC (hr.mono (by decide)) (by rfl) DC.m DC.F.kp DC.b .nil pass0 (pa_cons (pv 1) pa_nil)))
    (pss_cons (ps_asg (pe_tup (pa_cons (pv 2) (pa_cons (pv 3) (pa_cons (pv 4) pa_nil)))) (pg_tup rfl (pgs_cons (pg_name (i := 6) scTInit.nd rfl (Or.inl rfl)) (pgs_cons (pg_name (i := 7) scTInit.nd rfl (Or.inr rfl)) (pgs_cons (pg_name (i := 8) scTInit.nd rfl (Or.inl rfl)) pgs_nil)))))
    (pss_cons (ps_if (PW.pt (pw_and (pt_val (pe_callB call_isi (by rfl) T.isi (by decide +kernel) (pa_cons (pv 2) (pa_cons (pe_glob (v := .ref CM) (by rfl) W0.gM rfl) pa_nil)))) (pw_and (pt_val (pe_callB call_isi (by rfl) T.isi (by decide +kernel) (pa_cons (pv 3) (pa_cons (pe_glob (v := .ref CM) (by rfl) W0.gM rfl) pa_nil)))) (pw_and1 (pt_val (pe_callB call_isi (by rfl) T.isi (by decide +kernel) (pa_cons (pv 4) (pa_cons (pe_glob (v := .ref CM) (by rfl) W0.gM rfl) pa_nil)))))))) (pss_one (ps_asg (pe_tup (pa_cons (pe_fld (pv 2) rfl) (pa_cons (pe_fld (pv 3) rfl) (pa_cons (pe_fld (pv 4) rfl) pa_nil)))) (pg_tup rfl (pgs_cons (pg_name (i := 6) scTInit.nd rfl (Or.inl rfl)) (pgs_cons (pg_name (i := 7) scTInit.nd rfl (Or.inr rfl)) (pgs_cons (pg_name (i := 8) scTInit.nd rfl (Or.inl rfl)) pgs_nil)))))) (pss_one (ps_expr (pe_call GP (hr.mono (by decide)) (by rfl) DP.m DP.F.kp DP.b .nil pass0 (pa_cons (pv 1) (pa_cons (pv 2) (pa_cons (pv 3) (pa_cons (pv 4) pa_nil))))))))
    (pss_cons (ps_expr (pe_call GS (hr.mono (by decide)) (by rfl) DS.m DS.F.kp DS.b .nil pass0 (pa_cons (pv 5) pa_nil)))
    (pss_cons (ps_fld (pv 0) (pv 1) rfl)
    (pss_cons (ps_fld (pv 0) (pe_call GR (hr.mono (by decide)) (by rfl) DR.m DR.F.kp DR.b .nil pass0 (pa_cons (pv 6) (pa_cons (pv 5) pa_nil))) rfl)
    (pss_cons (ps_fld (pv 0) (pe_dc (own := [("letter", 9)]) (g := (gName 9)) (tt := tYes) (tk := tVar 9) (tv := tCall spRSq [] E0 (tCons (tDGet (tVar 7) (tVar 9)) (tCons (tVar 5) tNil))) rfl scTInit.nd (pi_str (pv 1)) (blkOk_by (own := [("letter", 9)]) (N := nTInit) (sc := defScope sTInit) (by decide +kernel)) (fun _ _ _ _ _ => (pg_name (i := 9) scTInit.nd rfl (Or.inl rfl))) (fun _ _ _ _ _ => pts_nil) (fun _ _ _ _ _ => (pv 9)) (fun _ _ _ _ _ => (pe_call GQ (hr.mono (by decide)) (by rfl) DQ.m DQ.F.kp DQ.b .nil pass0 (pa_cons (pe_dget hu (pv 7) (pv 9) (fun _ _ => rfl)) (pa_cons (pv 5) pa_nil))))) rfl)
    (pss_cons (ps_fld (pv 0) (pe_call GR (hr.mono (by decide)) (by rfl) DR.m DR.F.kp DR.b .nil pass0 (pa_cons (pv 8) (pa_cons (pv 5) pa_nil))) rfl)
    (pss_one (ps_fld (pv 0) (pv 5) rfl)))))))))), ?_⟩
    refine ⟨_, rfl, sg, rfl, hsg, fun H1 s1 => ?_⟩
    refine ⟨_, rfl, _, rfl, _, rfl, (show 3 ≤ sizeLine by decide), fun D nD => ⟨D, _, rfl, SqT.of upd_same, rfl, ?_⟩⟩
    have s2 : Same H (upd H1 D (.tup [V.ref a, V.ref d, V.ref b])) := s1.trans (same_upd nD)
    generalize upd H1 D (.tup [V.ref a, V.ref d, V.ref b]) = H2 at s2 ⊢
    have ty : TyX K H2 (.ref a) (.type "tuple") := ty_tup (SqT.of (s2 _ _ ha))
    refine ⟨_, _, rfl, _, _, rfl, _, _, rfl, rfl, ?_⟩
    refine ⟨_, rfl, _, _, _, _, _, rfl, .own CM, ty, W0.iTM, false, rfl, iteF (iteF ?_)⟩
    refine ⟨_, rfl, _, rfl, _, rfl, _, rfl, sg, a, d, b, l, m, W, n, rfl, hsg, s2 _ _ ha, s2 _ _ hb, hl, hm, fl, fm, hM.same s2, ok, ord, hn, fun H3 s3 => ?_⟩
    have s13 := s2.trans s3
    refine ⟨_, rfl, p, rfl, hp, ?_⟩
    have hx3 := s13 _ _ hx
    refine ⟨_, rfl, _, rfl, x, CT, dx, [], rfl, hx3, W0.clT, W0.nL, by decide, ?_⟩
    have kx := KeepT.upd (o := .ins CT dx (putF "_letters" (V.str sg) [])) (NoT.ins hx3)
    have b3 : But x H (upd H3 x (.ins CT dx (putF "_letters" (V.str sg) []))) := fun b o n e => by
      rw [upd_ne n]
      exact s13 _ _ e
    have e3 : (upd H3 x (.ins CT dx (putF "_letters" (V.str sg) []))) x = some (.ins CT dx [("_letters", .str sg)]) := upd_same
    obtain ⟨kvs, ed, hw⟩ := id hM
    have ed3 : (upd H3 x (.ins CT dx (putF "_letters" (V.str sg) []))) d = some (.dK kvs) := by
      rw [upd_ne (ne_of (s13 _ _ ed) hx3 (by intro z; cases z))]
      exact s13 _ _ ed
    have hw3 : MvsAt (upd H3 x (.ins CT dx (putF "_letters" (V.str sg) []))) kvs W := (hw.keep (.same s13)).keep kx
    have ha3 : RowI (upd H3 x (.ins CT dx (putF "_letters" (V.str sg) []))) a l := kx _ _ (s13 _ _ ha)
    have hb3 : RowI (upd H3 x (.ins CT dx (putF "_letters" (V.str sg) []))) b m := kx _ _ (s13 _ _ hb)
    generalize upd H3 x (.ins CT dx (putF "_letters" (V.str sg) [])) = H4 at b3 e3 ed3 hw3 ha3 hb3 ⊢
    refine ⟨_, rfl, _, rfl, a, l, p, rfl, ha3, okPr.ok hp, by omega, fun ea H5 s5 r5 => ⟨_, rfl, x, CT, dx, _, rfl, s5 _ _ e3, W0.clT, W0.nF, (by show 1 < 1000; decide), ?_⟩⟩
    have hx5 := s5 _ _ e3
    have k5 := KeepT.upd (o := .ins CT dx (putF "_first" (V.ref ea) [("_letters", .str sg)])) (NoT.ins hx5)
    have b5 : But x H (upd H5 x (.ins CT dx (putF "_first" (V.ref ea) [("_letters", .str sg)]))) := fun b o n e => by
      rw [upd_ne n]
      exact s5 _ _ (b3 _ _ n e)
    have e6 : (upd H5 x (.ins CT dx (putF "_first" (V.ref ea) [("_letters", .str sg)]))) x = some (.ins CT dx [("_letters", .str sg), ("_first", .ref ea)]) := upd_same
    have ed6 : (upd H5 x (.ins CT dx (putF "_first" (V.ref ea) [("_letters", .str sg)]))) d = some (.dK kvs) := by
      rw [upd_ne (ne_of (s5 _ _ ed3) hx5 (by intro z; cases z))]
      exact s5 _ _ ed3
    have hw6 : MvsAt (upd H5 x (.ins CT dx (putF "_first" (V.ref ea) [("_letters", .str sg)]))) kvs W := (hw3.keep (.same s5)).keep k5
    have ra6 : RowI (upd H5 x (.ins CT dx (putF "_first" (V.ref ea) [("_letters", .str sg)]))) ea (l.map (Ty.rest p)) := k5 _ _ r5
    have hb6 : RowI (upd H5 x (.ins CT dx (putF "_first" (V.ref ea) [("_letters", .str sg)]))) b m := k5 _ _ (s5 _ _ hb3)
    generalize upd H5 x (.ins CT dx (putF "_first" (V.ref ea) [("_letters", .str sg)])) = H6 at b5 e6 ed6 hw6 ra6 hb6 ⊢
    refine ⟨_, rfl, sg, rfl, fun D nD => ?_⟩
    have lW : W.length = (cds sg).length := by rw [← ord, List.length_map]
    refine Lc.dc_text (fun i H7 => Same H6 H7 ∧ ∃ kvs', H7 D = some (.dK kvs') ∧ MvsAt H7 kvs' ((W.map fun w => (w.1, w.2.map fun r => r.map (Ty.rest p))).take i)) ⟨same_upd nD, [], upd_same, .nil⟩ ?_ ?_
    · rintro i c H7 hc ⟨s7, kvs', e7, w7⟩
      have hi := (List.getElem?_eq_some_iff.mp hc).1
      have hj : W[i]? = some W[i] := List.getElem?_eq_getElem (by omega)
      have hm0 : (c, W[i].2) ∈ W := by
        have e1 : W[i].1 = c := by
          have : (W.map (·.1))[i]? = some c := by rw [ord]; exact hc
          rw [List.getElem?_map, hj] at this
          exact Option.some.inj this
        rw [← e1]
        exact List.getElem_mem _
      have e1 : W[i].1 = c := by
        have : (W.map (·.1))[i]? = some c := by rw [ord]; exact hc
        rw [List.getElem?_map, hj] at this
        exact Option.some.inj this
      generalize eM : W[i].2 = M at hm0
      have ei : W[i]? = some (c, M) := by rw [hj, ← e1, ← eM]
      obtain ⟨p0, g0, r0⟩ := mvs_get (hw6.keep (.same s7)) ok.nd hm0
      have G1 : DGet H7 d (.str (one c)) (some (.ref p0)) := by
        have := DGet.k (k := (Sum.inr (one c) : Key)) (s7 _ _ ed6)
        rw [g0] at this
        exact this
      have lw : kvs'.length = i := by
        rw [mvs_len w7, List.length_take, List.length_map]
        omega
      have nk : c ∉ ((W.map fun w => ((w.1, w.2.map fun r => r.map (Ty.rest p)) : Mv)).take i).map (·.1) := by
        rw [List.map_take, List.map_map, show (W.map ((fun w : Mv => w.1) ∘ fun w => ((w.1, w.2.map fun r => r.map (Ty.rest p)) : Mv))) = cds sg from ord]
        intro hm
        obtain ⟨j, hj⟩ := List.mem_iff_getElem?.mp hm
        have hj1 := (List.getElem?_eq_some_iff.mp hj).1
        rw [List.length_take] at hj1
        rw [List.getElem?_take, if_pos (by omega)] at hj
        have := (List.getElem?_inj (by omega) (by rw [← ord]; exact ok.nd : (cds sg).Nodup)).mp (hj.trans hc.symm)
        omega
      have sq0 := ok.sq _ hm0
      refine ⟨rfl, iteT (B := False) ?_⟩
      refine ⟨_, rfl, _, rfl, _, rfl, d, _, rfl, G1, _, rfl, p0, M, p, rfl, r0, okPr.ok hp, (by rw [sq0.len]; omega), (fun r hr => by rw [sq0.row r hr]; omega), fun e H8 s8 r8 => ?_⟩
      have e8 := s8 _ _ e7
      refine ⟨kvs', Sum.inr (one c), rfl, e8, Nat.lt_of_le_of_lt (show kvs'.length ≤ 3 by have := ok.few; omega) (by decide), same_put (s7.trans s8) nD, kvs' ++ [(Sum.inr (one c), .ref e)], ?_, ?_⟩
      · rw [upd_same, putK_new (mvs_none w7 nk)]
      · rw [List.take_add_one, List.getElem?_map, ei]
        exact each_app ((w7.keep (.same s8)).keep (KeepT.upd (.dK e8))) (.cons ⟨e, rfl, r8.keep (KeepT.upd (.dK e8))⟩ .nil)
    · rintro H7 ⟨s7, kvs', e7, w7⟩
      rw [List.take_of_length_le (by rw [List.length_map]; omega)] at w7
      have hx7 := s7 _ _ e6
      refine ⟨_, rfl, x, CT, dx, _, rfl, hx7, W0.clT, W0.nM, (by show 2 < 1000; decide), ?_⟩
      have nDx : D ≠ x := fun e => by rw [e, e6] at nD; cases nD
      have k1 := KeepT.upd (o := .ins CT dx (putF "_moves" (V.ref D) [("_letters", .str sg), ("_first", .ref ea)])) (NoT.ins hx7)
      refine ⟨_, rfl, _, rfl, b, m, p, rfl, k1 _ _ (s7 _ _ hb6), okPr.ok hp, by omega, fun eb H9 s9 r9 => ⟨_, rfl, x, CT, dx, _, rfl, s9 _ _ upd_same, W0.clT, W0.nZ, (by show 3 < 1000; decide), ?_⟩⟩
      have hx9 := s9 _ _ (upd_same (H := H7) (a := x) (o := .ins CT dx (putF "_moves" (V.ref D) [("_letters", .str sg), ("_first", .ref ea)])))
      refine ⟨_, rfl, _, rfl, x, CT, dx, _, rfl, upd_same, W0.clT, W0.nP, (by show 4 < 1000; decide), ?_⟩
      have k2 := KeepT.upd (o := .ins CT dx (putF "_last" (V.ref eb) [("_letters", .str sg), ("_first", .ref ea), ("_moves", .ref D)])) (NoT.ins hx9)
      have k3 := KeepT.upd (o := .ins CT dx (tf sg ea D eb p)) (NoT.ins (upd_same (H := H9) (a := x) (o := .ins CT dx (putF "_last" (V.ref eb) [("_letters", .str sg), ("_first", .ref ea), ("_moves", .ref D)]))))
      refine q _ (fun b o n e => ?_) ⟨dx, ea, D, eb, upd_same, k3 _ _ (k2 _ _ (s9 _ _ (k1 _ _ (s7 _ _ ra6)))), ⟨kvs', ?_, (((w7.keep k1).keep (.same s9)).keep k2).keep k3⟩, k3 _ _ (k2 _ _ r9), ⟨hsg, ?_, ?_, ?_, ?_, hp⟩⟩
      · rw [upd_ne n, upd_ne n]
        refine s9 _ _ ?_
        rw [upd_ne n]
        exact s7 _ _ (b5 _ _ n e)
      · rw [upd_ne nDx, upd_ne nDx]
        refine s9 _ _ ?_
        rw [upd_ne nDx]
        exact e7
      · rw [List.map_map]
        exact ord
      · rw [List.length_map]
        exact hl
      · rw [List.length_map]
        exact hm
      · intro w hw
        obtain ⟨w0, h0, rfl⟩ := List.mem_map.mp hw
        have z := ok.sq w0 h0
        refine ⟨by rw [List.length_map]; exact z.len, fun r hr => ?_⟩
        obtain ⟨r0, h1, rfl⟩ := List.mem_map.mp hr
        rw [List.length_map]
        exact z.row r0 h1
end
end K16

set_option Elab.async false
set_option linter.all false
set_option maxRecDepth 100000
set_option maxHeartbeats 6400000
namespace K16
open PySem L2 Tx Tg Tm Da RZ
section
variable {P : Program} {w : World} {K : PySem.W.Frag} {mg : Str → Option Value} {base : Heap}
structure okN (n : Nat) (W : List Mv) : Prop where
  nd : (W.map (·.1)).Nodup
  sq : ∀ m ∈ W, Ty.Sq n m.2
  few : W.length ≤ 3
abbrev MdAt (CM : Addr) (H : Hp) (y a : Addr) : Prop := ∃ dy, H y = some (.ins CM dy [("content", .ref a)])
/-- a new tally of parts that the package has reckoned -/
def spTInitM (CM CT : Addr) : Sp := fun vs H Q _ => ∃ (x dx : Addr) (sg : Str) (ya yd yb a d b : Addr) (l m : List Int) (W : List Mv) (n : Nat) (p : Option Int), vs = [.ref x, .str sg, .ref ya, .ref yd, .ref yb, pV p] ∧ H x = some (.ins CT dx []) ∧ Signs sg ∧ MdAt CM H ya a ∧ MdAt CM H yd d ∧ MdAt CM H yb b ∧ RowI H a l ∧ RowI H b m ∧ l.length = n ∧ m.length = n ∧ MovAt H d W ∧ okN n W ∧ W.map (·.1) = cds sg ∧ n ≤ 60 ∧ okPr p ∧
  ∀ H', But x H H' → TlAt CT H' x ⟨sg, l.map (Ty.rest p), W.map fun w => (w.1, w.2.map fun r => r.map (Ty.rest p)), m.map (Ty.rest p), p, n⟩ → Q .non H'
variable {fI fH fL fC fPr fCP fCS f0 fR fQ fIR fIS fAM fP : Addr} {dI dH dL dC dPr dCP dCS d0 dR dQ dIR dIS dAM dP : FuncData}
theorem ok_tinitM {f CM CT : Addr} {fd : FuncData} (F : Fun K "__init__" "Tally.__init__" sTInit f fd) (T : Txt K mg) (W0 : WT K mg CM CT) (DH : Df K mg "has_only" sHas ["value", "signs", "most"] fH dH) (DL : Df K mg "is_letters" sLetters ["value"] fL dL) (DC : Df K mg "check_letters" sCheck ["value"] fC dC)
    (DI : Df K mg "is_integer" sInt ["value"] fI dI) (DPr : Df K mg "is_prime" sPrimeQ ["value"] fPr dPr) (DCP : Df K mg "check_prime" sCPrime ["value"] fCP dCP) (DS : Df K mg "check_some_prime" sCSome ["value"] fCS dCS) (D0 : Df K mg "rest_of" sRest ["number", "prime"] f0 d0) (DR : Df K mg "rest_row" sRestRow ["row", "prime"] fR dR) (DQ : Df K mg "rest_square" sRestSq ["square", "prime"] fQ dQ)
    (DIR : Df K mg "is_row" sIsRow ["value", "width"] fIR dIR) (DIS : Df K mg "is_square" sIsSq ["value", "width"] fIS dIS) (DAM : Df K mg "are_moves" sAreMoves ["letters", "value", "width"] fAM dAM) (DP : Df K mg "check_parts" sCheckParts ["letters", "first", "moves", "last"] fP dP) :
    FnOk P w K mg base CX0 6 f fd ["self", "letters", "first", "moves", "last", "prime"] (spTInitM CM CT) := by
  have GC := ok_passL (P := P) (w := w) (base := base) DC.F T DH DL
  have GP := ok_parts (P := P) (w := w) (base := base) DP.F T DI DIR DIS DAM
  have GS := ok_csome (P := P) (w := w) (base := base) DS.F T DI DPr DCP
  have GR := ok_rrow (P := P) (w := w) (base := base) DR.F T D0
  have GQ := ok_rsq (P := P) (w := w) (base := base) DQ.F T D0 DR
  refine F.ok scTInit (fun vs H Q E h => ?_) (fun cdv A outer s H vs Q E hr h => ?_)
  · obtain ⟨x, dx, sg, ya, yd, yb, a, d, b, l, m, W, n, p, rfl, _⟩ := h
    rfl
  · obtain ⟨x, dx, sg, ya, yd, yb, a, d, b, l, m, W, n, p, rfl, hx, hsg, ⟨dya, hya⟩, ⟨dyd, hyd⟩, ⟨dyb, hyb⟩, ha, hb, hl, hm, hM, ok, ord, hn, hp, q⟩ := h
    have hu := hu_of hr
    refine ⟨_, (pss_cons (ps_expr (pe_call GC (hr.mono (by decide)) (by rfl) DC.m DC.F.kp DC.b .nil pass0 (pa_cons (pv 1) pa_nil)))
    (pss_cons (ps_asg (pe_tup (pa_cons (pv 2) (pa_cons (pv 3) (pa_cons (pv 4) pa_nil)))) (pg_tup rfl (pgs_cons (pg_name (i := 6) scTInit.nd rfl (Or.inl rfl)) (pgs_cons (pg_name (i := 7) scTInit.nd rfl (Or.inr rfl)) (pgs_cons (pg_name (i := 8) scTInit.nd rfl (Or.inl rfl)) pgs_nil)))))
    (pss_cons (ps_if (PW.pt (pw_and (pt_val (pe_callB call_isi (by rfl) T.isi (by decide +kernel) (pa_cons (pv 2) (pa_cons (pe_glob (v := .ref CM) (by rfl) W0.gM rfl) pa_nil)))) (pw_and (pt_val (pe_callB call_isi (by rfl) T.isi (by decide +kernel) (pa_cons (pv 3) (pa_cons (pe_glob (v := .ref CM) (by rfl) W0.gM rfl) pa_nil)))) (pw_and1 (pt_val (pe_callB call_isi (by rfl) T.isi (by decide +kernel) (pa_cons (pv 4) (pa_cons (pe_glob (v := .ref CM) (by rfl) W0.gM rfl) pa_nil)))))))) (pss_one (ps_asg (pe_tup (pa_cons (pe_fld (pv 2) rfl) (pa_cons (pe_fld (pv 3) rfl) (pa_cons (pe_fld (pv 4) rfl) pa_nil)))) (pg_tup rfl (pgs_cons (pg_name (i := 6) scTInit.nd rfl (Or.inl rfl)) (pgs_cons (pg_name (i := 7) scTInit.nd rfl (Or.inr rfl)) (pgs_cons (pg_name (i := 8) scTInit.nd rfl (Or.inl rfl)) pgs_nil)))))) (pss_one (ps_expr (pe_call GP (hr.mono (by decide)) (by rfl) DP.m DP.F.kp DP.b .nil pass0 (pa_cons (pv 1) (pa_cons (pv 2) (pa_cons (pv 3) (pa_cons (pv 4) pa_nil))))))))
    (pss_cons (ps_expr (pe_call GS (hr.mono (by decide)) (by rfl) DS.m DS.F.kp DS.b .nil pass0 (pa_cons (pv 5) pa_nil)))
    (pss_cons (ps_fld (pv 0) (pv 1) rfl)
    (pss_cons (ps_fld (pv 0) (pe_call GR (hr.mono (by decide)) (by rfl) DR.m DR.F.kp DR.b .nil pass0 (pa_cons (pv 6) (pa_cons (pv 5) pa_nil))) rfl)
    (pss_cons (ps_fld (pv 0) (pe_dc (own := [("letter", 9)]) (g := (gName 9)) (tt := tYes) (tk := tVar 9) (tv := tCall spRSq [] E0 (tCons (tDGet (tVar 7) (tVar 9)) (tCons (tVar 5) tNil))) rfl scTInit.nd (pi_str (pv 1)) (blkOk_by (own := [("letter", 9)]) (N := nTInit) (sc := defScope sTInit) (by decide +kernel)) (fun _ _ _ _ _ => (pg_name (i := 9) scTInit.nd rfl (Or.inl rfl))) (fun _ _ _ _ _ => pts_nil) (fun _ _ _ _ _ => (pv 9)) (fun _ _ _ _ _ => (pe_call GQ (hr.mono (by decide)) (by rfl) DQ.m DQ.F.kp DQ.b .nil pass0 (pa_cons (pe_dget hu (pv 7) (pv 9) (fun _ _ => rfl)) (pa_cons (pv 5) pa_nil))))) rfl)
    (pss_cons (ps_fld (pv 0) (pe_call GR (hr.mono (by decide)) (by rfl) DR.m DR.F.kp DR.b .nil pass0 (pa_cons (pv 8) (pa_cons (pv 5) pa_nil))) rfl)
    (pss_one (ps_fld (pv 0) (pv 5) rfl)))))))))), ?_⟩
    refine ⟨_, rfl, sg, rfl, hsg, fun H1 s1 => ?_⟩
    refine ⟨_, rfl, _, rfl, _, rfl, (show 3 ≤ sizeLine by decide), fun D nD => ⟨D, _, rfl, SqT.of upd_same, rfl, ?_⟩⟩
    have s2 : Same H (upd H1 D (.tup [V.ref ya, V.ref yd, V.ref yb])) := s1.trans (same_upd nD)
    generalize upd H1 D (.tup [V.ref ya, V.ref yd, V.ref yb]) = H2 at s2 ⊢
    refine ⟨_, _, rfl, _, _, rfl, _, _, rfl, rfl, ?_⟩
    refine ⟨_, rfl, _, _, _, _, _, rfl, .own CM, W0.tyM _ _ _ _ (s2 _ _ hya), W0.iMM, true, rfl, iteT ?_⟩
    refine ⟨_, rfl, _, _, _, _, _, rfl, .own CM, W0.tyM _ _ _ _ (s2 _ _ hyd), W0.iMM, true, rfl, iteT ?_⟩
    refine ⟨_, rfl, _, _, _, _, _, rfl, .own CM, W0.tyM _ _ _ _ (s2 _ _ hyb), W0.iMM, true, rfl, iteT ?_⟩
    refine ⟨_, rfl, ya, CM, dya, _, _, rfl, s2 _ _ hya, W0.clM, W0.nC, rfl, _, rfl, yd, CM, dyd, _, _, rfl, s2 _ _ hyd, W0.clM, W0.nC, rfl, _, rfl, yb, CM, dyb, _, _, rfl, s2 _ _ hyb, W0.clM, W0.nC, rfl, (show 3 ≤ sizeLine by decide), fun D3 nD3 => ⟨D3, _, rfl, SqT.of upd_same, rfl, ?_⟩⟩
    refine ⟨_, _, rfl, _, _, rfl, _, _, rfl, rfl, ?_⟩
    have s13 : Same H (upd H2 D3 (.tup [V.ref a, V.ref d, V.ref b])) := s2.trans (same_upd nD3)
    generalize upd H2 D3 (.tup [V.ref a, V.ref d, V.ref b]) = H3 at s13 ⊢
    refine ⟨_, rfl, p, rfl, hp, ?_⟩
    have hx3 := s13 _ _ hx
    refine ⟨_, rfl, _, rfl, x, CT, dx, [], rfl, hx3, W0.clT, W0.nL, by decide, ?_⟩
    have kx := KeepT.upd (o := .ins CT dx (putF "_letters" (V.str sg) [])) (NoT.ins hx3)
    have b3 : But x H (upd H3 x (.ins CT dx (putF "_letters" (V.str sg) []))) := fun b o n e => by
      rw [upd_ne n]
      exact s13 _ _ e
    have e3 : (upd H3 x (.ins CT dx (putF "_letters" (V.str sg) []))) x = some (.ins CT dx [("_letters", .str sg)]) := upd_same
    obtain ⟨kvs, ed, hw⟩ := id hM
    have ed3 : (upd H3 x (.ins CT dx (putF "_letters" (V.str sg) []))) d = some (.dK kvs) := by
      rw [upd_ne (ne_of (s13 _ _ ed) hx3 (by intro z; cases z))]
      exact s13 _ _ ed
    have hw3 : MvsAt (upd H3 x (.ins CT dx (putF "_letters" (V.str sg) []))) kvs W := (hw.keep (.same s13)).keep kx
    have ha3 : RowI (upd H3 x (.ins CT dx (putF "_letters" (V.str sg) []))) a l := kx _ _ (s13 _ _ ha)
    have hb3 : RowI (upd H3 x (.ins CT dx (putF "_letters" (V.str sg) []))) b m := kx _ _ (s13 _ _ hb)
    generalize upd H3 x (.ins CT dx (putF "_letters" (V.str sg) [])) = H4 at b3 e3 ed3 hw3 ha3 hb3 ⊢
    refine ⟨_, rfl, _, rfl, a, l, p, rfl, ha3, okPr.ok hp, by omega, fun ea H5 s5 r5 => ⟨_, rfl, x, CT, dx, _, rfl, s5 _ _ e3, W0.clT, W0.nF, (by show 1 < 1000; decide), ?_⟩⟩
    have hx5 := s5 _ _ e3
    have k5 := KeepT.upd (o := .ins CT dx (putF "_first" (V.ref ea) [("_letters", .str sg)])) (NoT.ins hx5)
    have b5 : But x H (upd H5 x (.ins CT dx (putF "_first" (V.ref ea) [("_letters", .str sg)]))) := fun b o n e => by
      rw [upd_ne n]
      exact s5 _ _ (b3 _ _ n e)
    have e6 : (upd H5 x (.ins CT dx (putF "_first" (V.ref ea) [("_letters", .str sg)]))) x = some (.ins CT dx [("_letters", .str sg), ("_first", .ref ea)]) := upd_same
    have ed6 : (upd H5 x (.ins CT dx (putF "_first" (V.ref ea) [("_letters", .str sg)]))) d = some (.dK kvs) := by
      rw [upd_ne (ne_of (s5 _ _ ed3) hx5 (by intro z; cases z))]
      exact s5 _ _ ed3
    have hw6 : MvsAt (upd H5 x (.ins CT dx (putF "_first" (V.ref ea) [("_letters", .str sg)]))) kvs W := (hw3.keep (.same s5)).keep k5
    have ra6 : RowI (upd H5 x (.ins CT dx (putF "_first" (V.ref ea) [("_letters", .str sg)]))) ea (l.map (Ty.rest p)) := k5 _ _ r5
    have hb6 : RowI (upd H5 x (.ins CT dx (putF "_first" (V.ref ea) [("_letters", .str sg)]))) b m := k5 _ _ (s5 _ _ hb3)
    generalize upd H5 x (.ins CT dx (putF "_first" (V.ref ea) [("_letters", .str sg)])) = H6 at b5 e6 ed6 hw6 ra6 hb6 ⊢
    refine ⟨_, rfl, sg, rfl, fun D nD => ?_⟩
    have lW : W.length = (cds sg).length := by rw [← ord, List.length_map]
    refine Lc.dc_text (fun i H7 => Same H6 H7 ∧ ∃ kvs', H7 D = some (.dK kvs') ∧ MvsAt H7 kvs' ((W.map fun w => (w.1, w.2.map fun r => r.map (Ty.rest p))).take i)) ⟨same_upd nD, [], upd_same, .nil⟩ ?_ ?_
    · rintro i c H7 hc ⟨s7, kvs', e7, w7⟩
      have hi := (List.getElem?_eq_some_iff.mp hc).1
      have hj : W[i]? = some W[i] := List.getElem?_eq_getElem (by omega)
      have hm0 : (c, W[i].2) ∈ W := by
        have e1 : W[i].1 = c := by
          have : (W.map (·.1))[i]? = some c := by rw [ord]; exact hc
          rw [List.getElem?_map, hj] at this
          exact Option.some.inj this
        rw [← e1]
        exact List.getElem_mem _
      have e1 : W[i].1 = c := by
        have : (W.map (·.1))[i]? = some c := by rw [ord]; exact hc
        rw [List.getElem?_map, hj] at this
        exact Option.some.inj this
      generalize eM : W[i].2 = M at hm0
      have ei : W[i]? = some (c, M) := by rw [hj, ← e1, ← eM]
      obtain ⟨p0, g0, r0⟩ := mvs_get (hw6.keep (.same s7)) ok.nd hm0
      have G1 : DGet H7 d (.str (one c)) (some (.ref p0)) := by
        have := DGet.k (k := (Sum.inr (one c) : Key)) (s7 _ _ ed6)
        rw [g0] at this
        exact this
      have lw : kvs'.length = i := by
        rw [mvs_len w7, List.length_take, List.length_map]
        omega
      have nk : c ∉ ((W.map fun w => ((w.1, w.2.map fun r => r.map (Ty.rest p)) : Mv)).take i).map (·.1) := by
        rw [List.map_take, List.map_map, show (W.map ((fun w : Mv => w.1) ∘ fun w => ((w.1, w.2.map fun r => r.map (Ty.rest p)) : Mv))) = cds sg from ord]
        intro hm
        obtain ⟨j, hj⟩ := List.mem_iff_getElem?.mp hm
        have hj1 := (List.getElem?_eq_some_iff.mp hj).1
        rw [List.length_take] at hj1
        rw [List.getElem?_take, if_pos (by omega)] at hj
        have := (List.getElem?_inj (by omega) (by rw [← ord]; exact ok.nd : (cds sg).Nodup)).mp (hj.trans hc.symm)
        omega
      have sq0 := ok.sq _ hm0
      refine ⟨rfl, iteT (B := False) ?_⟩
      refine ⟨_, rfl, _, rfl, _, rfl, d, _, rfl, G1, _, rfl, p0, M, p, rfl, r0, okPr.ok hp, (by rw [sq0.len]; omega), (fun r hr => by rw [sq0.row r hr]; omega), fun e H8 s8 r8 => ?_⟩
      have e8 := s8 _ _ e7
      refine ⟨kvs', Sum.inr (one c), rfl, e8, Nat.lt_of_le_of_lt (show kvs'.length ≤ 3 by have := ok.few; omega) (by decide), same_put (s7.trans s8) nD, kvs' ++ [(Sum.inr (one c), .ref e)], ?_, ?_⟩
      · rw [upd_same, putK_new (mvs_none w7 nk)]
      · rw [List.take_add_one, List.getElem?_map, ei]
        exact each_app ((w7.keep (.same s8)).keep (KeepT.upd (.dK e8))) (.cons ⟨e, rfl, r8.keep (KeepT.upd (.dK e8))⟩ .nil)
    · rintro H7 ⟨s7, kvs', e7, w7⟩
      rw [List.take_of_length_le (by rw [List.length_map]; omega)] at w7
      have hx7 := s7 _ _ e6
      refine ⟨_, rfl, x, CT, dx, _, rfl, hx7, W0.clT, W0.nM, (by show 2 < 1000; decide), ?_⟩
      have nDx : D ≠ x := fun e => by rw [e, e6] at nD; cases nD
      have k1 := KeepT.upd (o := .ins CT dx (putF "_moves" (V.ref D) [("_letters", .str sg), ("_first", .ref ea)])) (NoT.ins hx7)
      refine ⟨_, rfl, _, rfl, b, m, p, rfl, k1 _ _ (s7 _ _ hb6), okPr.ok hp, by omega, fun eb H9 s9 r9 => ⟨_, rfl, x, CT, dx, _, rfl, s9 _ _ upd_same, W0.clT, W0.nZ, (by show 3 < 1000; decide), ?_⟩⟩
      have hx9 := s9 _ _ (upd_same (H := H7) (a := x) (o := .ins CT dx (putF "_moves" (V.ref D) [("_letters", .str sg), ("_first", .ref ea)])))
      refine ⟨_, rfl, _, rfl, x, CT, dx, _, rfl, upd_same, W0.clT, W0.nP, (by show 4 < 1000; decide), ?_⟩
      have k2 := KeepT.upd (o := .ins CT dx (putF "_last" (V.ref eb) [("_letters", .str sg), ("_first", .ref ea), ("_moves", .ref D)])) (NoT.ins hx9)
      have k3 := KeepT.upd (o := .ins CT dx (tf sg ea D eb p)) (NoT.ins (upd_same (H := H9) (a := x) (o := .ins CT dx (putF "_last" (V.ref eb) [("_letters", .str sg), ("_first", .ref ea), ("_moves", .ref D)]))))
      refine q _ (fun b o n e => ?_) ⟨dx, ea, D, eb, upd_same, k3 _ _ (k2 _ _ (s9 _ _ (k1 _ _ (s7 _ _ ra6)))), ⟨kvs', ?_, (((w7.keep k1).keep (.same s9)).keep k2).keep k3⟩, k3 _ _ (k2 _ _ r9), ⟨hsg, ?_, ?_, ?_, ?_, hp⟩⟩
      · rw [upd_ne n, upd_ne n]
        refine s9 _ _ ?_
        rw [upd_ne n]
        exact s7 _ _ (b5 _ _ n e)
      · rw [upd_ne nDx, upd_ne nDx]
        refine s9 _ _ ?_
        rw [upd_ne nDx]
        exact e7
      · rw [List.map_map]
        exact ord
      · rw [List.length_map]
        exact hl
      · rw [List.length_map]
        exact hm
      · intro w hw
        obtain ⟨w0, h0, rfl⟩ := List.mem_map.mp hw
        have z := ok.sq w0 h0
        refine ⟨by rw [List.length_map]; exact z.len, fun r hr => ?_⟩
        obtain ⟨r0, h1, rfl⟩ := List.mem_map.mp hr
        rw [List.length_map]
        exact z.row r0 h1
end
end K16

set_option Elab.async false
set_option linter.all false
set_option maxRecDepth 100000
set_option maxHeartbeats 6400000
namespace K16
open PySem L2 Tx Tg Tm Da RZ
abbrev sTAt : Stmt := inClass sTally 6
abbrev sTTimes : Stmt := inClass sTally 7
abbrev sTBehind : Stmt := inClass sTally 8
abbrev sTAhead : Stmt := inClass sTally 9
abbrev sTBack : Stmt := inClass sTally 10
abbrev sTMod : Stmt := inClass sTally 11
abbrev sTEq : Stmt := inClass sTally 13
abbrev sTAdd : Stmt := inClass sTally 15
abbrev sTSub : Stmt := inClass sTally 16
abbrev sTMul : Stmt := inClass sTally 17
abbrev sTJoined : Stmt := inClass sTally 18
abbrev sTWith : Stmt := inClass sTally 19
abbrev sTOper : Stmt := inClass sTally 20
abbrev psTI : List Str := ["self", "letters", "first", "moves", "last", "prime"]
abbrev app2 {α : Type} (us ws : List α) : List α := us ++ ws
/-- the two classes, as they are called -/
structure MkT (P : Program) (w : World) (K : PySem.W.Frag) (mg : Str → Option Value) (base : Heap) (CM CT fM fT : Addr) (dM dT : FuncData) : Prop where
  W : WT K mg CM CT
  MM : Mk K CM fM
  gM : FnOk P w K mg base CX0 1 fM dM ["self", "content"] (spMadeInit CM)
  bM : Binds K dM ["self", "content"] []
  MT : Mk K CT fT
  gT : FnOk P w K mg base CX0 6 fT dT psTI (spTInit CT)
  gN : FnOk P w K mg base CX0 6 fT dT psTI (spTInitM CM CT)
  kT : KBn K dT psTI 5 ["prime"] app2 app2
/-- a method of a class -/
structure MthD (P : Program) (w : World) (K : PySem.W.Frag) (mg : Str → Option Value) (base : Heap) (C : Addr) (k : Nat) (m : Str) (ps : List Str) (sp : Sp) (f : Addr) (fd : FuncData) : Prop where
  g : FnOk P w K mg base CX0 k f fd ps sp
  b : Binds K fd ps []
  m : Meth K C m f
abbrev resW (p : Option Int) (W : List Mv) : List Mv := W.map fun w => (w.1, w.2.map fun r => r.map (Ty.rest p))
/-- a tally of the same letters and prime -/
abbrev mkTl (t : Tl) (l : List Int) (W : List Mv) (m : List Int) (n : Nat) : Tl := ⟨t.sg, l.map (Ty.rest t.p), resW t.p W, m.map (Ty.rest t.p), t.p, n⟩
theorem same_two {H : Hp} {x dx : Addr} {o o2 : HO} (nx : H x = none) (ndx : H dx = none) : Same H (upd (upd H dx o) x o2) := fun b o e => by
  rw [upd_ne (ne_of_none e nx), upd_ne (ne_of_none e ndx)]
  exact e
theorem same_made {H : Hp} {x dx : Addr} {o o2 o3 : HO} (nx : H x = none) (ndx : H dx = none) : Same H (upd (upd (upd H dx o) x o2) x o3) := fun b o e => by
  rw [upd_ne (ne_of_none e nx), upd_ne (ne_of_none e nx), upd_ne (ne_of_none e ndx)]
  exact e
theorem MdAt.same {CM : Addr} {H H' : Hp} {y a : Addr} (s : Same H H') (h : MdAt CM H y a) : MdAt CM H' y a := let ⟨d, e⟩ := h; ⟨d, s _ _ e⟩
theorem madeinit_new {CM : Addr} {H : Hp} {x dx : Addr} {a : Addr} {QQ : VK} {E : XK} (nx : H x = none) (ndx : H dx = none) (q : ∀ H', Same H H' → MdAt CM H' x a → QQ .non H') : spMadeInit CM [.ref x, .ref a] (upd (upd H dx (.own x)) x (.ins CM dx [])) QQ E :=
  ⟨x, dx, _, rfl, upd_same, q _ (same_made nx ndx) ⟨dx, upd_same⟩⟩
theorem tinitM_new {CM CT : Addr} {H : Hp} {x dx : Addr} {sg : Str} {ya yd yb a d b : Addr} {l m : List Int} {W : List Mv} {n : Nat} {p : Option Int} {QQ : VK} {E : XK} (nx : H x = none) (ndx : H dx = none) (hsg : Signs sg)
    (hya : MdAt CM H ya a) (hyd : MdAt CM H yd d) (hyb : MdAt CM H yb b) (ha : RowI H a l) (hb : RowI H b m) (hl : l.length = n) (hm : m.length = n) (hM : MovAt H d W) (ok : okN n W) (ord : W.map (·.1) = cds sg) (hn : n ≤ 60) (hp : okPr p)
    (q : ∀ H', Same H H' → TlAt CT H' x ⟨sg, l.map (Ty.rest p), resW p W, m.map (Ty.rest p), p, n⟩ → QQ .non H') : spTInitM CM CT [.ref x, .str sg, .ref ya, .ref yd, .ref yb, pV p] (upd (upd H dx (.own x)) x (.ins CT dx [])) QQ E := by
  have sX : Same H (upd (upd H dx (.own x)) x (.ins CT dx [])) := same_two nx ndx
  exact ⟨x, dx, sg, ya, yd, yb, a, d, b, l, m, W, n, p, rfl, upd_same, hsg, hya.same sX, hyd.same sX, hyb.same sX, sX _ _ ha, sX _ _ hb, hl, hm, hM.same sX, ok, ord, hn, hp, fun H' bb h => q H' (fun c o e => bb _ _ (ne_of_none e nx) (sX _ _ e)) h⟩
theorem okT.mkN {t : Tl} (h : okT t) (hs : (cds t.sg).Nodup) (h3 : (cds t.sg).length ≤ 3) : okN t.n t.W := ⟨by rw [h.ord]; exact hs, h.sq, by
  have : (t.W.map (·.1)).length = (cds t.sg).length := by rw [h.ord]
  rw [List.length_map] at this
  omega⟩
theorem sg_nodup16 {sg : Str} (h : Signs sg) : (cds sg).Nodup := by
  rcases h with rfl | rfl | rfl | rfl | rfl <;> decide +kernel
theorem sg_three {sg : Str} (h : Signs sg) : (cds sg).length ≤ 3 := by
  rcases h with rfl | rfl | rfl | rfl | rfl <;> decide +kernel
theorem okT.N {t : Tl} (h : okT t) : okN t.n t.W := h.mkN (sg_nodup16 h.sg) (sg_three h.sg)
theorem ne_if {v : V} {A B : Prop} (h : B) : if (!decide (v = v)) = true then A else B := by
  rw [decide_eq_true rfl]
  exact h
section
variable {P : Program} {w : World} {K : PySem.W.Frag} {mg : Str → Option Value} {base : Heap} {CM CT fM fT : Addr} {dM dT : FuncData}
def spWith (CT : Addr) : Sp := fun vs H Q _ => ∃ (x a d b : Addr) (t : Tl) (l m : List Int) (W : List Mv) (n : Nat), vs = [.ref x, .ref a, .ref d, .ref b] ∧ TlAt CT H x t ∧ RowI H a l ∧ RowI H b m ∧ l.length = n ∧ m.length = n ∧ MovAt H d W ∧ okN n W ∧ W.map (·.1) = cds t.sg ∧ n ≤ 60 ∧
  ∀ y H', Same H H' → TlAt CT H' y (mkTl t l W m n) → Q (.ref y) H'
abbrev nTWith : List Str := ["self", "first", "moves", "last"]
theorem scTWith : FnScope nTWith ["self", "first", "moves", "last"] (defScope sTWith) := ⟨rfl, rfl, rfl, by decide +kernel, rfl, by decide +kernel, by decide +kernel⟩
theorem ok_with {f : Addr} {fd : FuncData} (F : Fun K "_with" "Tally._with" sTWith f fd) (Z : MkT P w K mg base CM CT fM fT dM dT) : FnOk P w K mg base CX0 8 f fd ["self", "first", "moves", "last"] (spWith CT) := by
  refine F.ok scTWith (fun vs H Q E h => ?_) (fun cdv A outer s H vs Q E hr h => ?_)
  · obtain ⟨x, a, d, b, t, l, m, W, n, rfl, _⟩ := h
    rfl
  · obtain ⟨x, a, d, b, t, l, m, W, n, rfl, hx, ha, hb, hl, hm, hM, ok, ord, hn, q⟩ := h
    obtain ⟨dx, _, _, _, ex, _, _, _, okt⟩ := id hx
    refine ⟨_, (pss_one (ps_ret (pe_makeK Z.MT Z.gN (hr.mono (by decide)) (by rfl) Z.W.gT Z.kT pass0 (pa_cons (pe_fld (pv 0) rfl) (pa_cons (pe_make Z.MM Z.gM (hr.mono (by decide)) (by rfl) Z.W.gM Z.bM .nil pass0 (pa_cons (pv 1) pa_nil)) (pa_cons (pe_make Z.MM Z.gM (hr.mono (by decide)) (by rfl) Z.W.gM Z.bM .nil pass0 (pa_cons (pv 2) pa_nil)) (pa_cons (pe_make Z.MM Z.gM (hr.mono (by decide)) (by rfl) Z.W.gM Z.bM .nil pass0 (pa_cons (pv 3) pa_nil)) pa_nil)))) (pk_cons (pe_fld (pv 0) rfl) pk_nil)))), ?_⟩
    refine ⟨_, rfl, x, CT, dx, _, _, rfl, ex, Z.W.clT, Z.W.nL, rfl, ?_⟩
    refine ⟨_, rfl, fun y1 d1 ny1 nd1 ne1 => madeinit_new ny1 nd1 fun H1 s1 m1 => ⟨rfl, ?_⟩⟩
    refine ⟨_, rfl, fun y2 d2 ny2 nd2 ne2 => madeinit_new ny2 nd2 fun H2 s2 m2 => ⟨rfl, ?_⟩⟩
    refine ⟨_, rfl, fun y3 d3 ny3 nd3 ne3 => madeinit_new ny3 nd3 fun H3 s3 m3 => ⟨rfl, ?_⟩⟩
    have s13 := (s1.trans s2).trans s3
    refine ⟨_, rfl, x, CT, dx, _, _, rfl, s13 _ _ ex, Z.W.clT, Z.W.nP, rfl, rfl, rfl, fun y dy ny ndy ney => ?_⟩
    exact tinitM_new ny ndy okt.sg (m1.same (s2.trans s3)) (m2.same s3) m3 (s13 _ _ ha) (s13 _ _ hb) hl hm (hM.same s13) ok ord hn okt.pr fun H' s' h => ⟨rfl, q y H' (s13.trans s') h⟩
def spOper (CT : Addr) : Sp := fun vs H Q _ => ∃ (x y : Addr) (t s : Tl), vs = [.ref x, .ref y] ∧ TlAt CT H x t ∧ TlAt CT H y s ∧ s.sg = t.sg ∧ s.p = t.p ∧ Q .non H
theorem scTOper : FnScope ["self", "other"] ["self", "other"] (defScope sTOper) := ⟨rfl, rfl, rfl, by decide +kernel, rfl, by decide +kernel, by decide +kernel⟩
theorem ok_oper {f : Addr} {fd : FuncData} (F : Fun K "_check_operand" "Tally._check_operand" sTOper f fd) (T : Txt K mg) (W0 : WT K mg CM CT) : FnOk P w K mg base CX0 1 f fd ["self", "other"] (spOper CT) := by
  refine F.ok scTOper (fun vs H Q E h => ?_) (fun cdv A outer s H vs Q E hr h => ?_)
  · obtain ⟨x, y, t, s, rfl, _⟩ := h
    rfl
  · obtain ⟨x, y, t, s, rfl, hx, hy, e1, e2, q⟩ := h
    obtain ⟨dx, _, _, _, ex, _⟩ := id hx
    obtain ⟨dy, _, _, _, ey, _⟩ := id hy
    rw [e1, e2] at ey
    refine ⟨_, (pss_one (ps_if (PW.pt (pw_or (pt_not (pt_val (pe_callB call_isi (by rfl) T.isi (by decide +kernel) (pa_cons (pv 1) (pa_cons (pe_glob (v := .ref CT) (by rfl) W0.gT rfl) pa_nil))))) (pw_or (pt_cmpR op_ne (pe_fld (pv 1) rfl) (pe_fld (pv 0) rfl) (nomark _)) (pw_or1 (pt_cmpR op_ne (pe_fld (pv 1) rfl) (pe_fld (pv 0) rfl) (nomark _)))))) (pss_one ps_never) pss_nil)), ?_⟩
    refine ⟨_, rfl, _, _, _, _, _, rfl, .own CT, W0.tyT _ _ _ _ ey, W0.iTT, true, rfl, iteF ?_⟩
    refine ⟨_, rfl, y, CT, dy, _, _, rfl, ey, W0.clT, W0.nL, rfl, _, rfl, x, CT, dx, _, _, rfl, ex, W0.clT, W0.nL, rfl, rfl, _, rfl, ne_if ?_⟩
    refine ⟨_, rfl, y, CT, dy, _, _, rfl, ey, W0.clT, W0.nP, rfl, _, rfl, x, CT, dx, _, _, rfl, ex, W0.clT, W0.nP, rfl, ?_, _, rfl, ne_if q⟩
    cases t.p <;> rfl
variable {fI fH fL fC fX f0 fD fW fDi fTu fRR fBe fAh : Addr} {dI dH dL dC dX d0 dD dW dDi dTu dRR dBe dAh : FuncData}
/-- a row led by a text -/
abbrev ledU (t : Tl) (z : Str) : List Int := (cds z).foldl (stepR t.p t.n t.W) t.u
abbrev numT (t : Tl) (z : Str) : Int := Ty.rest t.p (Ty.dotL (ledU t z) t.v)
def spAt (CT : Addr) : Sp := fun vs H Q _ => ∃ (x : Addr) (t : Tl) (z : Str), vs = [.ref x, .str z] ∧ TlAt CT H x t ∧ okM t.n t.W ∧ t.n ≤ 9 ∧ Few t.v ∧ Over t.sg z ∧ z.length ≤ 100 ∧ ∀ H', Same H H' → Q (.int (numT t z)) H'
abbrev nTAt : List Str := ["self", "text", "row"]
theorem scTAt : FnScope nTAt ["self", "text"] (defScope sTAt) := ⟨rfl, rfl, rfl, by decide +kernel, rfl, by decide +kernel, by decide +kernel⟩
theorem stepR_len {p : Option Int} {n : Nat} {W : List Mv} {r : List Int} {c : Nat} : (stepR p n W r c).length = n := by
  unfold stepR Ty.vmL Ty.turned
  rw [List.length_map, List.length_map, List.length_map, List.length_range]
theorem foldR_len {p : Option Int} {n : Nat} {W : List Mv} : ∀ {l : List Nat} {r : List Int}, r.length = n → (l.foldl (stepR p n W) r).length = n
  | [], _, h => h
  | c :: l, r, _ => foldR_len (l := l) stepR_len
/-- what the numbers of a tally are reckoned by -/
structure LowT (K : PySem.W.Frag) (mg : Str → Option Value) (fI fH fL fC fTx fX f0 fD fTu fRR fBe fAh : Addr) (dI dH dL dC dTx dX d0 dD dTu dRR dBe dAh : FuncData) : Prop where
  L : Low K mg fI fH fL fC fTx dI dH dL dC dTx
  DX : Df K mg "check_text" sCText ["letters", "value"] fX dX
  D0 : Df K mg "rest_of" sRest ["number", "prime"] f0 d0
  DD : Df K mg "dot" sDot ["one", "other"] fD dD
  DT : Df K mg "turned_square" sTurned ["square"] fTu dTu
  DR : Df K mg "rest_row" sRestRow ["row", "prime"] fRR dRR
  DB : Df K mg "row_behind" sBehindR ["row", "moves", "text", "prime"] fBe dBe
  DA : Df K mg "column_ahead" sAheadC ["column", "moves", "text", "prime"] fAh dAh
variable {fTx : Addr} {dTx : FuncData}
theorem ok_at {f : Addr} {fd : FuncData} (F : Fun K "at" "Tally.at" sTAt f fd) (T : Txt K mg) (W0 : WT K mg CM CT) (B : LowT K mg fI fH fL fC fTx fX f0 fD fTu fRR fBe fAh dI dH dL dC dTx dX d0 dD dTu dRR dBe dAh) : FnOk P w K mg base CX0 6 f fd ["self", "text"] (spAt CT) := by
  have GX := ok_ctext (P := P) (w := w) (base := base) B.DX.F T B.L
  have GB := ok_behindR (P := P) (w := w) (base := base) B.DB.F T B.DT B.D0 B.DR B.DD
  have GD := ok_dot (P := P) (w := w) (base := base) B.DD.F T
  have G0 := ok_rest (P := P) (w := w) (mg := mg) (base := base) B.D0.F
  refine F.ok scTAt (fun vs H Q E h => ?_) (fun cdv A outer s H vs Q E hr h => ?_)
  · obtain ⟨x, t, z, rfl, _⟩ := h
    rfl
  · obtain ⟨x, t, z, rfl, hx, ok, hn, few, hz, lz, q⟩ := h
    obtain ⟨dx, a, d, b, ex, ha, hM, hb, okt⟩ := id hx
    refine ⟨_, (pss_cons (ps_expr (pe_call GX (hr.mono (by decide)) (by rfl) B.DX.m B.DX.F.kp B.DX.b .nil pass0 (pa_cons (pe_fld (pv 0) rfl) (pa_cons (pv 1) pa_nil))))
    (pss_cons (ps_set (i := 2) scTAt.nd rfl (Or.inl rfl) (pe_call GB (hr.mono (by decide)) (by rfl) B.DB.m B.DB.F.kp B.DB.b .nil pass0 (pa_cons (pe_fld (pv 0) rfl) (pa_cons (pe_fld (pv 0) rfl) (pa_cons (pv 1) (pa_cons (pe_fld (pv 0) rfl) pa_nil))))))
    (pss_one (ps_ret (pe_call G0 (hr.mono (by decide)) (by rfl) B.D0.m B.D0.F.kp B.D0.b .nil pass0 (pa_cons (pe_call GD (hr.mono (by decide)) (by rfl) B.DD.m B.DD.F.kp B.DD.b .nil pass0 (pa_cons (pv 2) (pa_cons (pe_fld (pv 0) rfl) pa_nil))) (pa_cons (pe_fld (pv 0) rfl) pa_nil))))))), ?_⟩
    refine ⟨_, rfl, x, CT, dx, _, _, rfl, ex, W0.clT, W0.nL, rfl, _, rfl, t.sg, z, rfl, okt.sg, hz, lz, fun H1 s1 => ?_⟩
    have ex1 := s1 _ _ ex
    refine ⟨_, rfl, x, CT, dx, _, _, rfl, ex1, W0.clT, W0.nF, rfl, _, rfl, x, CT, dx, _, _, rfl, ex1, W0.clT, W0.nM, rfl, _, rfl, _, rfl, x, CT, dx, _, _, rfl, ex1, W0.clT, W0.nP, rfl, ?_⟩
    refine ⟨a, d, t.u, t.W, z, t.p, t.n, rfl, s1 _ _ ha, okt.lu, hn, hM.same s1, ok, (fun c hc => by rw [okt.ord]; exact hz c hc), okPr.ok okt.pr, fun r H2 s2 hr2 => ?_⟩
    have s12 := s1.trans s2
    have ex2 := s12 _ _ ex
    refine ⟨_, rfl, _, rfl, x, CT, dx, _, _, rfl, ex2, W0.clT, W0.nZ, rfl, r, b, _, t.v, rfl, hr2, s12 _ _ hb, ?_, ?_, .inr few, fun H3 s3 => ?_⟩
    · rw [foldR_len okt.lu, okt.lv]
    · rw [foldR_len okt.lu]
      omega
    · exact ⟨_, rfl, x, CT, dx, _, _, rfl, s3 _ _ ex2, W0.clT, W0.nP, rfl, _, t.p, rfl, okPr.ok okt.pr, q _ (s12.trans s3)⟩
variable {fWi fSc fCI : Addr} {dWi dSc dCI : FuncData}
abbrev WiD (P : Program) (w : World) (K : PySem.W.Frag) (mg : Str → Option Value) (base : Heap) (CT f : Addr) (d : FuncData) : Prop := MthD P w K mg base CT 8 "_with" ["self", "first", "moves", "last"] (spWith CT) f d
def spTimes (CT : Addr) : Sp := fun vs H Q _ => ∃ (x : Addr) (t : Tl) (k : Int), vs = [.ref x, .int k] ∧ TlAt CT H x t ∧ t.n ≤ 9 ∧ Few t.u ∧ isInt (.int k) = true ∧ ∀ y H', Same H H' → TlAt CT H' y (mkTl t (t.u.map (k * ·)) t.W t.v t.n) → Q (.ref y) H'
theorem scTTimes : FnScope ["self", "number"] ["self", "number"] (defScope sTTimes) := ⟨rfl, rfl, rfl, by decide +kernel, rfl, by decide +kernel, by decide +kernel⟩
theorem ok_times {f : Addr} {fd : FuncData} (F : Fun K "times" "Tally.times" sTTimes f fd) (T : Txt K mg) (W0 : WT K mg CM CT) (Wi : WiD P w K mg base CT fWi dWi) (DI : Df K mg "is_integer" sInt ["value"] fI dI) (DC : Df K mg "check_integer" sCInt ["value"] fCI dCI) (DS : Df K mg "scaled_row" sScaled ["row", "number"] fSc dSc) : FnOk P w K mg base CX0 9 f fd ["self", "number"] (spTimes CT) := by
  have GC := ok_cint (P := P) (w := w) (base := base) DC.F T DI
  have GS := ok_scaled (P := P) (w := w) (base := base) DS.F T
  refine F.ok scTTimes (fun vs H Q E h => ?_) (fun cdv A outer s H vs Q E hr h => ?_)
  · obtain ⟨x, t, k, rfl, _⟩ := h
    rfl
  · obtain ⟨x, t, k, rfl, hx, hn, few, hk, q⟩ := h
    obtain ⟨dx, a, d, b, ex, ha, hM, hb, okt⟩ := id hx
    refine ⟨_, (pss_cons (ps_expr (pe_call GC (hr.mono (by decide)) (by rfl) DC.m DC.F.kp DC.b .nil pass0 (pa_cons (pv 1) pa_nil)))
    (pss_one (ps_ret (pe_meth (pv 0) W0.clT Wi.m Wi.g (hr.mono (by decide)) Wi.b .nil pass0 (pa_cons (pe_call GS (hr.mono (by decide)) (by rfl) DS.m DS.F.kp DS.b .nil pass0 (pa_cons (pe_fld (pv 0) rfl) (pa_cons (pv 1) pa_nil))) (pa_cons (pe_fld (pv 0) rfl) (pa_cons (pe_fld (pv 0) rfl) pa_nil))))))), ?_⟩
    refine ⟨_, rfl, k, rfl, hk, ?_⟩
    refine ⟨_, rfl, x, dx, _, rfl, ex, rfl, _, rfl, x, CT, dx, _, _, rfl, ex, W0.clT, W0.nF, rfl, _, rfl, a, t.u, k, rfl, ha, by rw [okt.lu]; omega, few, fun r H1 s1 hr1 => ?_⟩
    have ex1 := s1 _ _ ex
    refine ⟨_, rfl, x, CT, dx, _, _, rfl, ex1, W0.clT, W0.nM, rfl, _, rfl, x, CT, dx, _, _, rfl, ex1, W0.clT, W0.nZ, rfl, ?_⟩
    exact ⟨x, r, d, b, t, _, t.v, t.W, t.n, rfl, hx.same s1, hr1, s1 _ _ hb, by rw [List.length_map]; exact okt.lu, okt.lv, hM.same s1, okt.N, okt.ord, by omega, fun y H' s' h => q y H' (s1.trans s') h⟩
def spBehindT (CT : Addr) : Sp := fun vs H Q _ => ∃ (x : Addr) (t : Tl) (z : Str), vs = [.ref x, .str z] ∧ TlAt CT H x t ∧ okM t.n t.W ∧ t.n ≤ 9 ∧ Over t.sg z ∧ z.length ≤ 100 ∧ ∀ y H', Same H H' → TlAt CT H' y (mkTl t t.u t.W ((cds z).reverse.foldl (stepC t.p t.W) t.v) t.n) → Q (.ref y) H'
theorem scTBehind : FnScope ["self", "text"] ["self", "text"] (defScope sTBehind) := ⟨rfl, rfl, rfl, by decide +kernel, rfl, by decide +kernel, by decide +kernel⟩
theorem find_at {n : Nat} {W : List Mv} (ok : okM n W) {c : Nat} (h : c ∈ W.map (·.1)) : ∃ M, (c, M) ∈ W ∧ W.find? (fun m => decide (m.1 = c)) = some (c, M) := by
  obtain ⟨m, hm, rfl⟩ := List.mem_map.mp h
  exact ⟨m.2, hm, find_of ok.nd hm⟩
theorem stepC_len {p : Option Int} {n : Nat} {W : List Mv} (ok : okM n W) {r : List Int} {c : Nat} (h : c ∈ W.map (·.1)) : (stepC p W r c).length = n := by
  obtain ⟨M, hM, e⟩ := find_at ok h
  unfold stepC
  rw [e, List.length_map, List.length_map]
  exact (ok.sq _ hM).len
theorem foldC_len {p : Option Int} {n : Nat} {W : List Mv} (ok : okM n W) : ∀ {l : List Nat} {r : List Int}, r.length = n → (∀ c ∈ l, c ∈ W.map (·.1)) → (l.foldl (stepC p W) r).length = n
  | [], _, h, _ => h
  | c :: l, r, _, h => foldC_len ok (l := l) (stepC_len ok (h c List.mem_cons_self)) fun x hx => h x (List.mem_cons_of_mem _ hx)
theorem ok_behindT {f : Addr} {fd : FuncData} (F : Fun K "behind" "Tally.behind" sTBehind f fd) (T : Txt K mg) (W0 : WT K mg CM CT) (Wi : WiD P w K mg base CT fWi dWi) (B : LowT K mg fI fH fL fC fTx fX f0 fD fTu fRR fBe fAh dI dH dL dC dTx dX d0 dD dTu dRR dBe dAh) : FnOk P w K mg base CX0 9 f fd ["self", "text"] (spBehindT CT) := by
  have GX := ok_ctext (P := P) (w := w) (base := base) B.DX.F T B.L
  have GA := ok_aheadC (P := P) (w := w) (base := base) B.DA.F T B.D0 B.DR B.DD
  refine F.ok scTBehind (fun vs H Q E h => ?_) (fun cdv A outer s H vs Q E hr h => ?_)
  · obtain ⟨x, t, z, rfl, _⟩ := h
    rfl
  · obtain ⟨x, t, z, rfl, hx, ok, hn, hz, lz, q⟩ := h
    obtain ⟨dx, a, d, b, ex, ha, hM, hb, okt⟩ := id hx
    refine ⟨_, (pss_cons (ps_expr (pe_call GX (hr.mono (by decide)) (by rfl) B.DX.m B.DX.F.kp B.DX.b .nil pass0 (pa_cons (pe_fld (pv 0) rfl) (pa_cons (pv 1) pa_nil))))
    (pss_one (ps_ret (pe_meth (pv 0) W0.clT Wi.m Wi.g (hr.mono (by decide)) Wi.b .nil pass0 (pa_cons (pe_fld (pv 0) rfl) (pa_cons (pe_fld (pv 0) rfl) (pa_cons (pe_call GA (hr.mono (by decide)) (by rfl) B.DA.m B.DA.F.kp B.DA.b .nil pass0 (pa_cons (pe_fld (pv 0) rfl) (pa_cons (pe_fld (pv 0) rfl) (pa_cons (pv 1) (pa_cons (pe_fld (pv 0) rfl) pa_nil))))) pa_nil))))))), ?_⟩
    refine ⟨_, rfl, x, CT, dx, _, _, rfl, ex, W0.clT, W0.nL, rfl, _, rfl, t.sg, z, rfl, okt.sg, hz, lz, fun H1 s1 => ?_⟩
    have ex1 := s1 _ _ ex
    have hz' : ∀ c ∈ cds z, c ∈ t.W.map (·.1) := fun c hc => by rw [okt.ord]; exact hz c hc
    refine ⟨_, rfl, x, dx, _, rfl, ex1, rfl, _, rfl, x, CT, dx, _, _, rfl, ex1, W0.clT, W0.nF, rfl, _, rfl, x, CT, dx, _, _, rfl, ex1, W0.clT, W0.nM, rfl, ?_⟩
    refine ⟨_, rfl, x, CT, dx, _, _, rfl, ex1, W0.clT, W0.nZ, rfl, _, rfl, x, CT, dx, _, _, rfl, ex1, W0.clT, W0.nM, rfl, _, rfl, _, rfl, x, CT, dx, _, _, rfl, ex1, W0.clT, W0.nP, rfl, ?_⟩
    refine ⟨b, d, t.v, t.W, z, t.p, t.n, rfl, s1 _ _ hb, okt.lv, hn, hM.same s1, ok, hz', lz, okPr.ok okt.pr, fun r H2 s2 hr2 => ?_⟩
    have s12 := s1.trans s2
    exact ⟨x, a, d, r, t, t.u, _, t.W, t.n, rfl, hx.same s12, s12 _ _ ha, hr2, okt.lu, foldC_len ok okt.lv (fun c hc => hz' c (List.mem_reverse.mp hc)), hM.same s12, okt.N, okt.ord, by omega, fun y H' s' h => q y H' (s12.trans s') h⟩
def spAheadT (CT : Addr) : Sp := fun vs H Q _ => ∃ (x : Addr) (t : Tl) (z : Str), vs = [.ref x, .str z] ∧ TlAt CT H x t ∧ okM t.n t.W ∧ t.n ≤ 9 ∧ Over t.sg z ∧ z.length ≤ 100 ∧ ∀ y H', Same H H' → TlAt CT H' y (mkTl t (ledU t z) t.W t.v t.n) → Q (.ref y) H'
theorem scTAhead : FnScope ["self", "text"] ["self", "text"] (defScope sTAhead) := ⟨rfl, rfl, rfl, by decide +kernel, rfl, by decide +kernel, by decide +kernel⟩
theorem ok_aheadT {f : Addr} {fd : FuncData} (F : Fun K "ahead" "Tally.ahead" sTAhead f fd) (T : Txt K mg) (W0 : WT K mg CM CT) (Wi : WiD P w K mg base CT fWi dWi) (B : LowT K mg fI fH fL fC fTx fX f0 fD fTu fRR fBe fAh dI dH dL dC dTx dX d0 dD dTu dRR dBe dAh) : FnOk P w K mg base CX0 9 f fd ["self", "text"] (spAheadT CT) := by
  have GX := ok_ctext (P := P) (w := w) (base := base) B.DX.F T B.L
  have GB := ok_behindR (P := P) (w := w) (base := base) B.DB.F T B.DT B.D0 B.DR B.DD
  refine F.ok scTAhead (fun vs H Q E h => ?_) (fun cdv A outer s H vs Q E hr h => ?_)
  · obtain ⟨x, t, z, rfl, _⟩ := h
    rfl
  · obtain ⟨x, t, z, rfl, hx, ok, hn, hz, lz, q⟩ := h
    obtain ⟨dx, a, d, b, ex, ha, hM, hb, okt⟩ := id hx
    refine ⟨_, (pss_cons (ps_expr (pe_call GX (hr.mono (by decide)) (by rfl) B.DX.m B.DX.F.kp B.DX.b .nil pass0 (pa_cons (pe_fld (pv 0) rfl) (pa_cons (pv 1) pa_nil))))
    (pss_one (ps_ret (pe_meth (pv 0) W0.clT Wi.m Wi.g (hr.mono (by decide)) Wi.b .nil pass0 (pa_cons (pe_call GB (hr.mono (by decide)) (by rfl) B.DB.m B.DB.F.kp B.DB.b .nil pass0 (pa_cons (pe_fld (pv 0) rfl) (pa_cons (pe_fld (pv 0) rfl) (pa_cons (pv 1) (pa_cons (pe_fld (pv 0) rfl) pa_nil))))) (pa_cons (pe_fld (pv 0) rfl) (pa_cons (pe_fld (pv 0) rfl) pa_nil))))))), ?_⟩
    refine ⟨_, rfl, x, CT, dx, _, _, rfl, ex, W0.clT, W0.nL, rfl, _, rfl, t.sg, z, rfl, okt.sg, hz, lz, fun H1 s1 => ?_⟩
    have ex1 := s1 _ _ ex
    refine ⟨_, rfl, x, dx, _, rfl, ex1, rfl, _, rfl, x, CT, dx, _, _, rfl, ex1, W0.clT, W0.nF, rfl, _, rfl, x, CT, dx, _, _, rfl, ex1, W0.clT, W0.nM, rfl, _, rfl, _, rfl, x, CT, dx, _, _, rfl, ex1, W0.clT, W0.nP, rfl, ?_⟩
    refine ⟨a, d, t.u, t.W, z, t.p, t.n, rfl, s1 _ _ ha, okt.lu, hn, hM.same s1, ok, (fun c hc => by rw [okt.ord]; exact hz c hc), okPr.ok okt.pr, fun r H2 s2 hr2 => ?_⟩
    have s12 := s1.trans s2
    have ex2 := s12 _ _ ex
    refine ⟨_, rfl, x, CT, dx, _, _, rfl, ex2, W0.clT, W0.nM, rfl, _, rfl, x, CT, dx, _, _, rfl, ex2, W0.clT, W0.nZ, rfl, ?_⟩
    exact ⟨x, r, d, b, t, _, t.v, t.W, t.n, rfl, hx.same s12, hr2, s12 _ _ hb, foldR_len okt.lu, okt.lv, hM.same s12, okt.N, okt.ord, by omega, fun y H' s' h => q y H' (s12.trans s') h⟩
variable {fPr fCP : Addr} {dPr dCP : FuncData}
def spMod (CT : Addr) : Sp := fun vs H Q _ => ∃ (x : Addr) (t : Tl) (p : Int), vs = [.ref x, .int p] ∧ TlAt CT H x t ∧ t.p = none ∧ Pr p ∧ t.n ≤ 60 ∧ ∀ y H', Same H H' → TlAt CT H' y (mkTl ⟨t.sg, t.u, t.W, t.v, some p, t.n⟩ t.u t.W t.v t.n) → Q (.ref y) H'
theorem scTMod : FnScope ["self", "prime"] ["self", "prime"] (defScope sTMod) := ⟨rfl, rfl, rfl, by decide +kernel, rfl, by decide +kernel, by decide +kernel⟩
theorem ok_mod {f : Addr} {fd : FuncData} (F : Fun K "modulo" "Tally.modulo" sTMod f fd) (T : Txt K mg) (Z : MkT P w K mg base CM CT fM fT dM dT) (DI : Df K mg "is_integer" sInt ["value"] fI dI) (DPr : Df K mg "is_prime" sPrimeQ ["value"] fPr dPr) (DCP : Df K mg "check_prime" sCPrime ["value"] fCP dCP) : FnOk P w K mg base CX0 8 f fd ["self", "prime"] (spMod CT) := by
  have GC := ok_cprime (P := P) (w := w) (base := base) DCP.F T DI DPr
  refine F.ok scTMod (fun vs H Q E h => ?_) (fun cdv A outer s H vs Q E hr h => ?_)
  · obtain ⟨x, t, p, rfl, _⟩ := h
    rfl
  · obtain ⟨x, t, p, rfl, hx, ep, hp, hn, q⟩ := h
    obtain ⟨dx, a, d, b, ex, ha, hM, hb, okt⟩ := id hx
    rw [ep] at ex
    refine ⟨_, (pss_cons (ps_expr (pe_call GC (hr.mono (by decide)) (by rfl) DCP.m DCP.F.kp DCP.b .nil pass0 (pa_cons (pv 1) pa_nil)))
    (pss_cons (ps_if (pt_cmpR op_notN (pe_fld (pv 0) rfl) pe_non (nomark _)) (pss_one ps_never) pss_nil)
    (pss_one (ps_ret (pe_makeK Z.MT Z.gN (hr.mono (by decide)) (by rfl) Z.W.gT Z.kT pass0 (pa_cons (pe_fld (pv 0) rfl) (pa_cons (pe_make Z.MM Z.gM (hr.mono (by decide)) (by rfl) Z.W.gM Z.bM .nil pass0 (pa_cons (pe_fld (pv 0) rfl) pa_nil)) (pa_cons (pe_make Z.MM Z.gM (hr.mono (by decide)) (by rfl) Z.W.gM Z.bM .nil pass0 (pa_cons (pe_fld (pv 0) rfl) pa_nil)) (pa_cons (pe_make Z.MM Z.gM (hr.mono (by decide)) (by rfl) Z.W.gM Z.bM .nil pass0 (pa_cons (pe_fld (pv 0) rfl) pa_nil)) pa_nil)))) (pk_cons (pv 1) pk_nil)))))), ?_⟩
    refine ⟨_, rfl, p, rfl, hp, ?_⟩
    refine ⟨_, rfl, x, CT, dx, _, _, rfl, ex, Z.W.clT, Z.W.nP, rfl, rfl, _, rfl, iteF ?_⟩
    refine ⟨_, rfl, x, CT, dx, _, _, rfl, ex, Z.W.clT, Z.W.nL, rfl, ?_⟩
    refine ⟨_, rfl, x, CT, dx, _, _, rfl, ex, Z.W.clT, Z.W.nF, rfl, fun y1 d1 ny1 nd1 ne1 => madeinit_new ny1 nd1 fun H1 s1 m1 => ⟨rfl, ?_⟩⟩
    refine ⟨_, rfl, x, CT, dx, _, _, rfl, s1 _ _ ex, Z.W.clT, Z.W.nM, rfl, fun y2 d2 ny2 nd2 ne2 => madeinit_new ny2 nd2 fun H2 s2 m2 => ⟨rfl, ?_⟩⟩
    refine ⟨_, rfl, x, CT, dx, _, _, rfl, s2 _ _ (s1 _ _ ex), Z.W.clT, Z.W.nZ, rfl, fun y3 d3 ny3 nd3 ne3 => madeinit_new ny3 nd3 fun H3 s3 m3 => ⟨rfl, ?_⟩⟩
    have s13 := (s1.trans s2).trans s3
    refine ⟨_, rfl, rfl, rfl, fun y dy ny ndy ney => ?_⟩
    exact tinitM_new (p := some p) ny ndy okt.sg (m1.same (s2.trans s3)) (m2.same s3) m3 (s13 _ _ ha) (s13 _ _ hb) okt.lu okt.lv (hM.same s13) okt.N okt.ord hn hp fun H' s' h => ⟨rfl, q y H' (s13.trans s') h⟩
end
end K16

set_option Elab.async false
set_option linter.all false
set_option maxRecDepth 100000
set_option maxHeartbeats 6400000
namespace K16
open PySem L2 Tx Tg Tm Da RZ
/-! ### moves made letter by letter -/
theorem dc_mov {tv : TE} {σ : L2.St} {H1 : Hp} {D : Addr} {Qd : Hp → Prop} {j : Nat} {sg : Str} {WW : List Mv} (nD : H1 D = none) (ord : WW.map (·.1) = cds sg) (nd : (cds sg).Nodup) (h3 : (cds sg).length ≤ 3)
    (hw : ∀ v, wipe ((wipe σ [j]).set j (some v)) [j] = wipe σ [j]) (hj : ∀ v, ((wipe σ [j]).set j (some v))[j]? = some (some v))
    (hs : ∀ (i c : Nat) (M : List (List Int)) (H2 : Hp), (cds sg)[i]? = some c → WW[i]? = some (c, M) → Same H1 H2 → ∀ Q : VK, (∀ e H3, Same H2 H3 → SqAt H3 e M → Q (.ref e) H3) → tv ((wipe σ [j]).set j (some (.str (one c)))) H2 Q)
    (hd : ∀ H2, Same H1 H2 → MovAt H2 D WW → Qd H2) :
    ∃ W : Nat → Nat → Hp → Prop, (∃ m, W 0 m (upd H1 D (.dK []))) ∧ ∀ i m H, W i m H →
      ((Its sg).stop i H ∧ Qd H) ∨ ((Its sg).go i H ∧ ∃ Nx : Hp → Prop, (∀ H', Nx H' → ∃ m', m' < m ∧ W (i + 1) m' H') ∧ ∀ v H', (Its sg).yld i H v H' → gName j v (wipe σ [j]) H' fun σ2 H2 => wipe σ2 [j] = wipe σ [j] ∧ tYes σ2 H2 fun b H3 =>
        if b = true then tVar j σ2 H3 fun y H4 => tv σ2 H4 fun z H5 => ∃ kvs k, y = kV k ∧ H5 D = some (.dK kvs) ∧ kvs.length < sizeLine ∧ Nx (upd H5 D (.dK (putK kvs k z))) else Nx H3) := by
  have lW : WW.length = (cds sg).length := by rw [← ord, List.length_map]
  refine Lc.dc_text (fun i H2 => Same H1 H2 ∧ ∃ kvs, H2 D = some (.dK kvs) ∧ MvsAt H2 kvs (WW.take i)) ⟨same_upd nD, [], upd_same, .nil⟩ ?_ ?_
  · rintro i c H2 hc ⟨s2, kvs, e2, w2⟩
    have hi := (List.getElem?_eq_some_iff.mp hc).1
    have hj0 : WW[i]? = some WW[i] := List.getElem?_eq_getElem (by omega)
    have e1 : WW[i].1 = c := by
      have : (WW.map (·.1))[i]? = some c := by rw [ord]; exact hc
      rw [List.getElem?_map, hj0] at this
      exact Option.some.inj this
    have ei : WW[i]? = some (c, WW[i].2) := by rw [hj0, ← e1]
    generalize WW[i].2 = M at ei
    have lw : kvs.length = i := by
      rw [mvs_len w2, List.length_take]
      omega
    have nk : c ∉ (WW.take i).map (·.1) := by
      rw [List.map_take, ord]
      intro hm
      obtain ⟨j, hj⟩ := List.mem_iff_getElem?.mp hm
      have hj1 := (List.getElem?_eq_some_iff.mp hj).1
      rw [List.length_take] at hj1
      rw [List.getElem?_take, if_pos (by omega)] at hj
      have := (List.getElem?_inj (by omega) nd).mp (hj.trans hc.symm)
      omega
    refine ⟨hw _, iteT (B := False) ?_⟩
    refine ⟨_, hj _, hs i c M H2 hc ei s2 _ fun e H3 s3 r3 => ?_⟩
    have e3 := s3 _ _ e2
    refine ⟨kvs, Sum.inr (one c), rfl, e3, Nat.lt_of_le_of_lt (show kvs.length ≤ 3 by omega) (by decide), same_put (s2.trans s3) nD, kvs ++ [(Sum.inr (one c), .ref e)], ?_, ?_⟩
    · rw [upd_same, putK_new (mvs_none w2 nk)]
    · rw [List.take_add_one, ei]
      exact each_app ((w2.keep (.same s3)).keep (KeepT.upd (.dK e3))) (.cons ⟨e, rfl, r3.keep (KeepT.upd (.dK e3))⟩ .nil)
  · rintro H2 ⟨s2, kvs, e2, w2⟩
    rw [List.take_of_length_le (Nat.le_of_eq lW)] at w2
    exact hd H2 s2 ⟨kvs, e2, w2⟩
theorem MovAt.get {H : Hp} {d : Addr} {W : List Mv} {c : Nat} {M : List (List Int)} (h : MovAt H d W) (nd : (W.map (·.1)).Nodup) (hm : (c, M) ∈ W) : ∃ p, DGet H d (.str (one c)) (some (.ref p)) ∧ SqAt H p M := by
  obtain ⟨kvs, ed, hw⟩ := h
  obtain ⟨p, g, r⟩ := mvs_get hw nd hm
  refine ⟨p, ?_, r⟩
  have := DGet.k (k := (Sum.inr (one c) : Key)) ed
  rw [g] at this
  exact this
/-- two rows of moves of the same letters, square by square -/
def zipW (f : List (List Int) → List (List Int) → List (List Int)) (A B : List Mv) : List Mv := List.zipWith (fun a b => (a.1, f a.2 b.2)) A B
theorem zipW_keys {f : List (List Int) → List (List Int) → List (List Int)} : ∀ {A B : List Mv}, A.map (·.1) = B.map (·.1) → (zipW f A B).map (·.1) = A.map (·.1)
  | [], [], _ => rfl
  | a :: A, b :: B, h => by
    rw [List.map_cons, List.map_cons] at h
    injection h with _ h2
    show a.1 :: (zipW f A B).map (·.1) = a.1 :: A.map (·.1)
    rw [zipW_keys h2]
  | [], _ :: _, h => nomatch h
  | _ :: _, [], h => nomatch h
theorem zipW_mem {f : List (List Int) → List (List Int) → List (List Int)} : ∀ {A B : List Mv} {c : Nat} {M : List (List Int)}, A.map (·.1) = B.map (·.1) → (c, M) ∈ zipW f A B → ∃ M1 M2, (c, M1) ∈ A ∧ (c, M2) ∈ B ∧ M = f M1 M2
  | [], [], _, _, _, h => nomatch h
  | a :: A, b :: B, c, M, h, hm => by
    rw [List.map_cons, List.map_cons] at h
    injection h with h1 h2
    rcases List.mem_cons.mp (show (c, M) ∈ (a.1, f a.2 b.2) :: zipW f A B from hm) with e | hm
    · injection e with e1 e2
      exact ⟨a.2, b.2, by rw [e1]; exact List.mem_cons_self, by rw [e1, h1]; exact List.mem_cons_self, e2⟩
    · obtain ⟨M1, M2, q1, q2, q3⟩ := zipW_mem h2 hm
      exact ⟨M1, M2, List.mem_cons_of_mem _ q1, List.mem_cons_of_mem _ q2, q3⟩
  | [], _ :: _, _, _, h, _ => nomatch h
  | _ :: _, [], _, _, h, _ => nomatch h
theorem okN_zip {f : List (List Int) → List (List Int) → List (List Int)} {A B : List Mv} {n : Nat} (h : A.map (·.1) = B.map (·.1)) (hA : okN k A) (hs : ∀ c M1 M2, (c, M1) ∈ A → (c, M2) ∈ B → Ty.Sq n (f M1 M2)) : okN n (zipW f A B) := by
  have e := zipW_keys (f := f) h
  refine ⟨by rw [e]; exact hA.nd, fun m hm => ?_, ?_⟩
  · obtain ⟨M1, M2, h1, h2, e3⟩ := zipW_mem h (c := m.1) (M := m.2) hm
    rw [e3]
    exact hs _ _ _ h1 h2
  · have := congrArg List.length e
    rw [List.length_map, List.length_map] at this
    rw [this]
    exact hA.few
/-! ### rows as data -/
abbrev intsD (l : List Int) : List PyData := l.map PyData.int
abbrev sqD (A : List (List Int)) : List PyData := A.map fun r => PyData.tuple (intsD r)
abbrev mvsD (W : List Mv) : List (PyData × PyData) := W.map fun w => (PyData.str (one w.1), PyData.tuple (sqD w.2))
theorem ints_dr (K : PySem.W.Frag) (H : Hp) : ∀ l : List Int, DrAll K H (intsV l) (intsD l)
  | [] => .nil
  | n :: l => .cons (.int _) (ints_dr K H l)
theorem ints_dp (K : PySem.W.Frag) (H : Hp) : ∀ l : List Int, DpAll K H (intsV l) (intsD l)
  | [] => .nil
  | n :: l => .cons (.int _) (ints_dp K H l)
theorem row_dr {K : PySem.W.Frag} {H : Hp} {p : Addr} {l : List Int} (h : RowI H p l) : Dr K H (.ref p) (.tuple (intsD l)) := .tup (SqT.of h) (ints_dr K H l)
theorem rows_dr {K : PySem.W.Frag} {H : Hp} : ∀ {ps : List Addr} {A : List (List Int)}, PySem.W.EachIs (RowI H) ps A → DrAll K H (ps.map V.ref) (sqD A)
  | _, _, .nil => .nil
  | _, _, .cons r t => .cons (row_dr r) (rows_dr t)
theorem sq_dr {K : PySem.W.Frag} {H : Hp} {p : Addr} {A : List (List Int)} (h : SqAt H p A) : Dr K H (.ref p) (.tuple (sqD A)) := let ⟨_, e, r⟩ := h; .tup (SqT.of e) (rows_dr r)
theorem mvs_dr {K : PySem.W.Frag} {H : Hp} : ∀ {kvs : List (Key × V)} {W : List Mv}, MvsAt H kvs W → DrKv K H kvs (mvsD W)
  | _, _, .nil => .nil
  | _, _, .cons ⟨p, e, r⟩ t => by
    subst e
    exact .cons (sq_dr r) (mvs_dr t)
theorem mov_dr {K : PySem.W.Frag} {H : Hp} {d : Addr} {W : List Mv} (h : MovAt H d W) : Dr K H (.ref d) (.dict (mvsD W)) := let ⟨_, e, w⟩ := h; .dct e (mvs_dr w)
theorem ints_alike : ∀ l m : List Int, AlikeAll (intsD l) (intsD m)
  | [], _ => .nilL _
  | _ :: _, [] => .nilR _
  | a :: l, b :: m => .cons (.int _ _) (ints_alike l m)
theorem sq_alike : ∀ A B : List (List Int), AlikeAll (sqD A) (sqD B)
  | [], _ => .nilL _
  | _ :: _, [] => .nilR _
  | a :: l, b :: m => .cons (.tup (ints_alike _ _)) (sq_alike l m)
theorem mvs_alike : ∀ {W W' : List Mv}, W.map (·.1) = W'.map (·.1) → AlikeKv (mvsD W) (mvsD W')
  | [], [], _ => .nil
  | w :: W, w' :: W', h => by
    rw [List.map_cons, List.map_cons] at h
    injection h with h1 h2
    show AlikeKv ((.str (one w.1), .tuple (sqD w.2)) :: mvsD W) ((.str (one w'.1), .tuple (sqD w'.2)) :: mvsD W')
    rw [h1]
    exact .cons (.tup (sq_alike _ _)) (mvs_alike h2)
  | [], _ :: _, h => nomatch h
  | _ :: _, [], h => nomatch h
theorem ints_dq : ∀ l m : List Int, dqAll (intsD l) (intsD m) = decide (l = m)
  | [], [] => rfl
  | [], _ :: _ => rfl
  | _ :: _, [] => rfl
  | a :: l, b :: m => by
    show ((a == b) && dqAll (intsD l) (intsD m)) = _
    rw [ints_dq l m]
    by_cases h : a = b
    · subst h
      rw [beq_self_eq_true, Bool.true_and]
      exact decide_eq_decide.mpr ⟨fun e => by rw [e], fun e => by injection e⟩
    · have hb : (a == b) = false := beq_eq_false_iff_ne.mpr h
      rw [hb, Bool.false_and]
      exact (decide_eq_false (fun e => h (by injection e))).symm
theorem sq_dq : ∀ A B : List (List Int), dqAll (sqD A) (sqD B) = decide (A = B)
  | [], [] => rfl
  | [], _ :: _ => rfl
  | _ :: _, [] => rfl
  | a :: l, b :: m => by
    show (dqAll (intsD a) (intsD b) && dqAll (sqD l) (sqD m)) = _
    rw [ints_dq, sq_dq l m, ← Bool.decide_and]
    exact decide_eq_decide.mpr ⟨fun ⟨e1, e2⟩ => by rw [e1, e2], fun e => by injection e with e1 e2; exact ⟨e1, e2⟩⟩
theorem mvs_dq : ∀ {W W' : List Mv}, W.map (·.1) = W'.map (·.1) → dqKv (mvsD W) (mvsD W') = decide (W = W')
  | [], [], _ => rfl
  | w :: W, w' :: W', h => by
    rw [List.map_cons, List.map_cons] at h
    injection h with h1 h2
    show (dqAll (sqD w.2) (sqD w'.2) && dqKv (mvsD W) (mvsD W')) = _
    rw [sq_dq, mvs_dq h2, ← Bool.decide_and]
    exact decide_eq_decide.mpr ⟨fun ⟨a, b⟩ => by rw [b, Prod.ext h1 a], fun e => by injection e with e1 e2; exact ⟨by rw [e1], e2⟩⟩
  | [], _ :: _, h => nomatch h
  | _ :: _, [], h => nomatch h
theorem ints_eqv : ∀ l m : List Int, PyData.eqvAll (intsD l) (intsD m) = decide (l = m)
  | [], [] => rfl
  | [], _ :: _ => rfl
  | _ :: _, [] => rfl
  | a :: l, b :: m => by
    show ((a == b) && PyData.eqvAll (intsD l) (intsD m)) = _
    rw [ints_eqv l m]
    by_cases h : a = b
    · subst h
      rw [beq_self_eq_true, Bool.true_and]
      exact decide_eq_decide.mpr ⟨fun e => by rw [e], fun e => by injection e⟩
    · have hb : (a == b) = false := beq_eq_false_iff_ne.mpr h
      rw [hb, Bool.false_and]
      exact (decide_eq_false (fun e => h (by injection e))).symm
theorem ints_lay : ∀ l : List Int, PyData.canLayAll0 (intsD l) = true
  | [] => rfl
  | a :: l => by
    show ((true : Bool) && PyData.canLayAll0 (intsD l)) = true
    rw [ints_lay l]
    rfl
theorem ints_deep : ∀ l : List Int, PyData.depthAll (intsD l) = 0
  | [] => rfl
  | a :: l => by
    show max 0 (PyData.depthAll (intsD l)) = 0
    rw [ints_deep l]
    rfl
theorem ints_shaped (l : List Int) : SeqAt.shaped (.tuple (intsD l)) = true := by
  unfold SeqAt.shaped
  rw [Bool.and_eq_true]
  exact ⟨ints_lay l, decide_eq_true (by show PyData.depthAll (intsD l) + 1 ≤ 64; rw [ints_deep]; decide)⟩
theorem sq_deep : ∀ A : List (List Int), PyData.depthAll (sqD A) ≤ 1
  | [] => Nat.zero_le _
  | a :: l => by
    have := sq_deep l
    show max (PyData.depthAll (intsD a) + 1) (PyData.depthAll (sqD l)) ≤ 1
    rw [ints_deep]
    omega
theorem mvs_deep : ∀ W : List Mv, PyData.depthKv (mvsD W) ≤ 2
  | [] => Nat.zero_le _
  | w :: W => by
    have := mvs_deep W
    have := sq_deep w.2
    show max (max 0 (PyData.depthAll (sqD w.2) + 1)) (PyData.depthKv (mvsD W)) ≤ 2
    omega
section
variable {P : Program} {w : World} {K : PySem.W.Frag} {mg : Str → Option Value} {base : Heap} {CM CT : Addr} {fWi fTu : Addr} {dWi dTu : FuncData}
end
end K16

set_option Elab.async false
set_option linter.all false
set_option maxRecDepth 100000
set_option maxHeartbeats 3200000
/-! comprehensions over a range that draw: values, and new tuples -/
namespace Lc
open PySem L2 Tx Tg Tm RZ
section
variable {α : Type} {R : Hp → Addr → α → Prop} (hR : ∀ H H' p x, KT H H' → R H p x → R H' p x) {te : TE} {σ : L2.St} {H1 : Hp} {D : Addr} {Qd : Hp → Prop} {j : Nat}
include hR
theorem lcRDT {n : Nat} {lo : Int} {c : Addr} {I : Hp → Prop} {P : α → Prop} (nD : H1 D = none) (nDc : D ≠ c) (h0 : I (upd H1 D (.lst []))) (hz : n < sizeLine) (hw : ∀ v, wipe ((wipe σ [j]).set j (some v)) [j] = wipe σ [j])
    (hI : ∀ H o, I H → I (upd H D o)) (hT : ∀ H xs, I H → H c ≠ some (.tup xs))
    (hs : ∀ i H2, i < n → I H2 → (∀ b o, b ≠ c → H1 b = some o → H2 b = some o) → ∀ Q : VK, (∀ b y H3, R H3 b y → P y → I H3 → (∀ b o, b ≠ c → H2 b = some o → H3 b = some o) → Q (.ref b) H3) → te ((wipe σ [j]).set j (some (.int (lo + i)))) H2 Q)
    (hd : ∀ H2 ps ys, I H2 → (∀ b o, b ≠ c → H1 b = some o → H2 b = some o) → H2 D = some (.lst (ps.map V.ref)) → PySem.W.EachIs (R H2) ps ys → ys.length = n → (∀ y ∈ ys, P y) → Qd H2) :
    ∃ W : Nat → Nat → Hp → Prop, (∃ m, W 0 m (upd H1 D (.lst []))) ∧ ∀ i m H, W i m H →
      ((Itr lo n).stop i H ∧ Qd H) ∨ ((Itr lo n).go i H ∧ ∃ Nx : Hp → Prop, (∀ H', Nx H' → ∃ m', m' < m ∧ W (i + 1) m' H') ∧ ∀ x H', (Itr lo n).yld i H x H' → gName j x (wipe σ [j]) H' fun σ2 H2 => wipe σ2 [j] = wipe σ [j] ∧ tYes σ2 H2 fun b H3 =>
        if b = true then te σ2 H3 fun y H4 => ∃ acc, H4 D = some (.lst acc) ∧ acc.length < sizeLine ∧ Nx (upd H4 D (.lst (acc ++ [y]))) else Nx H3) := by
  refine lc_range (fun i H2 => I H2 ∧ (∀ b o, b ≠ c → H1 b = some o → H2 b = some o) ∧ ∃ (ps : List Addr) (ys : List α), H2 D = some (.lst (ps.map V.ref)) ∧ PySem.W.EachIs (R H2) ps ys ∧ ys.length = i ∧ ∀ y ∈ ys, P y)
    ⟨h0, fun b o _ e => same_upd nD _ _ e, [], [], upd_same, .nil, rfl, nofun⟩ ?_ ?_
  · rintro i H2 hi ⟨i2, b2, ps, ys, e2, r2, l2, p2⟩
    refine ⟨hw _, iteT (B := False) ?_⟩
    refine hs i H2 hi i2 b2 _ fun b y H3 hb py i3 b3 => ?_
    have e3 := b3 _ _ nDc e2
    refine ⟨_, e3, ?_, hI _ _ i3, fun q o nq e => ?_, ps ++ [b], ys ++ [y], ?_, ?_, ?_, fun z hz => ?_⟩
    · rw [List.length_map, r2.length, l2]
      exact Nat.lt_trans hi hz
    · rw [upd_ne (ne_of_none e nD)]
      exact b3 _ _ nq (b2 _ _ nq e)
    · rw [upd_same, List.map_append]
      rfl
    · have k3 : KT H3 (upd H3 D (.lst (ps.map V.ref ++ [V.ref b]))) := fun q xs e => by
        rw [upd_ne (fun z => by rw [z, e3] at e; cases e)]
        exact e
      have k2 : KT H2 H3 := fun q xs e => b3 _ _ (fun z => hT H2 xs i2 (by rw [← z]; exact e)) e
      exact each_app (PySem.W.EachIs.mono (fun _ _ h => hR _ _ _ _ k3 (hR _ _ _ _ k2 h)) r2) (.cons (hR _ _ _ _ k3 hb) .nil)
    · rw [List.length_append, l2]
      rfl
    · rcases List.mem_append.mp hz with hz | hz
      · exact p2 z hz
      · rw [List.mem_singleton.mp hz]
        exact py
  · rintro H2 ⟨i2, b2, ps, ys, e2, r2, l2, p2⟩
    exact hd H2 ps ys i2 b2 e2 r2 l2 p2
end
end Lc

set_option Elab.async false
set_option linter.all false
set_option maxRecDepth 100000
set_option maxHeartbeats 6400000
namespace K16
open PySem L2 Tx Tg Tm Da RZ
/-! ### the law's drawn tallies -/
/-- small, and its own rest -/
def sm (p : Option Int) (x : Int) : Prop := x.natAbs ≤ 6 ∧ Ty.rest p x = x
structure Sml (t : Tl) : Prop where
  n3 : t.n ≤ 3
  u : ∀ x ∈ t.u, sm t.p x
  v : ∀ x ∈ t.v, sm t.p x
  W : ∀ m ∈ t.W, ∀ r ∈ m.2, ∀ x ∈ r, sm t.p x
theorem rest_self {p : Option Int} {l : List Int} (h : ∀ x ∈ l, sm p x) : l.map (Ty.rest p) = l := by
  rw [List.map_congr_left (g := id) fun x hx => (h x hx).2, List.map_id]
theorem few_sm {p : Option Int} {l : List Int} (h : ∀ x ∈ l, sm p x) : Few l := fun x hx => by
  have := (h x hx).1
  constructor <;> omega
theorem Cup.noD {H : Hp} {c d : Addr} {kvs : List (Key × V)} (h : Cup H c) (e : H d = some (.dK kvs)) : d ≠ c := by
  rintro rfl
  obtain ⟨_, _, _, z⟩ := h
  rw [z] at e
  cases e
theorem MovAt.but {c d : Addr} {H H' : Hp} {W : List Mv} (hc : Cup H c) (b : But c H H') (h : MovAt H d W) : MovAt H' d W := let ⟨k, e, r⟩ := h; ⟨k, b _ _ (hc.noD e) e, r.keep (KeepT.but hc.noT b)⟩
theorem RowI.but {c d : Addr} {H H' : Hp} {l : List Int} (hc : Cup H c) (b : But c H H') (h : RowI H d l) : RowI H' d l := KeepT.but hc.noT b _ _ h
theorem TlAt.but {C c : Addr} {H H' : Hp} {x : Addr} {t : Tl} (hc : Cup H c) (bb : But c H H') (h : TlAt C H x t) : TlAt C H' x t := by
  obtain ⟨dx, a, d, b, e, ha, hd, hb, ok⟩ := h
  have := id hc
  obtain ⟨_, _, _, ec⟩ := this
  exact ⟨dx, a, d, b, bb _ _ (ne_of e ec (by intro z; cases z)) e, RowI.but hc bb ha, hd.but hc bb, RowI.but hc bb hb, ok⟩
abbrev kvB (a d b : Addr) (p : Option Int) : List (Key × V) := [(Sum.inr "top", .ref a), (Sum.inr "steps", .ref d), (Sum.inr "foot", .ref b), (Sum.inr "kind", pV p)]
def BareAt (H : Hp) (P : Addr) (t : Tl) : Prop := ∃ a d b, H P = some (.dK (kvB a d b t.p)) ∧ RowI H a t.u ∧ MovAt H d t.W ∧ RowI H b t.v ∧ okT t ∧ Sml t
theorem BareAt.same {H H' : Hp} {P : Addr} {t : Tl} (s : Same H H') (h : BareAt H P t) : BareAt H' P t := let ⟨a, d, b, e, ha, hd, hb, ok⟩ := h; ⟨a, d, b, s _ _ e, s _ _ ha, hd.same s, s _ _ hb, ok⟩
theorem BareAt.but {c : Addr} {H H' : Hp} {P : Addr} {t : Tl} (hc : Cup H c) (bb : But c H H') (h : BareAt H P t) : BareAt H' P t := let ⟨a, d, b, e, ha, hd, hb, ok⟩ := h; ⟨a, d, b, bb _ _ (hc.noD e) e, RowI.but hc bb ha, hd.but hc bb, RowI.but hc bb hb, ok⟩
theorem BareAt.ok {H : Hp} {P : Addr} {t : Tl} (h : BareAt H P t) : okT t := let ⟨_, _, _, _, _, _, _, ok, _⟩ := h; ok
theorem BareAt.sml {H : Hp} {P : Addr} {t : Tl} (h : BareAt H P t) : Sml t := let ⟨_, _, _, _, _, _, _, _, s⟩ := h; s
theorem BareAt.get {H : Hp} {P : Addr} {t : Tl} (h : BareAt H P t) : ∃ a d b, DGet H P (.str "top") (some (.ref a)) ∧ DGet H P (.str "steps") (some (.ref d)) ∧ DGet H P (.str "foot") (some (.ref b)) ∧ DGet H P (.str "kind") (some (pV t.p)) ∧ RowI H a t.u ∧ MovAt H d t.W ∧ RowI H b t.v := by
  obtain ⟨a, d, b, e, ha, hd, hb, _⟩ := h
  exact ⟨a, d, b, DGet.k (k := (Sum.inr "top" : Key)) e, DGet.k (k := (Sum.inr "steps" : Key)) e, DGet.k (k := (Sum.inr "foot" : Key)) e, DGet.k (k := (Sum.inr "kind" : Key)) e, ha, hd, hb⟩
section
variable {P : Program} {w : World} {K : PySem.W.Frag} {mg : Str → Option Value} {base : Heap} {fB fP fR fF : Addr} {dB dP dR dF : FuncData}
def spKind : Sp := fun vs H Q _ => ∃ (c : Addr), vs = [.ref c] ∧ Cup H c ∧ ∀ p H', okPr p → Cup H' c → But c H H' → Q (pV p) H'
theorem scKind : FnScope ["_law_cup_here"] ["_law_cup_here"] (defScope sKind) := ⟨rfl, rfl, rfl, by decide +kernel, rfl, by decide +kernel, by decide +kernel⟩
theorem ok_kind {f : Addr} {fd : FuncData} (F : Fun K "_law_kind" "_law_kind" sKind f fd) (T : Txt K mg) (DB : Df K mg "_law_bit" sBit ["_law_cup_here", "_law_much"] fB dB) (DP : Df K mg "_law_pick" sPick ["_law_cup_here", "_law_items"] fP dP) : FnOk P w K mg base CX0 3 f fd ["_law_cup_here"] spKind := by
  have GP := ok_pick (P := P) (w := w) (base := base) DP.F T DB
  refine F.ok scKind (fun vs H Q E h => ?_) (fun cdv A outer s H vs Q E hr h => ?_)
  · obtain ⟨c, rfl, _⟩ := h
    rfl
  · obtain ⟨c, rfl, hc, q⟩ := h
    refine ⟨_, (pss_one (ps_ret (pe_call GP (hr.mono (by decide)) (by rfl) DP.m DP.F.kp DP.b .nil pass0 (pa_cons (pv 0) (pa_cons (pe_lst (pa_cons pe_non (pa_cons pe_non (pa_cons pe_int (pa_cons pe_int (pa_cons pe_int (pa_cons pe_int (pa_cons pe_int pa_nil)))))))) pa_nil))))), ?_⟩
    refine ⟨_, rfl, by show 7 ≤ sizeLine; decide, fun p np => ⟨c, hc.same (same_upd np), .inl ⟨p, _, rfl, hc.ne np, upd_same, by decide, by decide, fun x H' hx hc' but => ?_⟩⟩⟩
    have b2 : But c H H' := (But.of (same_upd np)).trans but
    simp only [List.mem_cons, List.not_mem_nil, or_false] at hx
    rcases hx with rfl | rfl | rfl | rfl | rfl | rfl | rfl
    · exact q none _ trivial hc' b2
    · exact q none _ trivial hc' b2
    · exact q (some 2) _ (.inl rfl) hc' b2
    · exact q (some 2) _ (.inl rfl) hc' b2
    · exact q (some 3) _ (.inr (.inl rfl)) hc' b2
    · exact q (some 5) _ (.inr (.inr (.inl rfl))) hc' b2
    · exact q (some 7) _ (.inr (.inr (.inr rfl))) hc' b2
def spLRest : Sp := fun vs H Q _ => ∃ (x : Int) (p : Option Int), vs = [.int x, pV p] ∧ okPr p ∧ Q (.int (Ty.rest p x)) H
theorem scLRest : FnScope ["_law_much", "_law_kind_here"] ["_law_much", "_law_kind_here"] (defScope sLRest) := ⟨rfl, rfl, rfl, by decide +kernel, rfl, by decide +kernel, by decide +kernel⟩
theorem ok_lrest {f : Addr} {fd : FuncData} (F : Fun K "_law_rest" "_law_rest" sLRest f fd) (T : Txt K mg) : FnOk P w K mg base CX0 1 f fd ["_law_much", "_law_kind_here"] spLRest := by
  refine F.ok scLRest (fun vs H Q E h => ?_) (fun cdv A outer s H vs Q E hr h => ?_)
  · obtain ⟨x, p, rfl, _⟩ := h
    rfl
  · obtain ⟨x, p, rfl, hp, q⟩ := h
    refine ⟨_, (pss_one (ps_ret (pe_ifExp (pt_cmpR op_isN (pv 1) pe_non (nomark _)) (pv 0) (pe_op op_modN (pe_callTy call_int1 (by rfl) T.int (by decide +kernel) (pa_cons (pv 0) pa_nil)) (pv 1))))), ?_⟩
    cases p with
    | none =>
      refine ⟨_, rfl, rfl, _, rfl, ?_⟩
      rw [decide_eq_true (show pV none = V.non from rfl)]
      exact iteT ⟨_, rfl, q⟩
    | some p =>
      refine ⟨_, rfl, rfl, _, rfl, ?_⟩
      rw [decide_eq_false (show ¬ (pV (some p) = V.non) from fun e => nomatch e)]
      have h0 : 0 < p := okPr.ok hp
      refine iteF ⟨_, rfl, .inl ⟨_, rfl, _, rfl, _, _, rfl, rfl, Int.ne_of_gt h0, ?_⟩⟩
      show Q (.int (Int.fmod x p)) H
      rw [Int.fmod_eq_emod_of_nonneg _ (Int.le_of_lt h0)]
      exact q
theorem sm_rest {p : Option Int} (hp : okPr p) {x : Int} (h : x.natAbs ≤ 3) : sm p (Ty.rest p x) := by
  refine ⟨?_, Ty.rest_rest p x⟩
  cases p with
  | none =>
    show x.natAbs ≤ 6
    omega
  | some p =>
    show (x % p).natAbs ≤ 6
    have hp : p = 2 ∨ p = 3 ∨ p = 5 ∨ p = 7 := hp
    rcases hp with rfl | rfl | rfl | rfl <;> omega
def spFew : Sp := fun vs H Q _ => ∃ (c : Addr) (p : Option Int), vs = [.ref c, pV p] ∧ Cup H c ∧ okPr p ∧ ∀ x H', sm p x → Cup H' c → But c H H' → Q (.int x) H'
theorem scFew : FnScope ["_law_cup_here", "_law_kind_here"] ["_law_cup_here", "_law_kind_here"] (defScope sFew) := ⟨rfl, rfl, rfl, by decide +kernel, rfl, by decide +kernel, by decide +kernel⟩
theorem ok_few {f : Addr} {fd : FuncData} (F : Fun K "_law_few" "_law_few" sFew f fd) (T : Txt K mg) (DB : Df K mg "_law_bit" sBit ["_law_cup_here", "_law_much"] fB dB) (DP : Df K mg "_law_pick" sPick ["_law_cup_here", "_law_items"] fP dP) (DR : Df K mg "_law_rest" sLRest ["_law_much", "_law_kind_here"] fR dR) : FnOk P w K mg base CX0 3 f fd ["_law_cup_here", "_law_kind_here"] spFew := by
  have GP := ok_pick (P := P) (w := w) (base := base) DP.F T DB
  have GR := ok_lrest (P := P) (w := w) (base := base) DR.F T
  refine F.ok scFew (fun vs H Q E h => ?_) (fun cdv A outer s H vs Q E hr h => ?_)
  · obtain ⟨c, p, rfl, _⟩ := h
    rfl
  · obtain ⟨c, p, rfl, hc, hp, q⟩ := h
    refine ⟨_, (pss_one (ps_ret (pe_call GR (hr.mono (by decide)) (by rfl) DR.m DR.F.kp DR.b .nil pass0 (pa_cons (pe_call GP (hr.mono (by decide)) (by rfl) DP.m DP.F.kp DP.b .nil pass0 (pa_cons (pv 0) (pa_cons (pe_lst (pa_cons pe_int (pa_cons pe_int (pa_cons pe_int (pa_cons pe_int (pa_cons pe_int (pa_cons pe_int (pa_cons (pe_un un_neg pe_int) (pa_cons pe_int (pa_cons (pe_un un_neg pe_int) (pa_cons pe_int pa_nil))))))))))) pa_nil))) (pa_cons (pv 1) pa_nil))))), ?_⟩
    refine ⟨_, rfl, _, rfl, _, rfl, by show 10 ≤ sizeLine; decide, fun L np => ⟨c, hc.same (same_upd np), .inl ⟨L, _, rfl, hc.ne np, upd_same, by decide, by decide, fun x H' hx hc' but => ?_⟩⟩⟩
    have b2 : But c H H' := (But.of (same_upd np)).trans but
    obtain ⟨k, rfl, hk⟩ : ∃ k : Int, x = .int k ∧ k.natAbs ≤ 3 := by
      simp only [List.mem_cons, List.not_mem_nil, or_false] at hx
      rcases hx with rfl | rfl | rfl | rfl | rfl | rfl | rfl | rfl | rfl | rfl <;> exact ⟨_, rfl, by decide⟩
    exact ⟨_, rfl, k, p, rfl, hp, q _ _ (sm_rest hp hk) hc' b2⟩
abbrev nBare : List Str := ["_law_cup_here", "_law_signs_here", "_law_most", "_law_kind_here", "_law_wide", "_law_top", "_law_steps", "_law_sign", "_law_turn", "_law_at"]
def spBare : Sp := fun vs H Q _ => ∃ (c : Addr) (sg : Str) (p : Option Int), vs = [.ref c, .str sg, .int 3, pV p] ∧ Cup H c ∧ Signs sg ∧ okPr p ∧ ∀ P t H', BareAt H' P t → t.sg = sg → t.p = p → Cup H' c → But c H H' → Q (.ref P) H'
theorem scBare : FnScope nBare ["_law_cup_here", "_law_signs_here", "_law_most", "_law_kind_here"] (defScope sBare) := ⟨rfl, rfl, rfl, by decide +kernel, rfl, by decide +kernel, by decide +kernel⟩
theorem ints_of {P : Int → Prop} : ∀ {zs : List V}, (∀ (i : Nat) (y : V), zs[i]? = some y → ∃ x : Int, y = .int x ∧ P x) → ∃ l : List Int, zs = intsV l ∧ ∀ x ∈ l, P x
  | [], _ => ⟨[], rfl, nofun⟩
  | z :: zs, h => by
    obtain ⟨x, e, hx⟩ := h 0 z rfl
    obtain ⟨l, e2, h2⟩ := ints_of (P := P) (zs := zs) fun i y hy => h (i + 1) y hy
    exact ⟨x :: l, by rw [e, e2]; rfl, fun y hy => by
      rcases List.mem_cons.mp hy with rfl | hy
      · exact hx
      · exact h2 y hy⟩
/-- a drawn row -/
theorem row_drawn {te : TE} {σ : L2.St} {j n : Nat} {H : Hp} {c : Addr} {p : Option Int} {Qd : Hp → Prop} (hc : Cup H c) (hn : n ≤ 3) (hw : ∀ v, wipe ((wipe σ [j]).set j (some v)) [j] = wipe σ [j])
    (hs : ∀ i H2, Cup H2 c → ∀ Q : VK, (∀ x H3, sm p x → Cup H3 c → But c H2 H3 → Q (.int x) H3) → te ((wipe σ [j]).set j (some (.int (0 + (i : Nat))))) H2 Q)
    {D : Addr} (nD : H D = none) (q : ∀ l H', H' D = some (.lst (intsV l)) → l.length = n → (∀ x ∈ l, sm p x) → Cup H' c → But c H H' → Qd H') :
    ∃ W : Nat → Nat → Hp → Prop, (∃ m, W 0 m (upd H D (.lst []))) ∧ ∀ i m H, W i m H →
      ((Itr 0 n).stop i H ∧ Qd H) ∨ ((Itr 0 n).go i H ∧ ∃ Nx : Hp → Prop, (∀ H', Nx H' → ∃ m', m' < m ∧ W (i + 1) m' H') ∧ ∀ x H', (Itr 0 n).yld i H x H' → gName j x (wipe σ [j]) H' fun σ2 H2 => wipe σ2 [j] = wipe σ [j] ∧ tYes σ2 H2 fun b H3 =>
        if b = true then te σ2 H3 fun y H4 => ∃ acc, H4 D = some (.lst acc) ∧ acc.length < sizeLine ∧ Nx (upd H4 D (.lst (acc ++ [y]))) else Nx H3) := by
  have nDc : D ≠ c := hc.ne nD
  refine Lc.lcRD (c := c) (I := fun H => Cup H c) (P := fun _ v => ∃ x : Int, v = .int x ∧ sm p x) nD nDc (hc.same (same_upd nD)) (Nat.lt_of_le_of_lt hn (by decide)) hw (fun H o h => h.put nDc) ?_ ?_
  · intro i H3 hi hc3 b3 Q' q'
    exact hs i H3 hc3 Q' fun x H4 hx hc4 b4 => q' _ _ ⟨x, rfl, hx⟩ hc4 b4
  intro H3 zs hc3 b3 e3 lz hz
  have b3 : But c H H3 := b3
  obtain ⟨l, rfl, hq⟩ := ints_of hz
  exact q l H3 e3 (by rw [List.length_map] at lz; exact lz) hq hc3 b3
theorem ok_bare {f : Addr} {fd : FuncData} (F : Fun K "_law_bare" "_law_bare" sBare f fd) (T : Txt K mg) (DB : Df K mg "_law_bit" sBit ["_law_cup_here", "_law_much"] fB dB) (DP : Df K mg "_law_pick" sPick ["_law_cup_here", "_law_items"] fP dP) (DR : Df K mg "_law_rest" sLRest ["_law_much", "_law_kind_here"] fR dR) (DF : Df K mg "_law_few" sFew ["_law_cup_here", "_law_kind_here"] fF dF) : FnOk P w K mg base CX0 4 f fd ["_law_cup_here", "_law_signs_here", "_law_most", "_law_kind_here"] spBare := by
  have GP := ok_pick (P := P) (w := w) (base := base) DP.F T DB
  have GF := ok_few (P := P) (w := w) (base := base) DF.F T DB DP DR
  refine F.ok scBare (fun vs H Q E h => ?_) (fun cdv A outer s H vs Q E hr h => ?_)
  · obtain ⟨c, sg, p, rfl, _⟩ := h
    rfl
  · obtain ⟨c, sg, p, rfl, hc, hsg, hp, q⟩ := h
    have hu := hu_of hr
    refine ⟨_, (pss_cons (ps_set (i := 4) scBare.nd rfl (Or.inr rfl) (pe_call GP (hr.mono (by decide)) (by rfl) DP.m DP.F.kp DP.b .nil pass0 (pa_cons (pv 0) (pa_cons (pe_op op_cat (pe_listRg rfl (by rfl) T.list (prg_1 (by rfl) T.range (pe_op op_add (pv 2) pe_int))) (pe_lst (pa_cons (pv 2) (pa_cons (pv 2) pa_nil)))) pa_nil))))
    (pss_cons (ps_set (i := 5) scBare.nd rfl (Or.inl rfl) (pe_callTy call_tuple_of (by rfl) T.tuple (by decide +kernel) (pa_cons (pe_lc (own := [("_law_turn", 8)]) (g := (gName 8)) (tt := tYes) (te := tCall spFew [] E0 (tCons (tVar 0) (tCons (tVar 3) tNil))) rfl scBare.nd (pi_range1 rfl T.range (pa_cons (pv 4) pa_nil)) (blkOk_by (own := [("_law_turn", 8)]) (N := nBare) (sc := defScope sBare) (by decide +kernel)) (fun _ _ _ _ _ => (pg_name (i := 8) scBare.nd rfl (Or.inl rfl))) (fun _ _ _ _ _ => pts_nil) (fun _ _ _ _ _ => (pe_call GF (hr.mono (by decide)) (by rfl) DF.m DF.F.kp DF.b .nil pass0 (pa_cons (pv 0) (pa_cons (pv 3) pa_nil))))) pa_nil)))
    (pss_cons (ps_set (i := 6) scBare.nd rfl (Or.inl rfl) pe_dnewK)
    (pss_cons (ps_for PassesOwn.never rfl (pi_str (pv 1)) (pg_name (i := 7) scBare.nd rfl (Or.inl rfl))
      (pss_one (ps_dput hu (pv 6) (pv 7) (pe_callTy call_tuple_of (by rfl) T.tuple (by decide +kernel) (pa_cons (pe_lc (own := [("_law_turn", 8)]) (g := (gName 8)) (tt := tYes) (te := tCB (rTupOf K) (tCons (tLc (iRng1 (tCons (tVar 4) tNil)) (gName 9) tYes (tCall spFew [] E0 (tCons (tVar 0) (tCons (tVar 3) tNil))) [9]) tNil)) rfl scBare.nd (pi_range1 rfl T.range (pa_cons (pv 4) pa_nil)) (blkOk_by (own := [("_law_turn", 8)]) (N := nBare) (sc := defScope sBare) (by decide +kernel)) (fun _ _ _ _ _ => (pg_name (i := 8) scBare.nd rfl (Or.inl rfl))) (fun _ _ _ _ _ => pts_nil) (fun _ _ _ _ _ => (pe_callTy call_tuple_of (by rfl) T.tuple (by decide +kernel) (pa_cons (pe_lc (own := [("_law_at", 9)]) (g := (gName 9)) (tt := tYes) (te := tCall spFew [] E0 (tCons (tVar 0) (tCons (tVar 3) tNil))) rfl scBare.nd (pi_range1 rfl T.range (pa_cons (pv 4) pa_nil)) (blkOk_by (own := [("_law_at", 9)]) (N := nBare) (by rfl)) (fun _ _ _ _ _ => (pg_name (i := 9) scBare.nd rfl (Or.inl rfl))) (fun _ _ _ _ _ => pts_nil) (fun _ _ _ _ _ => (pe_call GF (hr.mono (by decide)) (by rfl) DF.m DF.F.kp DF.b .nil pass0 (pa_cons (pv 0) (pa_cons (pv 3) pa_nil))))) pa_nil)))) pa_nil)) rfl)))
    (pss_one (ps_ret (pe_disp (pps_cons pe_str (pv 5) (pps_cons pe_str (pv 6) (pps_cons pe_str (pe_callTy call_tuple_of (by rfl) T.tuple (by decide +kernel) (pa_cons (pe_lc (own := [("_law_turn", 8)]) (g := (gName 8)) (tt := tYes) (te := tCall spFew [] E0 (tCons (tVar 0) (tCons (tVar 3) tNil))) rfl scBare.nd (pi_range1 rfl T.range (pa_cons (pv 4) pa_nil)) (blkOk_by (own := [("_law_turn", 8)]) (N := nBare) (sc := defScope sBare) (by decide +kernel)) (fun _ _ _ _ _ => (pg_name (i := 8) scBare.nd rfl (Or.inl rfl))) (fun _ _ _ _ _ => pts_nil) (fun _ _ _ _ _ => (pe_call GF (hr.mono (by decide)) (by rfl) DF.m DF.F.kp DF.b .nil pass0 (pa_cons (pv 0) (pa_cons (pv 3) pa_nil))))) pa_nil)) (pps_cons pe_str (pv 3) pps_nil)))) (by rfl) (by rfl) (fun z => by cases z) (by decide)))))))), ?_⟩
    refine ⟨_, rfl, _, rfl, _, _, rfl, rfl, _, rfl, RgOk.of_le (Int.le_refl 0) (by decide) (by decide) (by decide), fun L nL => ?_⟩
    refine ⟨_, rfl, _, rfl, (by show 2 ≤ sizeLine; decide), fun L2 nL2 => ?_⟩
    have sL := same_upd (o := .lst (rgV 0 (3 + 1))) nL
    have sL2 := same_upd (o := .lst [V.int 3, .int 3]) nL2
    refine ⟨L, L2, _, _, rfl, rfl, sL2 _ _ upd_same, upd_same, (by show 6 ≤ sizeLine; decide), fun L3 nL3 => ?_⟩
    have sL3 := same_upd (o := .lst (rgV 0 (3 + 1) ++ [V.int 3, .int 3])) nL3
    have sL13 := (sL.trans sL2).trans sL3
    refine ⟨c, hc.same sL13, .inl ⟨L3, _, rfl, (hc.same (sL.trans sL2)).ne nL3, upd_same, by decide, by decide, fun x H1 hx hc1 b1 => ?_⟩⟩
    have b1 : But c H H1 := (But.of sL13).trans b1
    obtain ⟨n, rfl, hn⟩ : ∃ n : Nat, x = .int (n : Int) ∧ n ≤ 3 := by
      rcases List.mem_append.mp hx with hx | hx
      · unfold rgV at hx
        obtain ⟨i, hi, rfl⟩ := List.mem_map.mp hx
        have := List.mem_range.mp hi
        exact ⟨i, congrArg V.int (Int.zero_add _), by have : i < 4 := this; omega⟩
      · simp only [List.mem_cons, List.not_mem_nil, or_false] at hx
        rcases hx with rfl | rfl <;> exact ⟨3, rfl, Nat.le_refl _⟩
    clear hx sL sL2 sL3 sL13 nL nL2 nL3
    dsimp only [gName]
    refine ⟨_, rfl, _, rfl, by omega, by omega, fun D nD => ?_⟩
    rw [Int.toNat_natCast]
    refine row_drawn hc1 hn (fun _ => rfl) (fun i H2 hc2 Q' q' => ⟨_, rfl, _, rfl, c, p, rfl, hc2, hp, fun x H3 hx hc3 b3 => q' x H3 hx hc3 b3⟩) nD fun l H2 e2 ll hl hc2 b2 => ?_
    refine ⟨D, _, rfl, .inl ⟨SqL.of e2, fun a na => ?_⟩⟩
    have s3 := same_upd (o := .tup (intsV l)) na
    have ha3 : RowI (upd H2 a (.tup (intsV l))) a l := upd_same
    have hc3 := hc2.same s3
    have b3 : But c H (upd H2 a (.tup (intsV l))) := (b1.trans b2).trans (But.of s3)
    generalize upd H2 a (.tup (intsV l)) = H3 at ha3 hc3 b3 ⊢
    dsimp only [gName]
    intro pS nS
    have nS0 : H pS = none := by
      cases h : H pS with
      | none => rfl
      | some o =>
        have := b3 pS o (fun z => by
          obtain ⟨_, _, _, e⟩ := hc3
          rw [z, e] at nS
          cases nS) h
        rw [nS] at this
        cases this
    have nSc : pS ≠ c := hc3.ne nS
    have s4 := same_upd (o := .dK []) nS
    have hc4 := hc3.same s4
    have b4 : But c H (upd H3 pS (.dK [])) := b3.trans (But.of s4)
    have ha4 := s4 _ _ ha3
    have e4 : (upd H3 pS (.dK [])) pS = some (.dK []) := upd_same
    generalize upd H3 pS (.dK []) = H4 at hc4 b4 ha4 e4 ⊢
    dsimp only [gName]
    refine ⟨_, rfl, sg, rfl, ?_⟩
    refine Lc.for_text (fun i σ H5 => ∃ (u7 : Option V) (kvs : List (Key × V)) (W : List Mv), σ = [some (.ref c), some (.str sg), some (.int 3), some (pV p), some (.int (n : Int)), some (.ref a), some (.ref pS), u7, none, none] ∧ Cup H5 c ∧ But c H H5 ∧ RowI H5 a l ∧ H5 pS = some (.dK kvs) ∧ MvsAt H5 kvs W ∧ W.map (·.1) = (cds sg).take i ∧ ∀ m ∈ W, Ty.Sq n m.2 ∧ ∀ r ∈ m.2, ∀ x ∈ r, sm p x)
      ⟨none, [], [], rfl, hc4, b4, ha4, e4, .nil, rfl, nofun⟩ ?_ ?_
    · rintro i x σ H5 hx ⟨u7, kvs, W, rfl, hc5, b5, ha5, e5, w5, k5, q5⟩
      have hi := (List.getElem?_eq_some_iff.mp hx).1
      have lW : W.length = i := by
        have := congrArg List.length k5
        rw [List.length_map, List.length_take] at this
        omega
      have h3 := sg_three hsg
      dsimp only [gName]
      refine ⟨_, rfl, _, rfl, by omega, by omega, fun D nD => ?_⟩
      rw [Int.toNat_natCast]
      have nDc : D ≠ c := hc5.ne nD
      refine Lc.lcRDT (R := RowI) rowI_kt (c := c) (I := fun H => Cup H c) (P := fun l => l.length = n ∧ ∀ x ∈ l, sm p x) nD nDc (hc5.same (same_upd nD)) (Nat.lt_of_le_of_lt hn (by decide)) (fun _ => rfl) (fun H o h => h.put nDc) (fun H xs h => h.noT xs) ?_ ?_
      · intro j H6 hj hc6 b6 Q' q'
        refine ⟨_, rfl, _, rfl, by omega, by omega, fun D2 nD2 => ?_⟩
        rw [Int.toNat_natCast]
        refine row_drawn hc6 hn (fun _ => rfl) (fun i H2 hc2 Q' q' => ⟨_, rfl, _, rfl, c, p, rfl, hc2, hp, fun x H3 hx hc3 b3 => q' x H3 hx hc3 b3⟩) nD2 fun l2 H7 e7 ll2 hl2 hc7 b7 => ?_
        refine ⟨D2, _, rfl, .inl ⟨SqL.of e7, fun rr nr => ?_⟩⟩
        have s8 := same_upd (o := .tup (intsV l2)) nr
        exact q' rr l2 _ upd_same ⟨ll2, hl2⟩ (hc7.same s8) (b7.trans (But.of s8))
      · intro H6 ps A hc6 b6 e6 r6 lA hA
        have b6 : But c H5 H6 := b6
        refine ⟨D, _, rfl, .inl ⟨SqL.of e6, fun M nM => ?_⟩⟩
        have s7 := same_upd (o := .tup (ps.map V.ref)) nM
        have hM7 : SqAt (upd H6 M (.tup (ps.map V.ref))) M A := ⟨ps, upd_same, PySem.W.EachIs.mono (fun _ _ e => s7 _ _ e) r6⟩
        have hc7 := hc6.same s7
        have b57 : But c H5 (upd H6 M (.tup (ps.map V.ref))) := b6.trans (But.of s7)
        have e7 := b57 _ _ nSc e5
        have w7 := w5.keep (KeepT.but hc5.noT b57)
        have ha7 := RowI.but hc5 b57 ha5
        have b7 := b5.trans b57
        generalize upd H6 M (.tup (ps.map V.ref)) = H7 at hM7 hc7 b57 e7 w7 ha7 b7 ⊢
        have lk : kvs.length = i := by rw [mvs_len w7, lW]
        have nk : x ∉ W.map (·.1) := by
          rw [k5]
          intro hm
          obtain ⟨j, hj⟩ := List.mem_iff_getElem?.mp hm
          have hj1 := (List.getElem?_eq_some_iff.mp hj).1
          rw [List.length_take] at hj1
          rw [List.getElem?_take, if_pos (by omega)] at hj
          have := (List.getElem?_inj (by omega) (sg_nodup16 hsg)).mp (hj.trans hx.symm)
          omega
        refine ⟨_, rfl, _, rfl, pS, _, rfl, DPut.k (k := Sum.inr (one x)) e7 (Nat.lt_of_le_of_lt (show kvs.length ≤ 3 by omega) (by decide)), ?_⟩
        have k8 : KeepT H7 (upd H7 pS (.dK (putK kvs (Sum.inr (one x)) (.ref M)))) := KeepT.upd (.dK e7)
        refine ⟨some (.str (one x)), putK kvs (Sum.inr (one x)) (.ref M), W ++ [(x, A)], rfl, hc7.put nSc, b7.putN nS0, k8 _ _ ha7, upd_same, ?_, ?_, ?_⟩
        · generalize upd H7 pS (.dK (putK kvs (Sum.inr (one x)) (.ref M))) = H9 at k8 ⊢
          rw [putK_new (mvs_none w7 nk)]
          exact each_app (w7.keep k8) (.cons ⟨M, rfl, hM7.keep k8⟩ .nil)
        · rw [List.map_append, k5, List.take_add_one, hx]
          rfl
        · intro m hm
          rcases List.mem_append.mp hm with hm | hm
          · exact q5 m hm
          · rw [List.mem_singleton.mp hm]
            exact ⟨⟨lA, fun r hr => (hA r hr).1⟩, fun r hr => (hA r hr).2⟩
    · rintro σ H5 ⟨u7, kvs, W, rfl, hc5, b5, ha5, e5, w5, k5, q5⟩
      rw [List.take_of_length_le (Nat.le_refl _)] at k5
      intro pP nP
      have nP0 : pP ≠ c := hc5.ne nP
      have nPS : pP ≠ pS := (ne_of_none e5 nP).symm
      have nPH : H pP = none := by
        cases h : H pP with
        | none => rfl
        | some o =>
          rw [b5 pP o nP0 h] at nP
          cases nP
      have s6 := same_upd (o := .dK []) nP
      have hc6 := hc5.same s6
      have b6 := b5.trans (But.of (c := c) s6)
      have ha6 := s6 _ _ ha5
      have e6 := s6 _ _ e5
      have w6 := w5.keep (.same s6)
      have eP6 : (upd H5 pP (.dK [])) pP = some (.dK []) := upd_same
      generalize upd H5 pP (.dK []) = H6 at hc6 b6 ha6 e6 w6 eP6 ⊢
      refine ⟨_, rfl, _, rfl, ?_⟩
      refine ⟨_, rfl, _, rfl, by omega, by omega, fun D nD => ?_⟩
      rw [Int.toNat_natCast]
      refine row_drawn hc6 hn (fun _ => rfl) (fun i H2 hc2 Q' q' => ⟨_, rfl, _, rfl, c, p, rfl, hc2, hp, fun x H3 hx hc3 b3 => q' x H3 hx hc3 b3⟩) nD fun m H7 e7 lm hm hc7 b7 => ?_
      refine ⟨D, _, rfl, .inl ⟨SqL.of e7, fun b nb => ?_⟩⟩
      have s8 := same_upd (o := .tup (intsV m)) nb
      have hb8 : RowI (upd H7 b (.tup (intsV m))) b m := upd_same
      have hc8 := hc7.same s8
      have b68 : But c H6 (upd H7 b (.tup (intsV m))) := b7.trans (But.of s8)
      have ha8 := RowI.but hc6 b68 ha6
      have e8 := b68 _ _ nSc e6
      have w8 := w6.keep (KeepT.but hc6.noT b68)
      have eP8 := b68 _ _ nP0 eP6
      have b8 := b6.trans b68
      generalize upd H7 b (.tup (intsV m)) = H8 at hb8 hc8 b68 ha8 e8 w8 eP8 b8 ⊢
      refine ⟨_, rfl, eP8, kvB a pS b p, rfl, (by show 4 ≤ 15; decide), ?_⟩
      have k9 : KeepT H8 (upd H8 pP (.dK (kvB a pS b p))) := KeepT.upd (.dK eP8)
      have nd : (W.map (·.1)).Nodup := by rw [k5]; exact sg_nodup16 hsg
      have okt : okT ⟨sg, l, W, m, p, n⟩ := ⟨hsg, k5, ll, lm, fun x hx => (q5 x hx).1, hp⟩
      have sml : Sml ⟨sg, l, W, m, p, n⟩ := ⟨hn, hl, hm, fun x hx => (q5 x hx).2⟩
      refine q pP ⟨sg, l, W, m, p, n⟩ _ ⟨a, pS, b, upd_same, k9 _ _ ha8, ⟨kvs, by rw [upd_ne nPS.symm]; exact e8, w8.keep k9⟩, k9 _ _ hb8, okt, sml⟩ rfl rfl (hc8.put nP0) (b8.putN nPH)
end
end K16

set_option Elab.async false
set_option linter.all false
set_option maxRecDepth 100000
set_option maxHeartbeats 6400000
namespace K16
open PySem L2 Tx Tg Tm Da RZ
section
variable {P : Program} {w : World} {K : PySem.W.Frag} {mg : Str → Option Value} {base : Heap} {CM CT fM fT fR : Addr} {dM dT dR : FuncData}
def spMadeT (CT : Addr) : Sp := fun vs H Q _ => ∃ (P : Addr) (t : Tl), vs = [.str t.sg, .ref P] ∧ BareAt H P t ∧ ∀ x H', Same H H' → TlAt CT H' x t → Q (.ref x) H'
theorem scMadeT : FnScope ["_law_signs_here", "_law_bare_here"] ["_law_signs_here", "_law_bare_here"] (defScope sMadeT) := ⟨rfl, rfl, rfl, by decide +kernel, rfl, by decide +kernel, by decide +kernel⟩
theorem BareAt.okM {H : Hp} {P : Addr} {t : Tl} (h : BareAt H P t) : okM t.n t.W := by
  have ok := h.ok.N
  exact ⟨ok.nd, ok.sq, ok.few, fun m hm r hr => few_sm (h.sml.W m hm r hr)⟩
theorem resW_self {p : Option Int} {W : List Mv} (h : ∀ m ∈ W, ∀ r ∈ m.2, ∀ x ∈ r, sm p x) : resW p W = W := by
  have e1 : ∀ m ∈ W, ((m.1, m.2.map fun r => r.map (Ty.rest p)) : Mv) = m := fun m hm => by
    have e2 : m.2.map (fun r => r.map (Ty.rest p)) = m.2 := by
      have e3 : ∀ r ∈ m.2, r.map (Ty.rest p) = id r := fun r hr => rest_self (h m hm r hr)
      rw [List.map_congr_left e3, List.map_id]
    rw [e2]
  have e4 : ∀ m ∈ W, ((m.1, m.2.map fun r => r.map (Ty.rest p)) : Mv) = id m := e1
  show W.map _ = W
  rw [List.map_congr_left e4, List.map_id]
theorem ok_madeT {f : Addr} {fd : FuncData} (F : Fun K "_law_made_tally" "_law_made_tally" sMadeT f fd) (Z : MkT P w K mg base CM CT fM fT dM dT) : FnOk P w K mg base CX0 8 f fd ["_law_signs_here", "_law_bare_here"] (spMadeT CT) := by
  refine F.ok scMadeT (fun vs H Q E h => ?_) (fun cdv A outer s H vs Q E hr h => ?_)
  · obtain ⟨p, t, rfl, _⟩ := h
    rfl
  · obtain ⟨pP, t, rfl, hP, q⟩ := h
    have hu := hu_of hr
    obtain ⟨a, d, b, g1, g2, g3, g4, ha, hM, hb⟩ := hP.get
    have okt := hP.ok
    have sml := hP.sml
    have n3 := sml.n3
    refine ⟨_, (pss_one (ps_ret (pe_makeK Z.MT Z.gT (hr.mono (by decide)) (by rfl) Z.W.gT Z.kT pass0 (pa_cons (pv 0) (pa_cons (pe_dget hu (pv 1) pe_str (fun _ _ => rfl)) (pa_cons (pe_dget hu (pv 1) pe_str (fun _ _ => rfl)) (pa_cons (pe_dget hu (pv 1) pe_str (fun _ _ => rfl)) pa_nil)))) (pk_cons (pe_dget hu (pv 1) pe_str (fun _ _ => rfl)) pk_nil)))), ?_⟩
    refine ⟨_, rfl, _, rfl, pP, _, rfl, g1, _, rfl, pP, _, rfl, g2, _, rfl, pP, _, rfl, g3, ?_⟩
    refine ⟨_, rfl, pP, _, rfl, g4, rfl, rfl, fun x dx nx ndx nex => ?_⟩
    have sX : Same H (upd (upd H dx (.own x)) x (.ins CT dx [])) := same_two nx ndx
    refine ⟨x, dx, t.sg, a, d, b, t.u, t.v, t.W, t.n, t.p, rfl, upd_same, okt.sg, sX _ _ ha, sX _ _ hb, okt.lu, okt.lv, few_sm sml.u, few_sm sml.v, hM.same sX, hP.okM, okt.ord, by omega, okt.pr, fun H' bb h => ⟨rfl, ?_⟩⟩
    refine q x H' (fun c o e => bb _ _ (ne_of_none e nx) (sX _ _ e)) ?_
    rw [rest_self sml.u, rest_self sml.v, show (t.W.map fun w => ((w.1, w.2.map fun r => r.map (Ty.rest t.p)) : Mv)) = t.W from resW_self sml.W] at h
    exact h
/-- the comprehension over two rows, summed -/
theorem zip_ints {K : PySem.W.Frag} {te : TE} {σ : L2.St} {H1 : Hp} {D : Addr} {Qd : Hp → Prop} {j1 j2 : Nat} {a b : Addr} {xs ys : List V} {L : List Int} (ha : SqT K H1 a xs) (hb : SqT K H1 b ys) (l1 : xs.length = L.length) (l2 : ys.length = L.length) (hL : L.length ≤ 100) (nD : H1 D = none)
    (hw : ∀ u v, wipe (((wipe σ [j1, j2]).set j1 (some u)).set j2 (some v)) [j1, j2] = wipe σ [j1, j2])
    (hs : ∀ (i : Nat) (x y : V) (n : Int) (H2 : Hp), xs[i]? = some x → ys[i]? = some y → L[i]? = some n → Same H1 H2 → ∀ Q : VK, (∀ H3, Same H2 H3 → Q (.int n) H3) → te (((wipe σ [j1, j2]).set j1 (some x)).set j2 (some y)) H2 Q)
    (hd : ∀ H2, Same H1 H2 → H2 D = some (.lst (intsV L)) → Qd H2) :
    ∃ W : Nat → Nat → Hp → Prop, (∃ m, W 0 m (upd H1 D (.lst []))) ∧ ∀ i m H, W i m H →
      ((ItzT K a b).stop i H ∧ Qd H) ∨ ((ItzT K a b).go i H ∧ ∃ Nx : Hp → Prop, (∀ H', Nx H' → ∃ m', m' < m ∧ W (i + 1) m' H') ∧ ∀ x H', (ItzT K a b).yld i H x H' → gTup K 2 (gCons (gName j1) (gCons (gName j2) gNil)) x (wipe σ [j1, j2]) H' fun σ2 H2 => wipe σ2 [j1, j2] = wipe σ [j1, j2] ∧ tYes σ2 H2 fun b H3 =>
        if b = true then te σ2 H3 fun y H4 => ∃ acc, H4 D = some (.lst acc) ∧ acc.length < sizeLine ∧ Nx (upd H4 D (.lst (acc ++ [y]))) else Nx H3) := by
  refine Lc.lc_zipT (by omega) (fun i H4 => Same H1 H4 ∧ H4 D = some (.lst (intsV (L.take i)))) ⟨same_upd nD, upd_same⟩ (fun i H4 z => ⟨Lc.sqT_same z.1 ha, Lc.sqT_same z.1 hb⟩) ?_ ?_
  · rintro i x y t H4 hx hy ⟨s4, e4⟩ nt
    have hi := (List.getElem?_eq_some_iff.mp hx).1
    have hn : L[i]? = some L[i] := List.getElem?_eq_getElem (by omega)
    have s5 := same_upd (o := .tup [x, y]) nt
    refine ⟨t, _, rfl, SqT.of upd_same, rfl, _, _, rfl, _, _, rfl, rfl, hw _ _, iteT (B := False) ?_⟩
    refine hs i x y _ _ hx hy hn (s4.trans s5) _ fun H6 s6 => ⟨_, s6 _ _ (s5 _ _ e4), ?_, same_put ((s4.trans s5).trans s6) nD, ?_⟩
    · rw [List.length_map, List.length_take]
      exact Nat.lt_of_le_of_lt (show _ ≤ 100 by omega) (by decide)
    · rw [upd_same, List.take_add_one, hn]
      show some (HO.lst _) = some (HO.lst (List.map V.int (_ ++ [_])))
      rw [List.map_append]
      rfl
  · rintro H4 ⟨s4, e4⟩
    rw [List.take_of_length_le (by omega)] at e4
    exact hd H4 s4 e4
theorem stepR_eq {p : Option Int} {n : Nat} {W : List Mv} {r : List Int} {c : Nat} {M : List (List Int)} (h : W.find? (fun m => decide (m.1 = c)) = some (c, M)) : stepR p n W r c = (List.range n).map fun j => Ty.rest p (Ty.dotL r (M.map fun q => q.getD j 0)) := by
  unfold stepR Ty.vmL Ty.turned
  rw [h, List.map_map, List.map_map]
  rfl
abbrev nNum : List Str := ["_law_bare_here", "_law_line_here", "_law_row", "_law_sign", "_law_square", "_law_at", "_law_a", "_law_b"]
def spNum : Sp := fun vs H Q _ => ∃ (P : Addr) (t : Tl) (z : Str), vs = [.ref P, .str z] ∧ BareAt H P t ∧ Over t.sg z ∧ ∀ H', Same H H' → Q (.int (numT t z)) H'
theorem scNum : FnScope nNum ["_law_bare_here", "_law_line_here"] (defScope sNumOf) := ⟨rfl, rfl, rfl, by decide +kernel, rfl, by decide +kernel, by decide +kernel⟩
theorem ok_num {f : Addr} {fd : FuncData} (F : Fun K "_law_num_of" "_law_num_of" sNumOf f fd) (T : Txt K mg) (DR : Df K mg "_law_rest" sLRest ["_law_much", "_law_kind_here"] fR dR) : FnOk P w K mg base CX0 2 f fd ["_law_bare_here", "_law_line_here"] spNum := by
  have GR := ok_lrest (P := P) (w := w) (base := base) DR.F T
  refine F.ok scNum (fun vs H Q E h => ?_) (fun cdv A outer s H vs Q E hr h => ?_)
  · obtain ⟨p, t, z, rfl, _⟩ := h
    rfl
  · obtain ⟨pP, t, z, rfl, hP, hz, q⟩ := h
    have hu := hu_of hr
    obtain ⟨a, d, b, g1, g2, g3, g4, ha, hM, hb⟩ := hP.get
    have okt := hP.ok
    have sml := hP.sml
    have n3 := sml.n3
    refine ⟨_, (pss_cons (ps_set (i := 2) scNum.nd rfl (Or.inr rfl) (pe_dget hu (pv 0) pe_str (fun _ _ => rfl)))
    (pss_cons (ps_for PassesOwn.never rfl (pi_str (pv 1)) (pg_name (i := 3) scNum.nd rfl (Or.inl rfl))
      (pss_cons (ps_set (i := 4) scNum.nd rfl (Or.inr rfl) (pe_dget hu (pe_dget hu (pv 0) pe_str (fun _ _ => rfl)) (pv 3) (fun _ _ => rfl)))
      (pss_one (ps_set (i := 2) scNum.nd rfl (Or.inr rfl) (pe_callTy call_tuple_of (by rfl) T.tuple (by decide +kernel) (pa_cons (pe_lc (own := [("_law_at", 5)]) (g := (gName 5)) (tt := tYes) (te := tCall spLRest [] E0 (tCons (tCB (rSum K) (tCons (tLc (iZipA K (tCons (tVar 2) (tCons (tVar 4) tNil))) (gTup K 2 (gCons (gName 6) (gCons (gName 7) gNil))) tYes (tOp (rI CMul fun i j => .int (i * j)) (tVar 6) (tOp (rIxT K) (tVar 7) (tVar 5))) [6, 7]) tNil)) (tCons (tDGet (tVar 0) (tC (.str "kind"))) tNil))) rfl scNum.nd (pi_range1 rfl T.range (pa_cons (pe_callB call_len_seq (by rfl) T.len PySem.boot_len (pa_cons (pv 2) pa_nil)) pa_nil)) (blkOk_by (own := [("_law_at", 5)]) (N := nNum) (sc := defScope sNumOf) (by decide +kernel)) (fun _ _ _ _ _ => (pg_name (i := 5) scNum.nd rfl (Or.inr rfl))) (fun _ _ _ _ _ => pts_nil) (fun _ _ _ _ _ => (pe_call GR (hr.mono (by decide)) (by rfl) DR.m DR.F.kp DR.b .nil pass0 (pa_cons (pe_callB (cr_sum rfl) (by rfl) T.sum (by decide +kernel) (pa_cons (pe_lc (own := [("_law_a", 6), ("_law_b", 7)]) (g := (gTup K 2 (gCons (gName 6) (gCons (gName 7) gNil)))) (tt := tYes) (te := tOp (rI CMul fun i j => .int (i * j)) (tVar 6) (tOp (rIxT K) (tVar 7) (tVar 5))) rfl scNum.nd (pi_zipA (by rfl) T.zip (pa_cons (pv 2) (pa_cons (pv 4) pa_nil))) (blkOk_by (own := [("_law_a", 6), ("_law_b", 7)]) (N := nNum) (by rfl)) (fun _ _ _ _ _ => (pg_tup rfl (pgs_cons (pg_name (i := 6) scNum.nd rfl (Or.inl rfl)) (pgs_cons (pg_name (i := 7) scNum.nd rfl (Or.inl rfl)) pgs_nil)))) (fun _ _ _ _ _ => pts_nil) (fun _ _ _ _ _ => (pe_op op_mul (pv 6) (pe_ix ix_tup (pv 7) (pv 5) (fun _ _ => rfl))))) pa_nil)) (pa_cons (pe_dget hu (pv 0) pe_str (fun _ _ => rfl)) pa_nil))))) pa_nil))))))
    (pss_one (ps_ret (pe_call GR (hr.mono (by decide)) (by rfl) DR.m DR.F.kp DR.b .nil pass0 (pa_cons (pe_callB (cr_sum rfl) (by rfl) T.sum (by decide +kernel) (pa_cons (pe_lc (own := [("_law_a", 6), ("_law_b", 7)]) (g := (gTup K 2 (gCons (gName 6) (gCons (gName 7) gNil)))) (tt := tYes)  rfl scNum.nd (pi_zipA (by rfl) T.zip (pa_cons (pv 2) (pa_cons (pe_dget hu (pv 0) pe_str (fun _ _ => rfl)) pa_nil))) (blkOk_by (own := [("_law_a", 6), ("_law_b", 7)]) (N := nNum) (sc := defScope sNumOf) (by decide +kernel)) (fun _ _ _ _ _ => (pg_tup rfl (pgs_cons (pg_name (i := 6) scNum.nd rfl (Or.inl rfl)) (pgs_cons (pg_name (i := 7) scNum.nd rfl (Or.inl rfl)) pgs_nil)))) (fun _ _ _ _ _ => pts_nil) (fun _ _ _ _ _ => (pe_op op_mul (pv 6) (pv 7)))) pa_nil)) (pa_cons (pe_dget hu (pv 0) pe_str (fun _ _ => rfl)) pa_nil))))))), ?_⟩
    have ok := hP.okM
    dsimp only [tSeq]
    refine ⟨_, rfl, pP, _, rfl, g1, ?_⟩
    dsimp only [gName]
    refine ⟨_, rfl, z, rfl, ?_⟩
    refine Lc.for_text (fun i σ H1 => ∃ (u3 u4 : Option V) (a' : Addr), σ = [some (.ref pP), some (.str z), some (.ref a'), u3, u4, none, none, none] ∧ Same H H1 ∧ RowI H1 a' (((cds z).take i).foldl (stepR t.p t.n t.W) t.u)) ⟨none, none, a, rfl, Same.refl H, ha⟩ ?_ ?_
    · rintro i c σ H1 hc ⟨u3, u4, a', rfl, s1, ha1⟩
      have hc2 : c ∈ t.W.map (·.1) := by
        rw [okt.ord]
        exact hz c (List.mem_of_getElem? hc)
      obtain ⟨M, hM2, hf⟩ := find_at ok hc2
      have sqM := ok.sq _ hM2
      have hP1 := hP.same s1
      obtain ⟨_, d1, _, _, k2, _, k4, _, hM1, _⟩ := hP1.get
      obtain ⟨pM, gM, ⟨ps, ep, rp⟩⟩ := hM1.get ok.nd hM2
      have lrow : (((cds z).take i).foldl (stepR t.p t.n t.W) t.u).length = t.n := foldR_len okt.lu
      generalize erow : ((cds z).take i).foldl (stepR t.p t.n t.W) t.u = row at ha1 lrow
      dsimp only [gName]
      refine ⟨_, rfl, pP, _, rfl, k2, _, rfl, d1, _, rfl, gM, ?_⟩
      dsimp only [gName]
      refine ⟨_, rfl, a', _, rfl, .inr (SqT.of ha1), _, rfl, (by rw [List.length_map, lrow]; omega), (by rw [List.length_map, lrow]; omega), fun D nD => ?_⟩
      rw [List.length_map, lrow, Int.toNat_natCast]
      refine Lc.lcRS (ys := intsV (stepR t.p t.n t.W row c)) nD (by rw [List.length_map, stepR_len]) (Nat.lt_of_le_of_lt (show t.n ≤ 100 by omega) (by decide)) (fun _ => rfl) ?_ ?_
      · intro j y H3 hj hy s3 Q' q'
        rw [stepR_eq hf, List.getElem?_map, List.getElem?_map, List.getElem?_range hj] at hy
        cases hy
        have s13 := same_upd (H := H1) (p := D) (o := .lst []) nD
        have lM : M.length = t.n := sqM.len
        have lps := rp.length
        refine ⟨_, rfl, _, rfl, a', pM, intsV row, ps.map V.ref, rfl, .inr ⟨SqT.of (s3 _ _ ha1), SqT.of (s3 _ _ ep), fun D2 nD2 => ?_⟩⟩
        refine zip_ints (L := List.zipWith (· * ·) row (M.map fun q => q.getD j 0)) (SqT.of (s3 _ _ ha1)) (SqT.of (s3 _ _ ep)) (by rw [List.length_map, List.length_zipWith, List.length_map]; omega) (by rw [List.length_map, List.length_zipWith, List.length_map]; omega) (by rw [List.length_zipWith, List.length_map]; omega) nD2 (fun _ _ => rfl) ?_ ?_
        · intro i2 x y n H4 hx hy hn s4 Q2 q2
          have hi2 := (List.getElem?_eq_some_iff.mp hx).1
          rw [List.length_map] at hi2
          have hiM : i2 < M.length := by omega
          have hips : i2 < ps.length := by omega
          rw [List.getElem?_map, List.getElem?_eq_getElem hi2] at hx
          rw [List.getElem?_map, List.getElem?_eq_getElem hips] at hy
          rw [List.getElem?_zipWith, List.getElem?_map, List.getElem?_eq_getElem hi2, List.getElem?_eq_getElem hiM] at hn
          cases hx
          cases hy
          cases hn
          have hrow := each_at2 rp (List.getElem?_eq_getElem hips) (List.getElem?_eq_getElem hiM)
          have lr : j < M[i2].length := by rw [sqM.row _ (List.getElem_mem hiM)]; exact hj
          have sx := (sml.W _ hM2 _ (List.getElem_mem hiM) _ (List.getElem_mem lr)).1
          have ej : M[i2].getD j 0 = M[i2][j] := by rw [List.getD_eq_getElem?_getD, List.getElem?_eq_getElem lr]; rfl
          refine ⟨_, rfl, _, rfl, _, rfl, ps[i2], _, _, .int M[i2][j], rfl, (congrArg V.int (Int.zero_add _)), SqT.of (s4 _ _ (s3 _ _ hrow)), atI_nat (by rw [List.getElem?_map, List.getElem?_eq_getElem lr]; rfl), _, _, rfl, rfl, .inr ⟨by omega, by omega⟩, ?_⟩
          rw [← ej]
          exact q2 H4 (Same.refl _)
        · intro H4 s4 e4
          obtain ⟨_, _, _, _, _, _, k4', _⟩ := (hP1.same (s3.trans s4)).get
          refine ⟨D2, _, rfl, SqL.of e4, _, rfl, pP, _, rfl, k4', _, t.p, rfl, okt.pr, ?_⟩
          exact q' H4 s4
      · intro H3 s3 e3
        refine ⟨D, _, rfl, .inl ⟨SqL.of e3, fun rr nr => ?_⟩⟩
        refine ⟨some (.str (one c)), some (.ref pM), rr, rfl, (s1.trans s3).trans (same_upd nr), ?_⟩
        rw [List.take_add_one, hc, List.foldl_append, erow]
        exact upd_same
    · rintro σ H1 ⟨u3, u4, a', rfl, s1, ha1⟩
      rw [List.take_of_length_le (Nat.le_refl _)] at ha1
      have hP1 := hP.same s1
      obtain ⟨_, _, b1, _, _, k3, k4, _, _, hb1⟩ := hP1.get
      have lrow : (ledU t z).length = t.n := foldR_len okt.lu
      have ez : Ty.dotL (ledU t z) t.v = (List.zipWith (· * ·) (ledU t z) t.v).sum := rfl
      have q : ∀ H', Same H H' → Q (V.int (Ty.rest t.p (Ty.dotL (ledU t z) t.v))) H' := q
      have ha1 : RowI H1 a' (ledU t z) := ha1
      generalize ledU t z = rz at ha1 lrow ez q
      refine ⟨_, rfl, _, rfl, pP, _, rfl, k3, a', b1, intsV rz, intsV t.v, rfl, .inr ⟨SqT.of ha1, SqT.of hb1, fun D2 nD2 => ?_⟩⟩
      have lv := okt.lv
      refine zip_ints (L := List.zipWith (· * ·) rz t.v) (SqT.of ha1) (SqT.of hb1) (by rw [List.length_map, List.length_zipWith]; omega) (by rw [List.length_map, List.length_zipWith]; omega) (by rw [List.length_zipWith]; omega) nD2 (fun _ _ => rfl) ?_ ?_
      · intro i2 x y n H4 hx hy hn s4 Q2 q2
        have hi2 := (List.getElem?_eq_some_iff.mp hx).1
        have hi3 := (List.getElem?_eq_some_iff.mp hy).1
        rw [List.length_map] at hi2 hi3
        rw [List.getElem?_map, List.getElem?_eq_getElem hi2] at hx
        rw [List.getElem?_map, List.getElem?_eq_getElem hi3] at hy
        rw [List.getElem?_zipWith, List.getElem?_eq_getElem hi2, List.getElem?_eq_getElem hi3] at hn
        cases hx
        cases hy
        cases hn
        have sx := (sml.v _ (List.getElem_mem hi3)).1
        exact ⟨_, rfl, _, rfl, _, _, rfl, rfl, .inr ⟨by omega, by omega⟩, q2 H4 (Same.refl _)⟩
      · intro H4 s4 e4
        obtain ⟨_, _, _, _, _, _, k4', _⟩ := (hP1.same s4).get
        exact ⟨D2, _, rfl, SqL.of e4, _, rfl, pP, _, rfl, k4', _, t.p, rfl, okt.pr, q H4 (s1.trans s4)⟩
end
end K16

set_option Elab.async false
set_option linter.all false
set_option maxRecDepth 100000
set_option maxHeartbeats 6400000
namespace K16
open PySem L2 Tx Tg Tm Da RZ
/-! ### what the numbers are -/
def atW (W : List Mv) (c : Nat) : List (List Int) := ((W.find? fun m => decide (m.1 = c)).map (·.2)).getD []
abbrev Ms (W : List Mv) (l : List Nat) : List (Nat → Nat → Int) := l.map fun c => Ty.sq (atW W c)
theorem atW_of {W : List Mv} {c : Nat} {M : List (List Int)} (nd : (W.map (·.1)).Nodup) (h : (c, M) ∈ W) : atW W c = M := by
  unfold atW
  rw [find_of nd h]
  rfl
theorem atW_mem {W : List Mv} {c : Nat} (nd : (W.map (·.1)).Nodup) (h : c ∈ W.map (·.1)) : (c, atW W c) ∈ W := by
  obtain ⟨m, hm, rfl⟩ := List.mem_map.mp h
  rw [atW_of (M := m.2) nd hm]
  exact hm
theorem atW_map {g : List (List Int) → List (List Int)} {W : List Mv} {c : Nat} (nd : (W.map (·.1)).Nodup) (h : c ∈ W.map (·.1)) : atW (W.map fun w => (w.1, g w.2)) c = g (atW W c) := by
  refine atW_of ?_ (List.mem_map.mpr ⟨_, atW_mem nd h, rfl⟩)
  rw [List.map_map]
  exact nd
theorem zip_in {f : List (List Int) → List (List Int) → List (List Int)} : ∀ {A B : List Mv} {c : Nat} {M1 M2 : List (List Int)}, A.map (·.1) = B.map (·.1) → (A.map (·.1)).Nodup → (c, M1) ∈ A → (c, M2) ∈ B → (c, f M1 M2) ∈ zipW f A B
  | a :: A, b :: B, c, M1, M2, h, nd, h1, h2 => by
    rw [List.map_cons, List.map_cons] at h
    injection h with e1 e2
    rw [List.map_cons, List.nodup_cons] at nd
    show (c, f M1 M2) ∈ (a.1, f a.2 b.2) :: zipW f A B
    rcases List.mem_cons.mp h1 with rfl | h1
    · rcases List.mem_cons.mp h2 with rfl | h2
      · exact List.mem_cons_self
      · exact absurd (show c ∈ A.map (·.1) by rw [e2]; exact List.mem_map.mpr ⟨_, h2, rfl⟩) nd.1
    · rcases List.mem_cons.mp h2 with rfl | h2
      · exact absurd (List.mem_map.mpr ⟨_, h1, rfl⟩) (by rw [e1] at nd; exact nd.1)
      · exact List.mem_cons_of_mem _ (zip_in e2 nd.2 h1 h2)
  | [], _, _, _, _, _, _, h1, _ => nomatch h1
  | _ :: _, [], _, _, _, h, _, _, _ => nomatch h
theorem atW_zip {f : List (List Int) → List (List Int) → List (List Int)} {A B : List Mv} {c : Nat} (e : A.map (·.1) = B.map (·.1)) (nd : (A.map (·.1)).Nodup) (h : c ∈ A.map (·.1)) : atW (zipW f A B) c = f (atW A c) (atW B c) :=
  atW_of (by rw [zipW_keys e]; exact nd) (zip_in e nd (atW_mem nd h) (atW_mem (by rw [← e]; exact nd) (by rw [← e]; exact h)))
theorem fn_map {f : Int → Int} {l : List Int} {i : Nat} (h : i < l.length) : Ty.fn (l.map f) i = f (Ty.fn l i) := by
  unfold Ty.fn
  rw [List.getD_eq_getElem?_getD, List.getD_eq_getElem?_getD, List.getElem?_map, List.getElem?_eq_getElem h]
  rfl
theorem sq_at {A : List (List Int)} {i j : Nat} (hi : i < A.length) (hj : j < A[i].length) : Ty.sq A i j = A[i][j] := by
  unfold Ty.sq
  rw [List.getD_eq_getElem?_getD, List.getD_eq_getElem?_getD, List.getElem?_eq_getElem hi]
  show (A[i])[j]?.getD 0 = _
  rw [List.getElem?_eq_getElem hj]
  rfl
theorem sq_rest {p : Option Int} {n : Nat} {A : List (List Int)} (h : Ty.Sq n A) {i j : Nat} (hi : i < n) (hj : j < n) : Ty.sq (A.map fun r => r.map (Ty.rest p)) i j = Ty.rest p (Ty.sq A i j) := by
  have h1 : i < A.length := by rw [h.len]; exact hi
  have h2 : j < A[i].length := by rw [h.row _ (List.getElem_mem h1)]; exact hj
  rw [sq_at h1 h2, sq_at (by rw [List.length_map]; exact h1) (by rw [List.getElem_map, List.length_map]; exact h2)]
  simp
theorem ledR_congr {p : Option Int} {n : Nat} : ∀ {Ms : List (Nat → Nat → Int)} {r r' : Nat → Int}, (∀ i, i < n → r i = r' i) → ∀ i, i < n → Ty.ledR p n r Ms i = Ty.ledR p n r' Ms i
  | [], _, _, h => h
  | M :: Ms, r, r', h => ledR_congr (Ms := Ms) (r := Ty.fvR p n r M) (r' := Ty.fvR p n r' M) fun j _ => congrArg (Ty.rest p) (Ty.S_congr fun i hi => by rw [h i hi])
theorem ledR_fn {p : Option Int} {n : Nat} {W : List Mv} : ∀ {l : List Nat} {r : List Int}, r.length = n → (∀ c ∈ l, Ty.Sq n (atW W c)) → ∀ i, i < n → Ty.fn (l.foldl (stepR p n W) r) i = Ty.ledR p n (Ty.fn r) (Ms W l) i
  | [], _, _, _, _, _ => rfl
  | c :: l, r, hr, hW, i, hi => by
    show Ty.fn (l.foldl (stepR p n W) (stepR p n W r c)) i = Ty.ledR p n (Ty.fvR p n (Ty.fn r) (Ty.sq (atW W c))) (Ms W l) i
    rw [ledR_fn (l := l) stepR_len (fun x hx => hW x (List.mem_cons_of_mem _ hx)) i hi]
    refine ledR_congr (fun j hj => ?_) i hi
    obtain ⟨l1, l2⟩ := Ty.vm_fn hr (hW c List.mem_cons_self)
    show Ty.fn ((Ty.vmL n r (atW W c)).map (Ty.rest p)) j = Ty.rest p (Ty.fv n (Ty.fn r) (Ty.sq (atW W c)) j)
    rw [fn_map (by rw [l1]; exact hj), l2 j hj]
abbrev numP (p : Option Int) (n : Nat) (u : List Int) (W : List Mv) (v : List Int) (l : List Nat) : Int := Ty.rest p (Ty.dotL (l.foldl (stepR p n W) u) v)
theorem numP_eq {p : Option Int} {n : Nat} {u : List Int} {W : List Mv} {v : List Int} {l : List Nat} {r c : Nat → Int} {Ms' : List (Nat → Nat → Int)} (hu : u.length = n) (hv : v.length = n) (hW : ∀ x ∈ l, Ty.Sq n (atW W x))
    (e1 : ∀ i, i < n → Ty.Eqv p (Ty.fn u i) (r i)) (e2 : ∀ i, i < n → Ty.Eqv p (Ty.fn v i) (c i)) (m : Ty.MsEqv p n (Ms W l) Ms') : numP p n u W v l = Ty.rest p (Ty.num n r Ms' c) := by
  have lf : (l.foldl (stepR p n W) u).length = n := foldR_len hu
  show Ty.rest p (Ty.dotL (l.foldl (stepR p n W) u) v) = _
  rw [Ty.dot_fn (by rw [lf, hv]), lf]
  have : Ty.dt n (Ty.fn (l.foldl (stepR p n W) u)) (Ty.fn v) = Ty.dt n (Ty.ledR p n (Ty.fn u) (Ms W l)) (Ty.fn v) := Ty.S_congr fun i hi => by rw [ledR_fn hu hW i hi]
  rw [this]
  exact Ty.num_rest m e1 e2
theorem ms_map {p : Option Int} {n : Nat} {f g : Nat → Nat → Nat → Int} : ∀ {l : List Nat}, (∀ c ∈ l, ∀ i j, i < n → j < n → Ty.Eqv p (f c i j) (g c i j)) → Ty.MsEqv p n (l.map f) (l.map g)
  | [], _ => .nil
  | c :: l, h => .cons (h c List.mem_cons_self) (ms_map fun x hx => h x (List.mem_cons_of_mem _ hx))
theorem blks_map {n : Nat} {f g : Nat → Nat → Nat → Int} : ∀ {l : List Nat}, Ty.blks n (l.map f) (l.map g) = l.map fun c => Ty.blk n (f c) (g c)
  | [] => rfl
  | c :: l => by
    show _ :: Ty.blks n (l.map f) (l.map g) = _
    rw [blks_map]
    rfl
theorem kros_map {n : Nat} {f g : Nat → Nat → Nat → Int} : ∀ {l : List Nat}, Ty.kros n (l.map f) (l.map g) = l.map fun c => Ty.kro n (f c) (g c)
  | [] => rfl
  | c :: l => by
    show _ :: Ty.kros n (l.map f) (l.map g) = _
    rw [kros_map]
    rfl
/-- the number without any rest -/
def pureN (t : Tl) (l : List Nat) : Int := Ty.num t.n (Ty.fn t.u) (Ms t.W l) (Ty.fn t.v)
theorem okT.at {t : Tl} (h : okT t) {c : Nat} (hc : c ∈ cds t.sg) : Ty.Sq t.n (atW t.W c) := h.sq _ (atW_mem h.N.nd (by rw [h.ord]; exact hc))
theorem numT_pure {t : Tl} (h : okT t) {z : Str} (hz : Over t.sg z) : numT t z = Ty.rest t.p (pureN t (cds z)) :=
  numP_eq h.lu h.lv (fun x hx => h.at (hz x hx)) (fun _ _ => rfl) (fun _ _ => rfl) (Ty.MsEqv.refl _ _ _)
/-- a tally that was made of parts: its numbers are those of the parts -/
theorem numT_mk {t : Tl} {l m : List Int} {W : List Mv} {n : Nat} {z : Str} {r c : Nat → Int} {g : Nat → Nat → Nat → Int} (ok : okT (mkTl t l W m n)) (hl : l.length = n) (hm : m.length = n) (nd : (W.map (·.1)).Nodup) (hk : ∀ x ∈ cds z, x ∈ W.map (·.1)) (hs : ∀ x ∈ cds z, Ty.Sq n (atW W x))
    (e1 : ∀ i, i < n → Ty.Eqv t.p (Ty.fn l i) (r i)) (e2 : ∀ i, i < n → Ty.Eqv t.p (Ty.fn m i) (c i)) (e3 : ∀ x ∈ cds z, ∀ i j, i < n → j < n → Ty.sq (atW W x) i j = g x i j) : numT (mkTl t l W m n) z = Ty.rest t.p (Ty.num n r ((cds z).map g) c) := by
  have ea : ∀ x ∈ cds z, atW (resW t.p W) x = (atW W x).map fun r => r.map (Ty.rest t.p) := fun x hx => atW_map (g := fun M => M.map fun r => r.map (Ty.rest t.p)) nd (hk x hx)
  refine numP_eq (p := t.p) (n := n) ok.lu ok.lv (fun x hx => ?_) (fun i hi => ?_) (fun i hi => ?_) (ms_map fun x hx i j hi hj => ?_)
  · show Ty.Sq n (atW (resW t.p W) x)
    rw [ea x hx]
    refine ⟨by rw [List.length_map]; exact (hs x hx).len, fun r hr => ?_⟩
    obtain ⟨r0, h0, rfl⟩ := List.mem_map.mp hr
    rw [List.length_map]
    exact (hs x hx).row _ h0
  · show Ty.Eqv t.p (Ty.fn (l.map (Ty.rest t.p)) i) (r i)
    rw [fn_map (by omega)]
    exact (Ty.Eqv.of_rest _ _).trans (e1 i hi)
  · show Ty.Eqv t.p (Ty.fn (m.map (Ty.rest t.p)) i) (c i)
    rw [fn_map (by omega)]
    exact (Ty.Eqv.of_rest _ _).trans (e2 i hi)
  · show Ty.Eqv t.p (Ty.sq (atW (resW t.p W) x) i j) (g x i j)
    rw [ea x hx, sq_rest (hs x hx) hi hj, e3 x hx i j hi hj]
    exact Ty.Eqv.of_rest _ _
theorem Over.keys {t : Tl} (h : okT t) {z : Str} (hz : Over t.sg z) : ∀ x ∈ cds z, x ∈ t.W.map (·.1) := fun x hx => by rw [h.ord]; exact hz x hx
theorem fn_scale {k : Int} {l : List Int} (i : Nat) : Ty.fn (l.map (k * ·)) i = k * Ty.fn l i := by
  by_cases h : i < l.length
  · exact fn_map (f := (k * ·)) h
  · unfold Ty.fn
    rw [List.getD_eq_getElem?_getD, List.getD_eq_getElem?_getD, List.getElem?_eq_none (by rw [List.length_map]; omega), List.getElem?_eq_none (by omega)]
    exact (Int.mul_zero k).symm
theorem numT_join {t s : Tl} {k : Int} {z : Str} (ht : okT t) (hs : okT s) (es : s.sg = t.sg) (hz : Over t.sg z) (ok : okT (mkTl t (t.u ++ s.u.map (k * ·)) (zipW Ty.joinL t.W s.W) (t.v ++ s.v) (t.n + s.n))) :
    numT (mkTl t (t.u ++ s.u.map (k * ·)) (zipW Ty.joinL t.W s.W) (t.v ++ s.v) (t.n + s.n)) z = Ty.rest t.p (pureN t (cds z) + k * pureN s (cds z)) := by
  have ke : t.W.map (·.1) = s.W.map (·.1) := by rw [ht.ord, hs.ord, es]
  have kk : ∀ x ∈ cds z, x ∈ t.W.map (·.1) := Over.keys ht hz
  have ea : ∀ x ∈ cds z, atW (zipW Ty.joinL t.W s.W) x = Ty.joinL (atW t.W x) (atW s.W x) := fun x hx => atW_zip ke ht.N.nd (kk x hx)
  have q1 : ∀ x ∈ cds z, Ty.Sq t.n (atW t.W x) := fun x hx => ht.at (hz x hx)
  have q2 : ∀ x ∈ cds z, Ty.Sq s.n (atW s.W x) := fun x hx => hs.at (by rw [es]; exact hz x hx)
  rw [numT_mk (r := Ty.cat t.n (Ty.fn t.u) (fun i => k * Ty.fn s.u i)) (c := Ty.cat t.n (Ty.fn t.v) (Ty.fn s.v)) (g := fun x => Ty.blk t.n (Ty.sq (atW t.W x)) (Ty.sq (atW s.W x))) ok (by rw [List.length_append, List.length_map, ht.lu, hs.lu]) (by rw [List.length_append, ht.lv, hs.lv]) (by rw [zipW_keys ke]; exact ht.N.nd) (fun x hx => by rw [zipW_keys ke]; exact kk x hx)
    (fun x hx => by rw [ea x hx]; exact Ty.join_sq (q1 x hx) (q2 x hx)) (fun i hi => ?_) (fun i hi => ?_) (fun x hx i j hi hj => by rw [ea x hx]; exact Ty.join_at (q1 x hx) (q2 x hx) i j hi)]
  · rw [← blks_map, Ty.num_cat t.n s.n (by rw [List.length_map, List.length_map]), Ty.num_scale]
    rfl
  · rw [Ty.fn_app, ht.lu]
    have : Ty.fn (s.u.map (k * ·)) = fun i => k * Ty.fn s.u i := funext fun i => fn_scale i
    rw [this]
    exact Ty.Eqv.refl _ _
  · rw [Ty.fn_app, ht.lv]
    exact Ty.Eqv.refl _ _
theorem numT_cross {t s : Tl} {z : Str} (ht : okT t) (hs : okT s) (es : s.sg = t.sg) (hz : Over t.sg z) (ok : okT (mkTl t (Ty.crossR t.u s.u) (zipW Ty.crossL t.W s.W) (Ty.crossR t.v s.v) (t.n * s.n))) :
    numT (mkTl t (Ty.crossR t.u s.u) (zipW Ty.crossL t.W s.W) (Ty.crossR t.v s.v) (t.n * s.n)) z = Ty.rest t.p (pureN t (cds z) * pureN s (cds z)) := by
  have ke : t.W.map (·.1) = s.W.map (·.1) := by rw [ht.ord, hs.ord, es]
  have kk : ∀ x ∈ cds z, x ∈ t.W.map (·.1) := Over.keys ht hz
  have ea : ∀ x ∈ cds z, atW (zipW Ty.crossL t.W s.W) x = Ty.crossL (atW t.W x) (atW s.W x) := fun x hx => atW_zip ke ht.N.nd (kk x hx)
  have q1 : ∀ x ∈ cds z, Ty.Sq t.n (atW t.W x) := fun x hx => ht.at (hz x hx)
  have q2 : ∀ x ∈ cds z, Ty.Sq s.n (atW s.W x) := fun x hx => hs.at (by rw [es]; exact hz x hx)
  have lc : ∀ a b : List Int, (Ty.crossR a b).length = a.length * b.length := fun a b => Ty.each_len
  rw [numT_mk (r := Ty.prd s.n (Ty.fn t.u) (Ty.fn s.u)) (c := Ty.prd s.n (Ty.fn t.v) (Ty.fn s.v)) (g := fun x => Ty.kro s.n (Ty.sq (atW t.W x)) (Ty.sq (atW s.W x))) ok (by rw [lc, ht.lu, hs.lu]) (by rw [lc, ht.lv, hs.lv]) (by rw [zipW_keys ke]; exact ht.N.nd) (fun x hx => by rw [zipW_keys ke]; exact kk x hx)
    (fun x hx => by rw [ea x hx]; exact Ty.cross_sq (q1 x hx) (q2 x hx)) (fun i hi => ?_) (fun i hi => ?_) (fun x hx i j hi hj => by rw [ea x hx]; exact Ty.cross_at (q1 x hx) (q2 x hx) i j hi hj)]
  · rw [← kros_map, Ty.num_prd t.n s.n (by rw [List.length_map, List.length_map])]
    rfl
  · rw [Ty.crossR_fn (by rw [ht.lu, hs.lu]; exact hi), hs.lu]
    exact Ty.Eqv.refl _ _
  · rw [Ty.crossR_fn (by rw [ht.lv, hs.lv]; exact hi), hs.lv]
    exact Ty.Eqv.refl _ _
theorem numT_times {t : Tl} {k : Int} {z : Str} (ht : okT t) (hz : Over t.sg z) (ok : okT (mkTl t (t.u.map (k * ·)) t.W t.v t.n)) : numT (mkTl t (t.u.map (k * ·)) t.W t.v t.n) z = Ty.rest t.p (k * pureN t (cds z)) := by
  rw [numT_mk (r := fun i => k * Ty.fn t.u i) (c := Ty.fn t.v) (g := fun x => Ty.sq (atW t.W x)) ok (by rw [List.length_map]; exact ht.lu) ht.lv ht.N.nd (Over.keys ht hz) (fun x hx => ht.at (hz x hx)) (fun i hi => by rw [fn_scale]; exact Ty.Eqv.refl _ _) (fun i hi => Ty.Eqv.refl _ _) (fun _ _ _ _ _ _ => rfl), Ty.num_scale]
  rfl
theorem numT_ahead {t : Tl} {y z : Str} (ht : okT t) (hz : Over t.sg z) (hy : Over t.sg y) (ok : okT (mkTl t (ledU t y) t.W t.v t.n)) : numT (mkTl t (ledU t y) t.W t.v t.n) z = Ty.rest t.p (pureN t (cds y ++ cds z)) := by
  rw [numT_mk (r := Ty.led t.n (Ty.fn t.u) (Ms t.W (cds y))) (c := Ty.fn t.v) (g := fun x => Ty.sq (atW t.W x)) ok (foldR_len ht.lu) ht.lv ht.N.nd (Over.keys ht hz) (fun x hx => ht.at (hz x hx)) (fun i hi => ?_) (fun i hi => Ty.Eqv.refl _ _) (fun _ _ _ _ _ _ => rfl), Ty.num_ahead]
  · unfold pureN Ms
    rw [List.map_append]
  · rw [ledR_fn ht.lu (fun x hx => ht.at (hy x hx)) i hi]
    exact Ty.ledR_eqv (Ty.MsEqv.refl _ _ _) (fun _ _ => rfl) i hi
theorem stepC_fn {p : Option Int} {n : Nat} {W : List Mv} {r : List Int} {c : Nat} (hr : r.length = n) (hW : Ty.Sq n (atW W c)) : (stepC p W r c).length = n ∧ ∀ i, i < n → Ty.Eqv p (Ty.fn (stepC p W r c) i) (Ty.fv n (Ty.fn r) (Ty.tr (Ty.sq (atW W c))) i) := by
  have l0 : (stepC p W r c).length = n := by
    show (((atW W c).map _).map _).length = n
    rw [List.length_map, List.length_map, hW.len]
  refine ⟨l0, fun i hi => ?_⟩
  have hi2 : i < (atW W c).length := by rw [hW.len]; exact hi
  show Ty.Eqv p (Ty.fn (((atW W c).map fun row => Ty.dotL row r).map (Ty.rest p)) i) _
  rw [fn_map (by rw [List.length_map]; exact hi2)]
  refine (Ty.Eqv.of_rest _ _).trans ?_
  have e : Ty.fn ((atW W c).map fun row => Ty.dotL row r) i = Ty.dotL (atW W c)[i] r := by
    unfold Ty.fn
    rw [List.getD_eq_getElem?_getD, List.getElem?_map, List.getElem?_eq_getElem hi2]
    rfl
  have lr := hW.row _ (List.getElem_mem hi2)
  rw [e, Ty.dot_fn (by rw [lr, hr]), lr]
  refine congrArg (Ty.rest p) (Ty.S_congr fun j hj => ?_)
  have hj2 : j < (atW W c)[i].length := by rw [lr]; exact hj
  show Ty.fn (atW W c)[i] j * Ty.fn r j = Ty.fn r j * Ty.sq (atW W c) i j
  rw [sq_at hi2 hj2, Int.mul_comm]
  congr 1
  unfold Ty.fn
  rw [List.getD_eq_getElem?_getD, List.getElem?_eq_getElem hj2]
  rfl
theorem ledC_fn {p : Option Int} {n : Nat} {W : List Mv} : ∀ {l : List Nat} {r : List Int} {r' : Nat → Int}, r.length = n → (∀ c ∈ l, Ty.Sq n (atW W c)) → (∀ i, i < n → Ty.Eqv p (Ty.fn r i) (r' i)) → ∀ i, i < n → Ty.Eqv p (Ty.fn (l.foldl (stepC p W) r) i) (Ty.led n r' (l.map fun c => Ty.tr (Ty.sq (atW W c))) i)
  | [], _, _, _, _, h, i, hi => h i hi
  | c :: l, r, r', hr, hW, h, i, hi => by
    obtain ⟨l1, l2⟩ := stepC_fn (p := p) hr (hW c List.mem_cons_self)
    refine ledC_fn (l := l) (r := stepC p W r c) (r' := Ty.fv n r' (Ty.tr (Ty.sq (atW W c)))) l1 (fun x hx => hW x (List.mem_cons_of_mem _ hx)) (fun j hj => ?_) i hi
    exact (l2 j hj).trans (Ty.fv_eqv h (fun _ _ _ _ => rfl) j hj)
theorem rev_tr (W : List Mv) (l : List Nat) : (Ms W l).reverse.map Ty.tr = l.reverse.map fun c => Ty.tr (Ty.sq (atW W c)) := by
  unfold Ms
  rw [← List.map_reverse, List.map_map]
  rfl
theorem numT_behind {t : Tl} {y z : Str} (ht : okT t) (hz : Over t.sg z) (hy : Over t.sg y) (lv : ((cds y).reverse.foldl (stepC t.p t.W) t.v).length = t.n) (ok : okT (mkTl t t.u t.W ((cds y).reverse.foldl (stepC t.p t.W) t.v) t.n)) :
    numT (mkTl t t.u t.W ((cds y).reverse.foldl (stepC t.p t.W) t.v) t.n) z = Ty.rest t.p (pureN t (cds z ++ cds y)) := by
  rw [numT_mk (r := Ty.fn t.u) (c := Ty.led t.n (Ty.fn t.v) ((Ms t.W (cds y)).reverse.map Ty.tr)) (g := fun x => Ty.sq (atW t.W x)) ok ht.lu lv ht.N.nd (Over.keys ht hz) (fun x hx => ht.at (hz x hx)) (fun i hi => Ty.Eqv.refl _ _) (fun i hi => ?_) (fun _ _ _ _ _ _ => rfl), Ty.num_behind]
  · unfold pureN Ms
    rw [List.map_append]
  · rw [rev_tr]
    exact ledC_fn ht.lv (fun x hx => ht.at (hy x (List.mem_reverse.mp hx))) (fun _ _ => rfl) i hi
abbrev turnW (n : Nat) (W : List Mv) : List Mv := W.map fun w => (w.1, Ty.turned n w.2)
theorem numT_back {t : Tl} {z : Str} (ht : okT t) (hz : Over t.sg z) (ok : okT (mkTl t t.v (turnW t.n t.W) t.u t.n)) : numT (mkTl t t.v (turnW t.n t.W) t.u t.n) z = Ty.rest t.p (pureN t (cds z).reverse) := by
  have kk := Over.keys ht hz
  have ea : ∀ x ∈ cds z, atW (turnW t.n t.W) x = Ty.turned t.n (atW t.W x) := fun x hx => atW_map (g := Ty.turned t.n) ht.N.nd (kk x hx)
  have kT : (turnW t.n t.W).map (·.1) = t.W.map (·.1) := by
    unfold turnW
    rw [List.map_map]
    rfl
  rw [numT_mk (r := Ty.fn t.v) (c := Ty.fn t.u) (g := fun x => Ty.tr (Ty.sq (atW t.W x))) ok ht.lv ht.lu (by rw [kT]; exact ht.N.nd) (fun x hx => by rw [kT]; exact kk x hx) (fun x hx => by rw [ea x hx]; exact Ty.turned_sq (ht.at (hz x hx))) (fun i hi => Ty.Eqv.refl _ _) (fun i hi => Ty.Eqv.refl _ _)
    (fun x hx i j hi hj => by rw [ea x hx]; exact Ty.turned_at (ht.at (hz x hx)) hi hj)]
  have e : (cds z).map (fun x => Ty.tr (Ty.sq (atW t.W x))) = (Ms t.W (cds z).reverse).reverse.map Ty.tr := by rw [rev_tr, List.reverse_reverse]
  rw [e, Ty.num_back]
  rfl
theorem numT_mod {t : Tl} {p : Int} {z : Str} (ht : okT t) (hz : Over t.sg z) (ok : okT (mkTl ⟨t.sg, t.u, t.W, t.v, some p, t.n⟩ t.u t.W t.v t.n)) : numT (mkTl ⟨t.sg, t.u, t.W, t.v, some p, t.n⟩ t.u t.W t.v t.n) z = Ty.rest (some p) (pureN t (cds z)) :=
  numT_mk (r := Ty.fn t.u) (c := Ty.fn t.v) (g := fun x => Ty.sq (atW t.W x)) ok ht.lu ht.lv ht.N.nd (Over.keys ht hz) (fun x hx => ht.at (hz x hx)) (fun i hi => Ty.Eqv.refl _ _) (fun i hi => Ty.Eqv.refl _ _) (fun _ _ _ _ _ _ => rfl)
/-! ### how great they are -/
def BdL (B : Nat) (l : List Int) : Prop := ∀ x ∈ l, x.natAbs ≤ B
def BdW (B : Nat) (W : List Mv) : Prop := ∀ m ∈ W, ∀ r ∈ m.2, BdL B r
theorem BdL.few {B : Nat} {l : List Int} (h : BdL B l) (hB : B ≤ 10 ^ 18) : Few l := fun x hx => by
  have := h x hx
  constructor <;> omega
theorem rest_bd {p : Option Int} {x : Int} {B : Nat} (hp : okPr p) (hB : 6 ≤ B) (h : x.natAbs ≤ B) : (Ty.rest p x).natAbs ≤ B := by
  cases p with
  | none => exact h
  | some p =>
    show (x % p).natAbs ≤ B
    have hp : p = 2 ∨ p = 3 ∨ p = 5 ∨ p = 7 := hp
    rcases hp with rfl | rfl | rfl | rfl <;> omega
theorem BdL.rest {p : Option Int} {l : List Int} {B : Nat} (hp : okPr p) (hB : 6 ≤ B) (h : BdL B l) : BdL B (l.map (Ty.rest p)) := fun x hx => by
  obtain ⟨y, hy, rfl⟩ := List.mem_map.mp hx
  exact rest_bd hp hB (h y hy)
theorem BdW.rest {p : Option Int} {W : List Mv} {B : Nat} (hp : okPr p) (hB : 6 ≤ B) (h : BdW B W) : BdW B (resW p W) := fun m hm r hr => by
  obtain ⟨m0, h0, rfl⟩ := List.mem_map.mp hm
  obtain ⟨r0, h1, rfl⟩ := List.mem_map.mp hr
  exact BdL.rest hp hB (h m0 h0 r0 h1)
theorem BdL.app {B : Nat} {l m : List Int} (h : BdL B l) (k : BdL B m) : BdL B (l ++ m) := fun x hx => by
  rcases List.mem_append.mp hx with hx | hx
  · exact h x hx
  · exact k x hx
theorem BdL.mono {A B : Nat} {l : List Int} (h : BdL A l) (hAB : A ≤ B) : BdL B l := fun x hx => Nat.le_trans (h x hx) hAB
theorem BdW.mono {A B : Nat} {W : List Mv} (h : BdW A W) (hAB : A ≤ B) : BdW B W := fun m hm r hr => (h m hm r hr).mono hAB
theorem bd_zeros {B n : Nat} : BdL B (List.replicate n 0) := fun x hx => by
  rw [(List.mem_replicate.mp hx).2]
  exact Nat.zero_le _
theorem bdW_join {B : Nat} {A C : List Mv} (ke : A.map (·.1) = C.map (·.1)) (h : BdW B A) (k : BdW B C) : BdW B (zipW Ty.joinL A C) := fun m hm r hr => by
  obtain ⟨M1, M2, h1, h2, e⟩ := zipW_mem ke (c := m.1) (M := m.2) hm
  rw [e] at hr
  rcases List.mem_append.mp hr with hr | hr
  · obtain ⟨s, hs, rfl⟩ := List.mem_map.mp hr
    exact (h _ h1 s hs).app bd_zeros
  · obtain ⟨s, hs, rfl⟩ := List.mem_map.mp hr
    exact bd_zeros.app (k _ h2 s hs)
theorem bd_crossR {A B : Nat} {l m : List Int} (h : BdL A l) (k : BdL B m) : BdL (A * B) (Ty.crossR l m) := fun x hx => by
  obtain ⟨q, hq, hx⟩ := List.mem_flatten.mp hx
  obtain ⟨a, ha, rfl⟩ := List.mem_map.mp hq
  obtain ⟨b, hb, rfl⟩ := List.mem_map.mp hx
  rw [Int.natAbs_mul]
  exact Nat.mul_le_mul (h a ha) (k b hb)
theorem bdW_cross {A B : Nat} {C D : List Mv} (ke : C.map (·.1) = D.map (·.1)) (h : BdW A C) (k : BdW B D) : BdW (A * B) (zipW Ty.crossL C D) := fun m hm r hr => by
  obtain ⟨M1, M2, h1, h2, e⟩ := zipW_mem ke (c := m.1) (M := m.2) hm
  rw [e] at hr
  obtain ⟨q, hq, hr⟩ := List.mem_flatten.mp hr
  obtain ⟨a, ha, rfl⟩ := List.mem_map.mp hq
  obtain ⟨b, hb, rfl⟩ := List.mem_map.mp hr
  exact bd_crossR (h _ h1 a ha) (k _ h2 b hb)
theorem bd_col {B n : Nat} {M : List (List Int)} (h : ∀ r ∈ M, BdL B r) : ∀ c ∈ Ty.turned n M, BdL B c := fun c hc x hx => by
  obtain ⟨j, hj, rfl⟩ := List.mem_map.mp hc
  obtain ⟨r, hr, rfl⟩ := List.mem_map.mp hx
  rw [List.getD_eq_getElem?_getD]
  cases e : r[j]? with
  | none => exact Nat.zero_le _
  | some y => exact h r hr y (List.mem_of_getElem? e)
theorem bdW_turn {B n : Nat} {W : List Mv} (h : BdW B W) : BdW B (turnW n W) := fun m hm r hr => by
  obtain ⟨m0, h0, rfl⟩ := List.mem_map.mp hm
  exact bd_col (h m0 h0) r hr
theorem dot_bd : ∀ {a b : List Int} {A B : Nat}, BdL A a → BdL B b → (Ty.dotL a b).natAbs ≤ a.length * (A * B)
  | [], _, _, _, _, _ => by simp [Ty.dotL]
  | _ :: _, [], _, _, _, _ => by simp [Ty.dotL]
  | x :: a, y :: b, A, B, h, k => by
    have ih := dot_bd (a := a) (b := b) (A := A) (B := B) (fun z hz => h z (List.mem_cons_of_mem _ hz)) (fun z hz => k z (List.mem_cons_of_mem _ hz))
    have e : Ty.dotL (x :: a) (y :: b) = x * y + Ty.dotL a b := by
      show (List.zipWith _ (x :: a) (y :: b)).sum = _
      rw [List.zipWith_cons_cons, List.sum_cons]
      rfl
    have h1 : (x * y).natAbs ≤ A * B := by
      rw [Int.natAbs_mul]
      exact Nat.mul_le_mul (h x List.mem_cons_self) (k y List.mem_cons_self)
    rw [e, List.length_cons, Nat.succ_mul]
    have := Int.natAbs_add_le (x * y) (Ty.dotL a b)
    omega
theorem stepR_bd {p : Option Int} {n A : Nat} {W : List Mv} {r : List Int} {c : Nat} (hp : okPr p) (hn : n ≤ 3) (h6 : 6 ≤ A) (hr : BdL A r) (lr : r.length = n) (hW : BdW 6 W) : BdL (18 * A) (stepR p n W r c) := fun x hx => by
  obtain ⟨y, hy, rfl⟩ := List.mem_map.mp hx
  obtain ⟨col, hcol, rfl⟩ := List.mem_map.mp hy
  refine rest_bd hp (by omega) ?_
  have hc : BdL 6 col := by
    refine bd_col (M := atW W c) (fun r hr => ?_) col hcol
    unfold atW at hr
    cases e : W.find? (fun m => decide (m.1 = c)) with
    | none => rw [e] at hr; exact nomatch hr
    | some m =>
      rw [e] at hr
      exact hW m (List.mem_of_find?_eq_some e) r hr
  have h := dot_bd hr hc
  rw [lr] at h
  exact Nat.le_trans h (Nat.le_trans (Nat.mul_le_mul_right _ hn) (by omega))
theorem foldR_bd {p : Option Int} {n : Nat} {W : List Mv} (hp : okPr p) (hn : n ≤ 3) (hW : BdW 6 W) : ∀ {l : List Nat} {r : List Int} {A : Nat}, 6 ≤ A → BdL A r → r.length = n → BdL (18 ^ l.length * A) (l.foldl (stepR p n W) r)
  | [], r, A, _, h, _ => by
    rw [List.length_nil, Nat.pow_zero, Nat.one_mul]
    exact h
  | c :: l, r, A, h6, h, lr => by
    have := foldR_bd hp hn hW (l := l) (A := 18 * A) (by omega) (stepR_bd hp hn h6 h lr hW (c := c)) stepR_len
    rw [List.length_cons, Nat.pow_succ, Nat.mul_assoc]
    exact this
theorem stepC_bd {p : Option Int} {n A : Nat} {W : List Mv} {r : List Int} {c : Nat} (hp : okPr p) (hn : n ≤ 3) (h6 : 6 ≤ A) (hr : BdL A r) (hW : BdW 6 W) (hS : Ty.Sq n (atW W c)) : BdL (18 * A) (stepC p W r c) := fun x hx => by
  obtain ⟨y, hy, rfl⟩ := List.mem_map.mp hx
  obtain ⟨row, hrow, rfl⟩ := List.mem_map.mp hy
  refine rest_bd hp (by omega) ?_
  have hrow : row ∈ atW W c := hrow
  have hc : BdL 6 row := by
    have hr := hrow
    unfold atW at hr
    cases e : W.find? (fun m => decide (m.1 = c)) with
    | none => rw [e] at hr; exact nomatch hr
    | some m =>
      rw [e] at hr
      exact hW m (List.mem_of_find?_eq_some e) row hr
  have h := dot_bd hc hr
  rw [hS.row row hrow] at h
  exact Nat.le_trans h (Nat.le_trans (Nat.mul_le_mul_right _ hn) (by omega))
theorem foldC_bd {p : Option Int} {n : Nat} {W : List Mv} (hp : okPr p) (hn : n ≤ 3) (hW : BdW 6 W) : ∀ {l : List Nat} {r : List Int} {A : Nat}, 6 ≤ A → BdL A r → (∀ c ∈ l, Ty.Sq n (atW W c)) → BdL (18 ^ l.length * A) (l.foldl (stepC p W) r)
  | [], r, A, _, h, _ => by
    rw [List.length_nil, Nat.pow_zero, Nat.one_mul]
    exact h
  | c :: l, r, A, h6, h, hS => by
    have := foldC_bd hp hn hW (l := l) (A := 18 * A) (by omega) (stepC_bd hp hn h6 h hW (hS c List.mem_cons_self)) (fun x hx => hS x (List.mem_cons_of_mem _ hx))
    rw [List.length_cons, Nat.pow_succ, Nat.mul_assoc]
    exact this
theorem Sml.bu {t : Tl} (h : Sml t) : BdL 6 t.u := fun x hx => (h.u x hx).1
theorem Sml.bv {t : Tl} (h : Sml t) : BdL 6 t.v := fun x hx => (h.v x hx).1
theorem Sml.bW {t : Tl} (h : Sml t) : BdW 6 t.W := fun m hm r hr x hx => (h.W m hm r hr x hx).1
/-- numbers of drawn tallies at texts of at most ten letters -/
theorem numT_bd {t : Tl} {z : Str} (ok : okT t) (sm : Sml t) (hz : z.length ≤ 10) : (numT t z).natAbs ≤ 10 ^ 16 := by
  have h1 := foldR_bd ok.pr sm.n3 sm.bW (l := cds z) (Nat.le_refl 6) sm.bu ok.lu
  have h2 := dot_bd h1 sm.bv
  have l1 : ((cds z).foldl (stepR t.p t.n t.W) t.u).length = t.n := foldR_len ok.lu
  rw [l1] at h2
  refine rest_bd ok.pr (by decide) (Nat.le_trans h2 ?_)
  have h3 : 18 ^ (cds z).length ≤ 18 ^ 10 := Nat.pow_le_pow_right (by decide) (by rw [cds_len]; exact hz)
  have h4 : 18 ^ (cds z).length * 6 * 6 ≤ 18 ^ 10 * 6 * 6 := Nat.mul_le_mul_right _ (Nat.mul_le_mul_right _ h3)
  exact Nat.le_trans (Nat.mul_le_mul sm.n3 h4) (by decide)
theorem okT.M {t : Tl} {B : Nat} (h : okT t) (b : BdW B t.W) (hB : B ≤ 10 ^ 18) : okM t.n t.W := ⟨h.N.nd, h.sq, h.N.few, fun m hm r hr => (b m hm r hr).few hB⟩
end K16

set_option Elab.async false
set_option linter.all false
set_option maxRecDepth 100000
set_option maxHeartbeats 4000000
/-! rules for tuples of numbers: enumerate(t), sorted(t), t.index(n) -/
namespace Ur
open PySem PySem.Spec PyProof.Rows L2
open Sem (wp)
open AutoSeq1 (wpAny_loadPart')
theorem meets_enumerate_newT (l : Addr) (items : Array Value) (n : Nat) (dct : Option Addr) (sl : Array (Option Value)) :
    Meets (Builtin.«enumerate.__new__» ⟨[.type "enumerate", .ref l], []⟩) (fun _ R s => s.heap.get? l = some { cls := .type "tuple", dict := dct, data := .seq items n, slots := sl } ∧
      R (.ok (.ret (.ref (s.heap.push { cls := .type "tuple_iterator", data := .fields #[.ref l, .int 0 0] }).objs.size)))
        { s with heap := (s.heap.push { cls := .type "tuple_iterator", data := .fields #[.ref l, .int 0 0] }).push { cls := .type "enumerate", data := .fields #[.none, .bool false, .ref s.heap.objs.size, rawInt 0, .none, .none] } }) :=
  .of_wp fun prog w A R s h => by
    obtain ⟨hp, g, d, tk, os⟩ := s; obtain ⟨hl, h⟩ := h
    have hsub := sub_enumerate
    have hL : Heap.IsTuple (Shared.heap ⟨hp, g, d, tk, os⟩) l items := ⟨_, hl, rfl, n, rfl⟩
    wp_walk using wpAny_loadPart' hl
    refine wpAny_stack_any fun st => wpAny_pure ?_
    split
    · rename_i c _ _ _ _ _
      cases (c == Value.type "enumerate")
      · wp_walk using wpAny_loadPart' hl, wpAny_pyIter_tuple hL
        exact ⟨_, rfl, h⟩
      · wp_walk using wpAny_loadPart' hl, wpAny_pyIter_tuple hL
        exact ⟨_, rfl, h⟩
    · wp_walk using wpAny_loadPart' hl, wpAny_pyIter_tuple hL
      exact ⟨_, rfl, h⟩
section
variable {prog : Program} {w : World} {A : Around} {E : Value → Shared → Prop} {s : Shared}
theorem call_enumerate_tuple {l : Addr} {items : Array Value} {Q : Value → Shared → Prop} (hL : s.heap.IsTuple l items)
    (h : ∀ h', IsEnum h' (s.heap.objs.size + 1) s.heap.objs.size 0 .none → h'.IsTupleIter s.heap.objs.size l 0 → h'.objs.size = s.heap.objs.size + 2 →
      (∀ b o, s.heap.get? b = some o → h'.get? b = some o) → Q (.ref (s.heap.objs.size + 1)) { s with heap := h' }) :
    wpAny (model prog w) A (call (.type "enumerate") [.ref l]) Q E s := by
  obtain ⟨⟨c, dct, dt, sl⟩, hl, hc, n, hd⟩ := hL
  replace hc : c = .type "tuple" := hc
  replace hd : dt = .seq items n := hd
  subst hc hd
  refine callType_new F.called_enumerate (by decide) (F.typeCall_enumerate_1 _) (F.newCall_enumerate_1 _) (fun obj => F.args_object_init_2 obj _) F.entry_enumerate_new
    (meets_enumerate_newT l items n dct sl) ⟨hl, ?_⟩
  have hz : (s.heap.push { cls := .type "tuple_iterator", data := .fields #[.ref l, .int 0 0] }).objs.size = s.heap.objs.size + 1 := Heap.size_push ..
  show _ ∧ _
  rw [hz]
  have he : IsEnum ((s.heap.push { cls := .type "tuple_iterator", data := .fields #[.ref l, .int 0 0] }).push
      { cls := .type "enumerate", data := .fields #[.none, .bool false, .ref s.heap.objs.size, rawInt 0, .none, .none] }) (s.heap.objs.size + 1) s.heap.objs.size 0 .none := by
    have := Heap.get?_push_size (s.heap.push { cls := .type "tuple_iterator", data := .fields #[.ref l, .int 0 0] })
      (o := { cls := .type "enumerate", data := .fields #[.none, .bool false, .ref s.heap.objs.size, rawInt 0, .none, .none] }) rfl
    rw [hz] at this; exact this
  refine ⟨⟨_, he, rfl⟩, h _ he ⟨_, Heap.get?_push_of_some _ (Heap.get?_push_size _ rfl), rfl, rfl⟩ (by rw [Heap.size_push, hz]) fun b o x => Heap.get?_push_of_some _ (Heap.get?_push_of_some _ x)⟩
end
/-- the tuple at a, each item in a new pair with its place -/
def IteT (K : PySem.W.Frag) (a : Addr) : It :=
  ⟨fun i H => ∃ (xs : List V) (x : V), SqT K H a xs ∧ xs[i]? = some x, fun i H v H' => ∃ T x, v = .ref T ∧ H T = none ∧ H' = upd H T (.tup [.int (i : Nat), x]) ∧ ∀ xs, SqT K H a xs → xs[i]? = some x, fun i H => ∃ xs : List V, SqT K H a xs ∧ xs.length = i⟩
theorem turn_enumT {P : Program} {w : World} {K : PySem.W.Frag} {elts : List Expr} {kk : Nat} {tpos : Pos} (a e it : Addr) :
    Turn P w K (.Tuple elts kk tpos) (IteT K a) [e, it] e (fun i h => (∃ old, IsEnum h e it ((i : Nat) : Int) old) ∧ h.IsTupleIter it a i ∧ e ≠ it) where
  mem := by simp
  obj := fun i h st b hb => by
    obtain ⟨⟨old, he⟩, ⟨o, ho, hc, hd⟩, _⟩ := st
    have e' : b = e ∨ b = it := by simpa using hb
    rcases e' with z | z
    · rw [z]; exact ⟨_, he, fun v q => nomatch q⟩
    · rw [z]; exact ⟨o, ho, fun v q => by rw [hd] at q; cases q⟩
  keep := fun i h h' st k => let ⟨⟨old, he⟩, hi, hne⟩ := st; ⟨⟨old, k e (by simp) _ he⟩, hi.at fun o q => k it (by simp) o q, hne⟩
  item := by
    intro X hP hw hK hc i pins s σ H E I hf st hg
    subst hP hw hK
    obtain ⟨⟨old, he⟩, hit, hne⟩ := st
    obtain ⟨xs, x, hq, hx⟩ := hg
    obtain ⟨its, rv, p, hz⟩ := I.tuple hq
    obtain ⟨u, hu, ru⟩ := rv.get hx
    have hel : e < s.heap.objs.size := Heap.lt_size he
    have hil : it < s.heap.objs.size := by obtain ⟨_, q, _⟩ := hit; exact Heap.lt_size q
    have nai : a ≠ it := by
      rintro rfl
      obtain ⟨o, ho, hco, _⟩ := p
      obtain ⟨o2, ho2, hco2, _⟩ := hit
      rw [ho] at ho2
      cases ho2
      rw [hco] at hco2
      exact absurd hco2 (by decide)
    have nea : e ≠ a := by
      rintro rfl
      obtain ⟨o, ho, hco, _⟩ := p
      have he' : s.heap.get? e = _ := he
      rw [ho] at he'
      cases he'
      injection hco with z
      exact absurd z (by decide)
    have hlt : i < its.toArray.size := by
      have := (List.getElem?_eq_some_iff.mp hu).1
      rw [List.size_toArray]
      exact this
    refine wpAny_pyNext_enum_itemD (Draws.tuple (A := X.A.in1) (I.ok.hd hc) it a nai its.toArray) he ⟨hit, p⟩ hlt hne (by simp; exact ⟨hne, nea⟩) fun u' h' tk hu' ho hst hT hsz hk => ?_
    have hu2 : its.toArray[i]? = some u' := hu'
    have eu : u' = u := by
      have : its.toArray[i]? = some u := by simpa using hu
      rw [this] at hu2
      exact (Option.some.inj hu2).symm
    subst eu
    refine ⟨_, rfl, wpAny_letOwnedTupleGo_enum (s := { s with heap := h', toks := tk + 1 }) ho fun h'' he' sb => ?_⟩
    have hT2 : h''.get? s.heap.objs.size = some { cls := .type "tuple", data := .seq #[.int i tk, u'] } := (sb.2 _ (Nat.ne_of_gt hel)).trans hT
    have new : ObjOk X.prog X.w (upd H s.heap.objs.size (.tup [.int (i : Nat), x])) h'' s.heap.objs.size (.tup [.int (i : Nat), x]) :=
      ⟨by show 2 ≤ sizeLine; decide, [.int i tk, u'], .cons ⟨_, rfl⟩ (.cons ru .nil), ⟨_, hT2, rfl, _, rfl⟩⟩
    have I1 : Inv X pins σ (upd H s.heap.objs.size (.tup [.int (i : Nat), x])) { s with heap := h'', toks := tk + 1 } :=
      I.turnedNew (ch := [e, it]) (fun b ob hb q => (sb.2 b (fun z => hb (by simp [z]))).trans (hk b ob (fun z => hb (by simp [z])) (fun z => hb (by simp [z])) q)) hf (Nat.le_refl _) new
    refine ⟨.ref s.heap.objs.size, _, I1, rfl, ⟨_, x, rfl, I.hok.fresh (Nat.le_refl _), rfl, fun ys hy => by rw [I.tuple_inj hy hq]; exact hx⟩, ⟨⟨u', ?_⟩, hst.1.at fun o q => (sb.2 it (Ne.symm hne)).trans q, hne⟩, fun b hb => ?_⟩
    · have e1 : ((i + 1 : Nat) : Int) = (i : Int) + 1 := by omega
      rw [e1]; exact he'
    · have hb' : b < s.heap.objs.size := by
        have e' : b = e ∨ b = it := by simpa using hb
        rcases e' with z | z
        · rw [z]; exact hel
        · rw [z]; exact hil
      rw [upd_ne (Nat.ne_of_lt hb')]
      exact (hf b hb).1
  done := by
    intro X hP hw hK hc i pins s σ H E I hf st hg
    subst hP hw hK
    obtain ⟨⟨old, he⟩, hit, hne⟩ := st
    obtain ⟨xs, hq, hx⟩ := hg
    obtain ⟨its, rv, p, hz⟩ := I.tuple hq
    obtain ⟨f0, f1, f2, f3, f4, f5⟩ := hf it (by simp)
    have hl := rv.length
    have nai : a ≠ it := by
      rintro rfl
      obtain ⟨o, ho, hco, _⟩ := p
      obtain ⟨o2, ho2, hco2, _⟩ := hit
      rw [ho] at ho2
      cases ho2
      rw [hco] at hco2
      exact absurd hco2 (by decide)
    have en : its.toArray.size = i := by rw [List.size_toArray]; omega
    exact wpAny_pyNext_enum_endD (Draws.tuple (A := X.A.in1) (I.ok.hd hc) it a nai its.toArray) he (by rw [en]; exact ⟨hit, p⟩) fun h' eb => ⟨rfl, I.turned (t' := s.toks) (fun b o hb q => eb b o hb q) f0 f1 f3 f4 f5⟩
  self := fun A i s Q E st h => let ⟨⟨_, he⟩, _⟩ := st; wpAny_pyIter_enum he h
def iEnumT (K : PySem.W.Frag) (ta : TA) : TI := fun σ H R => ta σ H fun vs H1 => ∃ a xs, vs = [.ref a] ∧ SqT K H1 a xs ∧ R (IteT K a) H1
theorem pi_enumT {X : Cx} {e : Expr} {ta : TA} {p pos tpos : Pos} {elts : List Expr} {kk : Nat} (hg : Gl X "enumerate") (hm : X.mg "enumerate" = none) (ha : PA X [e] ta) (hs : starEach [e] X.env = [(false, eval e X.env)] := by rfl) :
    PI X (.Tuple elts kk tpos) (.Call (.Name "enumerate" p) [e] [] pos) (iEnumT X.K ta) := by
  refine ⟨fun pins s σ H R I h => ?_⟩
  refine Call_ (ld_blt I hg hm boot_enumerate (PyProof.Rows.callWith_type1 (thn (ha.run pos pins s σ H _ I h) fun us s1 ⟨vs, H1, I1, r1, q1⟩ => ?_) hs rfl))
  obtain ⟨a, xs, ex, hq, q⟩ := q1
  subst ex
  cases r1 with
  | cons r rr =>
    cases rr
    cases r
    obtain ⟨its, rv, p', hz⟩ := I1.tuple hq
    refine call_enumerate_tuple p' fun h' he hit hsz hk => wpAny_pyIter_enum he ?_
    have I2 : Inv X pins σ H1 { s1 with heap := h' } := I1.kept (t' := s1.toks) hk
    refine ⟨s1.heap.objs.size + 1, [s1.heap.objs.size + 1, s1.heap.objs.size], _, _, H1, rfl, I2, turn_enumT a (s1.heap.objs.size + 1) s1.heap.objs.size, ⟨⟨.none, he⟩, hit, Nat.succ_ne_self _⟩, fun b hb => ?_, q⟩
    have e' : b = s1.heap.objs.size + 1 ∨ b = s1.heap.objs.size := by simpa using hb
    have hle : s1.heap.objs.size ≤ b := by
      rcases e' with z | z
      · rw [z]; exact Nat.le_add_right _ _
      · rw [z]; exact Nat.le_refl _
    exact I1.fpOk hle (I1.hok.fresh hle)
/-! ### sorted(t) -/
section
variable {prog : Program} {w : World} {M : Model} {A : Around} {E : Value → Shared → Prop} {s : Shared}
theorem collect_tuple {l : Addr} {vs : List Value} {Q : List Value → Shared → Prop} (hl : s.heap.IsTuple l vs.toArray)
    (h : Q vs { s with heap := (s.heap.push (seqObj "list" #[] 0)).update s.heap.objs.size (Obj.mapSeq (· ++ vs.toArray)) }) (hsz : vs.length ≤ sizeLine := by size_fits) :
    wpAny (model prog w) A (collect (.ref l)) Q E s := by
  obtain ⟨o, ho, hc, n, hd⟩ := id hl
  unfold collect
  refine wpAny_bind (wpAny_runValue (codeAny_builtin entry_proto_collect' ?_))
  show wpAny _ _ (do again (.builtin "list.__iadd__" ⟨[← newList [], .ref l], []⟩)) _ _ s
  refine wpAny_bind (wpAny_newList (wpAny_pure ⟨Code.quiet_builtin _ (by decide +kernel), codeAny_builtin entry_list_iadd' ?_⟩))
  show wpAny _ _ (Builtin.List.listExtendWith (.ref s.heap.objs.size) (.ref l) (.ref s.heap.objs.size)) _ _ { s with heap := s.heap.push (seqObj "list" #[] 0) }
  unfold Builtin.List.listExtendWith
  have ho' : (s.heap.push (seqObj "list" #[] 0)).get? l = some o := Heap.get?_push_of_some _ ho
  refine wpAny_bind (wpAny_typeOf (T := "tuple") ⟨o, ho', hc⟩ ?_)
  have ht : (Value.type "tuple" == Value.type "tuple") = true := by rfl
  rw [if_pos (by rw [ht]; simp)]
  refine wpAny_bind (listItems_at ho' hd ?_)
  refine wpAny_bind (listItems_at (xs := #[]) (n := 0) (Heap.get?_push_size _ rfl) rfl ?_)
  rw [if_neg (by simp)]
  refine wpAny_bind (listUpdate_at (xs := #[]) (n := 0) (Heap.get?_push_size _ rfl) rfl ?_ (Nat.zero_le _) (by show (#[] ++ vs.toArray).size ≤ sizeLine + 1; simp only [Array.size_append, List.size_toArray, List.length_nil]; omega))
  refine wpAny_pure ?_
  show wpAny (model prog w) A (do
      let o ← load s.heap.objs.size
      match o.data with
      | .seq xs _ => pure xs.toList
      | _ => unsupported "internal:collect") Q E { s with heap := (s.heap.push (seqObj "list" #[] 0)).update s.heap.objs.size (Obj.mapSeq (· ++ vs.toArray)) }
  refine wpAny_bind (wpAny_load (get?_update_seq (Heap.get?_push_size _ rfl) _) ?_)
  show wpAny _ _ (pure ((#[] : Array Value) ++ vs.toArray).toList) Q E _
  rw [show ((#[] : Array Value) ++ vs.toArray).toList = vs by simp]
  exact wpAny_pure h
theorem sorted_intsT {l : Addr} {vs : List Value} {ns : List Int} {Q : Value → Shared → Prop} (hl : s.heap.IsTuple l vs.toArray) (hI : IntsAre vs ns) (h64 : vs.length < 64)
    (h : ∀ (out : Array Value) (ns' : List Int), IntsAre out.toList ns' → ns'.Perm ns → ns'.Pairwise (· ≤ ·) → Q (.ref (s.heap.objs.size + 1)) { s with heap := sortedAll s.heap vs out }) :
    wpAny (model prog w) A (call (.builtin "sorted") [.ref l]) Q E s := by
  refine Calls.call_function_entry kind_sorted plain_sorted entry_sorted (args_sorted1 _) ?_
  unfold Builtin.«sorted»
  refine wpAny_bind (m := checkCount "sorted" 1 1 _) (wpAny_pure ?_)
  refine wpAny_bind (collect_tuple hl ?_ (Nat.le_trans (Nat.le_of_lt h64) (by decide)))
  refine wpAny_bind (wpAny_newList ?_)
  have hsz : ((s.heap.push (seqObj "list" #[] 0)).update s.heap.objs.size (Obj.mapSeq (· ++ vs.toArray))).objs.size = s.heap.objs.size + 1 := by
    rw [Heap.size_update, size_push']
  have hoL : (((s.heap.push (seqObj "list" #[] 0)).update s.heap.objs.size (Obj.mapSeq (· ++ vs.toArray))).push (seqObj "list" vs.toArray 0)).get? (s.heap.objs.size + 1) = some (seqObj "list" vs.toArray 0) := by
    rw [← hsz]; exact Heap.get?_push_size _ rfl
  show wpAny _ _ _ _ _ { s with heap := ((s.heap.push (seqObj "list" #[] 0)).update s.heap.objs.size (Obj.mapSeq (· ++ vs.toArray))).push (seqObj "list" vs.toArray 0) }
  rw [hsz]
  refine wpAny_bind (wpAny_holding (wpAny_call_entry slot_list_sort ⟨_, hoL, rfl⟩ entry_list_sort (list_sort_tree hoL hI h64 fun out ns' a1 a2 a3 => ⟨_, rfl, ?_⟩) (args_list_sort _)))
  exact wpAny_pure ⟨_, rfl, h out ns' a1 a2 a3⟩
end
section
variable {X : Cx}
def rSortedT (K : PySem.W.Frag) : List V → Hp → VK → Prop := fun vs H Q => ∃ (a : Addr) (ns : List Int), vs = [V.ref a] ∧ SqT K H a (ns.map V.int) ∧ ns.length < 64 ∧ ∀ (ns' : List Int) (p : Addr), ns'.Perm ns → ns'.Pairwise (· ≤ ·) → H p = none → Q (.ref p) (upd H p (.lst (ns'.map V.int)))
theorem cr_sortedT : CallR X (.builtin "sorted") (rSortedT X.K) := by
  intro pins s σ H vs us Q I r h
  obtain ⟨a, ns, rfl, hs, h64, q⟩ := h
  obtain ⟨its, rv, hl, _⟩ := I.tuple hs
  rw [Vals.ref1 r]
  have hi := rv.ints
  refine sorted_intsT hl hi (by rw [hi.length]; exact h64) fun out ns' h1 h2 h3 => ?_
  obtain ⟨ep, he'⟩ := PyProof.Rows.sortedAll_at s.heap its out
  have hlen : (ns'.map V.int).length ≤ sizeLine := by rw [List.length_map, h2.length_eq]; exact small64 h64
  exact ⟨.ref _, upd H (s.heap.objs.size + 1) (.lst (ns'.map V.int)), I.laid (t' := s.toks) (fun _ _ => PyProof.Rows.sortedAll_old) (Nat.le_succ _) ⟨hlen, out.toList, ep, vals_of_ints h1, he'⟩, rfl, q ns' _ h2 h3 (I.hok.fresh (Nat.le_succ _))⟩
/-- t.index(n), the first place -/
theorem mt_tup_indexI : MtR X "tuple.index" (fun x xs H Q => ∃ p, ∃ ys : List Int, ∃ z j, x = .ref p ∧ xs = [.int z] ∧ SqT X.K H p (ys.map V.int) ∧ ys[j]? = some z ∧ (∀ m, m < j → ys[m]? ≠ some z) ∧ Q (.int (j : Nat)) H) := by
  intro pins s σ H x xs v us Q I rx rs h
  obtain ⟨p, ys, z, j, rfl, rfl, hq, hy, hno, q⟩ := h
  cases rx
  obtain ⟨u, rfl, t, rfl⟩ := vals1 rs
  obtain ⟨its, r, pl, hz⟩ := I.tuple hq
  obtain ⟨⟨cls, dd, dt, sl⟩, ho, hc, n, hd⟩ := pl
  simp only at hc hd
  subst hc
  subst hd
  have hl : its.toArray.size = ys.length := by rw [List.size_toArray, ← r.length, List.length_map]
  have hj : j < its.toArray.size := by rw [hl]; exact (List.getElem?_eq_some_iff.mp hy).1
  have at' : ∀ (m : Nat) (hm : m < its.toArray.size), ∃ y t', ys[m]? = some y ∧ its.toArray[m] = Value.int y t' := fun m hm => by
    have hm' : m < ys.length := by rw [← hl]; exact hm
    obtain ⟨w, hw, t', hw'⟩ := r.get (i := m) (x := .int ys[m]) (by simp [hm'])
    refine ⟨ys[m], t', List.getElem?_eq_getElem hm', ?_⟩
    have e := (List.getElem?_eq_some_iff.mp hw).2
    rw [← hw', ← e]
    simp
  refine call_meets PySem.F.slot_tuple_index ⟨_, ho, rfl⟩ PySem.F.entry_tuple_index (PySem.F.args_tuple_index_2 _ _) (TI.tuple_indexAt p its.toArray n dd sl (.int z t) (eqU (.int z)) j hj ?_ ?_)
    ⟨ho, fun w hw => mem_eqAt (x := .int z) ⟨t, rfl⟩ rfl r (by rw [List.all_map]; exact List.all_eq_true.mpr fun _ _ => rfl) w (by simpa using hw), ⟨.int (j : Nat), H, I.tok _, ⟨_, rfl⟩, q⟩⟩
  · obtain ⟨y, t', h1, h2⟩ := at' j hj
    rw [hy] at h1
    cases h1
    rw [h2]
    show (z == z) = true
    exact beq_self_eq_true z
  · intro m hm hmj
    obtain ⟨y, t', h1, h2⟩ := at' m hm
    rw [h2]
    show (y == z) = false
    exact beq_eq_false_iff_ne.mpr fun e => hno m hmj (e ▸ h1)
end
end Ur

set_option Elab.async false
set_option linter.all false
set_option maxRecDepth 100000
set_option maxHeartbeats 3200000
/-! comprehensions over enumerate(a tuple) -/
namespace Lc
open PySem L2 Tx Tg Tm RZ
section
variable {K : PySem.W.Frag} {te : TE} {σ : L2.St} {H1 : Hp} {D : Addr} {Qd : Hp → Prop} {j1 j2 : Nat} {xs : List V} {a : Addr}
theorem lc_enumT (Pv : Nat → Hp → Prop) (h0 : Pv 0 (upd H1 D (.lst []))) (hq : ∀ i H, Pv i H → SqT K H a xs)
    (hs : ∀ i x T H, xs[i]? = some x → Pv i H → H T = none → gTup K 2 (gCons (gName j1) (gCons (gName j2) gNil)) (.ref T) (wipe σ [j1, j2]) (upd H T (.tup [.int (i : Nat), x])) fun σ2 H2 => wipe σ2 [j1, j2] = wipe σ [j1, j2] ∧ tYes σ2 H2 fun b H3 =>
      if b = true then te σ2 H3 fun y H4 => ∃ acc, H4 D = some (.lst acc) ∧ acc.length < sizeLine ∧ Pv (i + 1) (upd H4 D (.lst (acc ++ [y]))) else Pv (i + 1) H3) (hd : ∀ H, Pv xs.length H → Qd H) :
    ∃ W : Nat → Nat → Hp → Prop, (∃ m, W 0 m (upd H1 D (.lst []))) ∧ ∀ i m H, W i m H →
      ((Ur.IteT K a).stop i H ∧ Qd H) ∨ ((Ur.IteT K a).go i H ∧ ∃ Nx : Hp → Prop, (∀ H', Nx H' → ∃ m', m' < m ∧ W (i + 1) m' H') ∧ ∀ x H', (Ur.IteT K a).yld i H x H' → gTup K 2 (gCons (gName j1) (gCons (gName j2) gNil)) x (wipe σ [j1, j2]) H' fun σ2 H2 => wipe σ2 [j1, j2] = wipe σ [j1, j2] ∧ tYes σ2 H2 fun b H3 =>
        if b = true then te σ2 H3 fun y H4 => ∃ acc, H4 D = some (.lst acc) ∧ acc.length < sizeLine ∧ Nx (upd H4 D (.lst (acc ++ [y]))) else Nx H3) := by
  refine ⟨fun i m H => m = xs.length - i ∧ i ≤ xs.length ∧ Pv i H, ⟨xs.length, by simp, Nat.zero_le _, h0⟩, ?_⟩
  rintro i m H ⟨rfl, hi, p⟩
  have q := hq i H p
  by_cases hlt : i < xs.length
  · refine .inr ⟨⟨xs, xs[i], q, List.getElem?_eq_getElem hlt⟩, Pv (i + 1), fun H' p' => ⟨xs.length - (i + 1), by omega, rfl, hlt, p'⟩, fun x H' y => ?_⟩
    obtain ⟨T, x, rfl, nT, rfl, hx⟩ := y
    exact hs i x T H (hx xs q) p nT
  · have e : i = xs.length := by omega
    subst e
    exact .inl ⟨⟨xs, q, rfl⟩, hd H p⟩
/-- each gives a value -/
theorem lcES {ys : List V} (ha : SqT K H1 a xs) (nD : H1 D = none) (hl : xs.length = ys.length) (hz : xs.length < sizeLine) (hw : ∀ u v, wipe (((wipe σ [j1, j2]).set j1 (some u)).set j2 (some v)) [j1, j2] = wipe σ [j1, j2])
    (hs : ∀ (i : Nat) (x y : V) (H2 : Hp), xs[i]? = some x → ys[i]? = some y → Same H1 H2 → ∀ Q : VK, (∀ H3, Same H2 H3 → Q y H3) → te (((wipe σ [j1, j2]).set j1 (some (.int (i : Nat)))).set j2 (some x)) H2 Q) (hd : ∀ H2, Same H1 H2 → H2 D = some (.lst ys) → Qd H2) :
    ∃ W : Nat → Nat → Hp → Prop, (∃ m, W 0 m (upd H1 D (.lst []))) ∧ ∀ i m H, W i m H →
      ((Ur.IteT K a).stop i H ∧ Qd H) ∨ ((Ur.IteT K a).go i H ∧ ∃ Nx : Hp → Prop, (∀ H', Nx H' → ∃ m', m' < m ∧ W (i + 1) m' H') ∧ ∀ x H', (Ur.IteT K a).yld i H x H' → gTup K 2 (gCons (gName j1) (gCons (gName j2) gNil)) x (wipe σ [j1, j2]) H' fun σ2 H2 => wipe σ2 [j1, j2] = wipe σ [j1, j2] ∧ tYes σ2 H2 fun b H3 =>
        if b = true then te σ2 H3 fun y H4 => ∃ acc, H4 D = some (.lst acc) ∧ acc.length < sizeLine ∧ Nx (upd H4 D (.lst (acc ++ [y]))) else Nx H3) := by
  refine lc_enumT (xs := xs) (fun i H2 => Same H1 H2 ∧ H2 D = some (.lst (ys.take i))) ⟨same_upd nD, upd_same⟩ (fun i H2 z => sqT_same z.1 ha) ?_ ?_
  · rintro i x t H2 hx ⟨s2, e2⟩ nt
    have hi := (List.getElem?_eq_some_iff.mp hx).1
    have hy := List.getElem?_eq_getElem (l := ys) (i := i) (by omega)
    have s3 := same_upd (o := .tup [.int (i : Nat), x]) nt
    refine ⟨t, _, rfl, SqT.of upd_same, rfl, _, _, rfl, _, _, rfl, rfl, hw _ _, iteT (B := False) ?_⟩
    refine hs i x _ _ hx hy (s2.trans s3) _ fun H4 s4 => ⟨_, s4 _ _ (s3 _ _ e2), ?_, same_put ((s2.trans s3).trans s4) nD, ?_⟩
    · rw [List.length_take]
      omega
    · rw [List.take_add_one, hy]
      exact upd_same
  · rintro H2 ⟨s2, e2⟩
    rw [hl, List.take_of_length_le (Nat.le_refl _)] at e2
    exact hd H2 s2 e2
/-- each gives a new tuple, or what lies on tuples -/
theorem lcER {α : Type} {R : Hp → Addr → α → Prop} (hR : ∀ H H' p x, KT H H' → R H p x → R H' p x) {ys : List α} (ha : SqT K H1 a xs) (nD : H1 D = none) (hl : xs.length = ys.length) (hz : xs.length < sizeLine) (hw : ∀ u v, wipe (((wipe σ [j1, j2]).set j1 (some u)).set j2 (some v)) [j1, j2] = wipe σ [j1, j2])
    (hs : ∀ (i : Nat) (x : V) (y : α) (H2 : Hp), xs[i]? = some x → ys[i]? = some y → Same H1 H2 → ∀ Q : VK, (∀ b H3, Same H2 H3 → R H3 b y → Q (.ref b) H3) → te (((wipe σ [j1, j2]).set j1 (some (.int (i : Nat)))).set j2 (some x)) H2 Q) (hd : ∀ H2 ps, Same H1 H2 → H2 D = some (.lst (ps.map V.ref)) → PySem.W.EachIs (R H2) ps ys → Qd H2) :
    ∃ W : Nat → Nat → Hp → Prop, (∃ m, W 0 m (upd H1 D (.lst []))) ∧ ∀ i m H, W i m H →
      ((Ur.IteT K a).stop i H ∧ Qd H) ∨ ((Ur.IteT K a).go i H ∧ ∃ Nx : Hp → Prop, (∀ H', Nx H' → ∃ m', m' < m ∧ W (i + 1) m' H') ∧ ∀ x H', (Ur.IteT K a).yld i H x H' → gTup K 2 (gCons (gName j1) (gCons (gName j2) gNil)) x (wipe σ [j1, j2]) H' fun σ2 H2 => wipe σ2 [j1, j2] = wipe σ [j1, j2] ∧ tYes σ2 H2 fun b H3 =>
        if b = true then te σ2 H3 fun y H4 => ∃ acc, H4 D = some (.lst acc) ∧ acc.length < sizeLine ∧ Nx (upd H4 D (.lst (acc ++ [y]))) else Nx H3) := by
  refine lc_enumT (xs := xs) (fun i H2 => ∃ ps : List Addr, Same H1 H2 ∧ H2 D = some (.lst (ps.map V.ref)) ∧ PySem.W.EachIs (R H2) ps (ys.take i)) ⟨[], same_upd nD, upd_same, .nil⟩ (fun i H2 z => by obtain ⟨_, s, _⟩ := z; exact sqT_same s ha) ?_ ?_
  · rintro i x t H2 hx ⟨ps, s2, e2, r2⟩ nt
    have hi := (List.getElem?_eq_some_iff.mp hx).1
    have hy := List.getElem?_eq_getElem (l := ys) (i := i) (by omega)
    have s3 := same_upd (o := .tup [.int (i : Nat), x]) nt
    refine ⟨t, _, rfl, SqT.of upd_same, rfl, _, _, rfl, _, _, rfl, rfl, hw _ _, iteT (B := False) ?_⟩
    refine hs i x _ _ hx hy (s2.trans s3) _ fun b H4 s4 hb => ⟨_, s4 _ _ (s3 _ _ e2), ?_, ps ++ [b], same_put ((s2.trans s3).trans s4) nD, ?_, ?_⟩
    · rw [List.length_map, r2.length, List.length_take]
      exact Nat.lt_of_le_of_lt (Nat.min_le_left _ _) (by omega)
    · rw [upd_same, List.map_append]
      rfl
    · have e4 := s4 _ _ (s3 _ _ e2)
      have k : KT H2 (upd H4 D (.lst (ps.map V.ref ++ [V.ref b]))) := fun q xs e => by
        rw [upd_ne (fun z => by rw [z, e2] at e; cases e)]
        exact s4 _ _ (s3 _ _ e)
      have k3 : KT H4 (upd H4 D (.lst (ps.map V.ref ++ [V.ref b]))) := fun q xs e => by
        rw [upd_ne (fun z => by rw [z, e4] at e; cases e)]
        exact e
      rw [List.take_add_one, hy]
      exact each_app (PySem.W.EachIs.mono (fun _ _ h => hR _ _ _ _ k h) r2) (.cons (hR _ _ _ _ k3 hb) .nil)
  · rintro H2 ⟨ps, s2, e2, r2⟩
    rw [hl, List.take_of_length_le (Nat.le_refl _)] at r2
    exact hd H2 ps s2 e2 r2
end
end Lc

set_option Elab.async false
set_option linter.all false
set_option maxRecDepth 100000
set_option maxHeartbeats 3200000
/-! a new dict, locked as soon as it is there (for its walk) -/
namespace Lc
open PySem L2 Tx Tg Tm RZ
def tLockV (t : TE) : TE := fun σ H Q => t σ H fun x H1 => ∃ d u, x = .ref d ∧ H1 d = some u ∧ Mut (some u) ∧ ∀ od, Q x (upd H1 d (.frz od u))
theorem pe_lockV {X : Cx} {e : Expr} {t : TE} (he : PE X e t) : PE X e (tLockV t) := by
  refine ⟨fun pins s σ H Q I h => ?_⟩
  refine thn (he.run pins s σ H _ I h) fun u s1 ⟨x, H1, I1, rx, d, o, ex, hd, mu, q⟩ => ?_
  obtain ⟨od, I2⟩ := I1.lock hd mu
  exact ⟨x, _, I2, rx, q od⟩
end Lc

set_option linter.all false
/-! TalW: core Lean alone. Selections with signs, squares with a number added on the line from corner to corner -/
namespace Ty
abbrev Pk := List Nat × Nat
def pstep (F : List Pk) (c : Nat) : List Pk := F.map (fun s => (s.1 ++ [c], s.2)) ++ F.map fun s => (s.1, s.2 + 1)
def picks (l : List Nat) : List Pk := l.foldl pstep [([], 0)]
theorem picks_snoc (l : List Nat) (c : Nat) : picks (l ++ [c]) = pstep (picks l) c := by
  unfold picks
  rw [List.foldl_append]
  rfl
/-- the sum over selections -/
def psum (k : Int) (F : List Pk) (g : List Nat → Int) : Int := (F.map fun s => k ^ s.2 * g s.1).sum
theorem psum_app (k : Int) (F G : List Pk) (g : List Nat → Int) : psum k (F ++ G) g = psum k F g + psum k G g := by
  unfold psum
  rw [List.map_append, List.sum_append]
theorem psum_step (k : Int) (F : List Pk) (c : Nat) (g : List Nat → Int) : psum k (pstep F c) g = psum k F (fun s => g (s ++ [c])) + k * psum k F g := by
  unfold pstep
  rw [psum_app]
  congr 1
  · unfold psum
    rw [List.map_map]
    rfl
  · unfold psum
    rw [List.map_map]
    induction F with
    | nil => exact (Int.mul_zero k).symm
    | cons s F ih =>
      rw [List.map_cons, List.map_cons, List.sum_cons, List.sum_cons, ih, Int.mul_add]
      congr 1
      show k ^ (s.2 + 1) * g s.1 = k * (k ^ s.2 * g s.1)
      rw [Int.pow_succ, Int.mul_comm (k ^ s.2) k, Int.mul_assoc]
theorem psum_S (k : Int) (n : Nat) (f : List Nat → Nat → Int) : ∀ F : List Pk, S n (fun i => psum k F fun s => f s i) = psum k F fun s => S n (f s)
  | [] => S_zero n
  | s :: F => by
    have e : S n (fun i => psum k (s :: F) fun s => f s i) = S n (fun i => k ^ s.2 * f s.1 i + psum k F fun s => f s i) := rfl
    rw [e, S_add, S_mulL, psum_S k n f F]
    rfl
theorem psum_mulR (k x : Int) (g : List Nat → Int) : ∀ F : List Pk, (psum k F g) * x = psum k F fun s => g s * x
  | [] => Int.zero_mul x
  | s :: F => by
    have e : psum k (s :: F) g = k ^ s.2 * g s.1 + psum k F g := rfl
    have e2 : psum k (s :: F) (fun s => g s * x) = k ^ s.2 * (g s.1 * x) + psum k F fun s => g s * x := rfl
    rw [e, e2, Int.add_mul, psum_mulR k x g F, Int.mul_assoc]
/-- k added from corner to corner -/
def rais (k : Int) (M : Nat → Nat → Int) : Nat → Nat → Int := fun i j => M i j + if j = i then k else 0
theorem S_delta (k : Int) (r : Nat → Int) (j : Nat) : ∀ n : Nat, S n (fun i => r i * if j = i then k else 0) = if j < n then k * r j else 0
  | 0 => rfl
  | n + 1 => by
    show S n _ + r n * (if j = n then k else 0) = _
    rw [S_delta k r j n]
    by_cases h : j < n
    · rw [if_pos h, if_neg (show ¬ j = n by omega), if_pos (show j < n + 1 by omega), Int.mul_zero, Int.add_zero]
    · rw [if_neg h]
      by_cases h2 : j = n
      · rw [if_pos h2, if_pos (show j < n + 1 by omega), h2, Int.zero_add, Int.mul_comm]
      · rw [if_neg h2, if_neg (show ¬ j < n + 1 by omega), Int.mul_zero, Int.add_zero]
theorem fv_rais (k : Int) (n : Nat) (r : Nat → Int) (M : Nat → Nat → Int) {j : Nat} (h : j < n) : fv n r (rais k M) j = fv n r M j + k * r j := by
  show S n (fun i => r i * (M i j + if j = i then k else 0)) = _
  have e : S n (fun i => r i * (M i j + if j = i then k else 0)) = S n (fun i => r i * M i j + r i * if j = i then k else 0) := S_congr fun i _ => Int.mul_add ..
  rw [e, S_add, S_delta, if_pos h]
  rfl
theorem led_rais (k : Int) (n : Nat) (r0 : Nat → Int) (M : Nat → Nat → Nat → Int) : ∀ (l : List Nat) (F : List Pk) (r : Nat → Int), (∀ j, j < n → r j = psum k F fun s => led n r0 (s.map M) j) →
    ∀ j, j < n → led n r (l.map fun c => rais k (M c)) j = psum k (l.foldl pstep F) fun s => led n r0 (s.map M) j
  | [], F, r, h => h
  | c :: l, F, r, h => by
    refine led_rais k n r0 M l (pstep F c) (fv n r (rais k (M c))) fun j hj => ?_
    rw [fv_rais k n r (M c) hj, psum_step, ← h j hj]
    congr 1
    have e : fv n r (M c) j = S n (fun i => psum k F fun s => led n r0 (s.map M) i * M c i j) := S_congr fun i hi => by rw [h i hi, psum_mulR]
    rw [e, psum_S]
    have e2 : (fun s : List Nat => S n fun i => led n r0 (s.map M) i * M c i j) = fun s => led n r0 ((s ++ [c]).map M) j := funext fun s => by
      rw [List.map_append, led_app]
      rfl
    rw [e2]
/-- the number by raised squares is the sum over selections -/
theorem num_rais (k : Int) (n : Nat) (r c : Nat → Int) (M : Nat → Nat → Nat → Int) (l : List Nat) : num n r (l.map fun x => rais k (M x)) c = psum k (picks l) fun s => num n r (s.map M) c := by
  have h := led_rais k n r M l [([], 0)] r fun j _ => by
    show r j = k ^ 0 * r j + 0
    rw [Int.pow_zero, Int.one_mul, Int.add_zero]
  show S n (fun i => led n r _ i * c i) = psum k (picks l) fun s => S n (fun i => led n r (s.map M) i * c i)
  rw [← psum_S]
  refine S_congr fun i hi => ?_
  rw [h i hi, psum_mulR]
  rfl
theorem num_eqv {p : Option Int} {n : Nat} {Ms Ms' : List (Nat → Nat → Int)} (m : MsEqv p n Ms Ms') (r c : Nat → Int) : Eqv p (num n r Ms c) (num n r Ms' c) :=
  dt_eqv (led_eqv m fun _ _ => rfl) fun _ _ => rfl
theorem psum_eqv {p : Option Int} {k : Int} {g g' : List Nat → Int} : ∀ {F : List Pk}, (∀ s ∈ F, Eqv p (g s.1) (g' s.1)) → Eqv p (psum k F g) (psum k F g')
  | [], _ => rfl
  | s :: F, h => Eqv.add (Eqv.mul (Eqv.refl p _) (h s List.mem_cons_self)) (psum_eqv fun x hx => h x (List.mem_cons_of_mem _ hx))
/-- the letters of a selection -/
theorem foldl_sub : ∀ {n0 : Nat} {A : List Nat} {F : List Pk} {l : List Nat} {s : Pk}, s ∈ l.foldl pstep F → (∀ t ∈ F, t.1.length ≤ n0 ∧ ∀ c ∈ t.1, c ∈ A) → s.1.length ≤ n0 + l.length ∧ ∀ c ∈ s.1, c ∈ A ∨ c ∈ l
  | _, _, _, [], s, h, hF => ⟨(hF s h).1, fun c hc => .inl ((hF s h).2 c hc)⟩
  | n0, A, F, x :: l, s, h, hF => by
    have := foldl_sub (n0 := n0 + 1) (A := x :: A) (F := pstep F x) (l := l) (s := s) h fun t ht => by
      rcases List.mem_append.mp ht with ht | ht
      · obtain ⟨u, hu, rfl⟩ := List.mem_map.mp ht
        have := hF u hu
        refine ⟨by rw [List.length_append, List.length_singleton]; omega, fun c hc => ?_⟩
        rcases List.mem_append.mp hc with hc | hc
        · exact List.mem_cons_of_mem _ (this.2 c hc)
        · rw [List.mem_singleton.mp hc]
          exact List.mem_cons_self
      · obtain ⟨u, hu, rfl⟩ := List.mem_map.mp ht
        have := hF u hu
        exact ⟨by show u.1.length ≤ n0 + 1; omega, fun c hc => List.mem_cons_of_mem _ (this.2 c hc)⟩
    refine ⟨by rw [List.length_cons]; omega, fun c hc => ?_⟩
    rcases this.2 c hc with z | z
    · rcases List.mem_cons.mp z with rfl | z
      · exact .inr List.mem_cons_self
      · exact .inl z
    · exact .inr (List.mem_cons_of_mem _ z)
theorem picks_sub {l : List Nat} {s : Pk} (h : s ∈ picks l) : s.1.length ≤ l.length ∧ ∀ c ∈ s.1, c ∈ l := by
  have := foldl_sub (n0 := 0) (A := []) (F := [([], 0)]) h fun t ht => by
    rw [List.mem_singleton.mp ht]
    exact ⟨Nat.le_refl _, nofun⟩
  exact ⟨by omega, fun c hc => (this.2 c hc).resolve_left nofun⟩
theorem foldl_len : ∀ (l : List Nat) (F : List Pk), (l.foldl pstep F).length = F.length * 2 ^ l.length
  | [], F => (Nat.mul_one _).symm
  | x :: l, F => by
    show (l.foldl pstep (pstep F x)).length = _
    rw [foldl_len l]
    unfold pstep
    rw [List.length_append, List.length_map, List.length_map, List.length_cons, Nat.pow_succ, ← Nat.mul_two, Nat.mul_assoc, Nat.mul_comm 2]
theorem picks_len (l : List Nat) : (picks l).length = 2 ^ l.length := by
  unfold picks
  rw [foldl_len, List.length_singleton, Nat.one_mul]
/-! ### how often a text is a selection -/
def cnt (y : List Nat) (F : List Pk) : Nat := (F.map (·.1)).count y
theorem cnt_app {y : List Nat} {c : Nat} (d : Nat) (F : List Pk) : ((F.map fun s => s.1 ++ [c])).count (y ++ [d]) = if d = c then cnt y F else 0 := by
  unfold cnt
  induction F with
  | nil => simp
  | cons s F ih =>
    rw [List.map_cons, List.count_cons, ih, List.map_cons, List.count_cons]
    by_cases h : d = c
    · subst h
      simp
    · rw [if_neg h, if_neg h]
      have : ¬ s.1 ++ [c] = y ++ [d] := fun e => h (by
        have := List.append_inj_right' e rfl
        injection this with q _
        exact q.symm)
      simp [this]
      exact fun _ e => h e.symm
theorem cnt_step (y : List Nat) (d c : Nat) (F : List Pk) : cnt (y ++ [d]) (pstep F c) = cnt (y ++ [d]) F + if d = c then cnt y F else 0 := by
  unfold pstep
  show ((F.map _ ++ F.map _).map _).count _ = _
  rw [List.map_append, List.map_map, List.map_map, List.count_append, Nat.add_comm]
  congr 1
  exact cnt_app d F
theorem cnt_nil_step (c : Nat) (F : List Pk) : cnt [] (pstep F c) = cnt [] F := by
  unfold pstep
  show ((F.map _ ++ F.map _).map _).count _ = _
  rw [List.map_append, List.map_map, List.map_map, List.count_append]
  have : (F.map ((fun x : Pk => x.1) ∘ fun s => (s.1 ++ [c], s.2))).count [] = 0 := List.count_eq_zero.mpr fun h => by
    obtain ⟨s, _, e⟩ := List.mem_map.mp h
    simp at e
  rw [this, Nat.zero_add]
  rfl
theorem cnt_nil_fold : ∀ (l : List Nat) (F : List Pk), cnt [] (l.foldl pstep F) = cnt [] F
  | [], _ => rfl
  | c :: l, F => (cnt_nil_fold l (pstep F c)).trans (cnt_nil_step c F)
theorem cnt_nil (l : List Nat) : cnt [] (picks l) = 1 := cnt_nil_fold l _
theorem neg_pow (o : Nat) : (-1 : Int) ^ o = if o % 2 = 0 then 1 else -1 := by
  induction o with
  | zero => rfl
  | succ o ih =>
    rw [Int.pow_succ, ih]
    rcases Nat.mod_two_eq_zero_or_one o with h | h
    · rw [if_pos h, if_neg (show ¬ (o + 1) % 2 = 0 by omega)]
      rfl
    · rw [if_neg (show ¬ o % 2 = 0 by omega), if_pos (show (o + 1) % 2 = 0 by omega)]
      rfl
/-- the row of how often the beginnings of b are selections -/
def crow (b : List Nat) (F : List Pk) : List Int := (List.range (b.length + 1)).map fun j => (cnt (b.take j) F : Int)
theorem crow_nil (b : List Nat) : crow b [([], 0)] = 1 :: List.replicate b.length 0 := by
  unfold crow
  rw [List.range_succ_eq_map, List.map_cons, List.map_map]
  congr 1
  refine List.ext_getElem (by simp) fun i h1 h2 => ?_
  simp only [List.getElem_map, List.getElem_range, List.getElem_replicate, Function.comp]
  have hi : i < b.length := by
    simp only [List.length_map, List.length_range] at h1
    exact h1
  show ((cnt (b.take (i + 1)) [([], 0)] : Nat) : Int) = 0
  unfold cnt
  rw [List.map_singleton, List.count_singleton]
  have : ¬ b.take (i + 1) = [] := fun e => by
    have := congrArg List.length e
    rw [List.length_take] at this
    rw [List.length_nil] at this
    omega
  simp [this, Ne.symm this]
theorem crow_step (b : List Nat) (c : Nat) (F : List Pk) (j : Nat) (h : j < b.length) : (cnt (b.take (j + 1)) (pstep F c) : Int) = (crow b F).getD (j + 1) 0 + (crow b F).getD j 0 * (if b[j] = c then 1 else 0) := by
  have e : b.take (j + 1) = b.take j ++ [b[j]] := (List.take_append_getElem h).symm
  have g : ∀ i, i ≤ b.length → (crow b F).getD i 0 = (cnt (b.take i) F : Int) := fun i hi => by
    unfold crow
    rw [List.getD_eq_getElem?_getD, List.getElem?_map, List.getElem?_range (by omega)]
    rfl
  rw [g (j + 1) (by omega), g j (by omega), e, cnt_step]
  split <;> simp
theorem group {f : List Nat → Int} : ∀ {L D : List (List Nat)}, D.Nodup → (∀ x ∈ L, x ∈ D) → (L.map f).sum = (D.map fun y => f y * (L.count y : Int)).sum
  | [], D, _, _ => by
    have : ∀ D : List (List Nat), (D.map fun y => f y * (([] : List (List Nat)).count y : Int)).sum = 0 := fun D => by
      induction D with
      | nil => rfl
      | cons y D ih =>
        rw [List.map_cons, List.sum_cons, ih]
        simp
    exact (this D).symm
  | x :: L, D, nd, h => by
    rw [List.map_cons, List.sum_cons, group (L := L) nd fun y hy => h y (List.mem_cons_of_mem _ hy)]
    have hx := h x List.mem_cons_self
    have key : ∀ D : List (List Nat), D.Nodup → (D.map fun y => f y * (((x :: L).count y : Nat) : Int)).sum = (if x ∈ D then f x else 0) + (D.map fun y => f y * (L.count y : Int)).sum := fun D => by
      induction D with
      | nil => intro _; rfl
      | cons y D ih =>
        intro nd
        rw [List.nodup_cons] at nd
        rw [List.map_cons, List.sum_cons, ih nd.2, List.map_cons, List.sum_cons, List.count_cons]
        by_cases e : x = y
        · subst e
          rw [if_neg nd.1, if_pos List.mem_cons_self]
          simp only [beq_self_eq_true, if_true]
          rw [Int.natCast_add, Int.mul_add]
          simp
          omega
        · have e2 : (x ∈ y :: D) ↔ x ∈ D := by
            rw [List.mem_cons]
            exact ⟨fun z => z.resolve_left e, .inr⟩
          simp only [e2]
          simp [e]
          omega
    rw [key D nd, if_pos hx]
theorem psum_one (F : List Pk) (g : List Nat → Int) : psum 1 F g = ((F.map (·.1)).map g).sum := by
  unfold psum
  rw [List.map_map]
  congr 1
  refine List.map_congr_left fun s _ => ?_
  show 1 ^ s.2 * g s.1 = g s.1
  rw [Int.one_pow, Int.one_mul]
end Ty

set_option Elab.async false
set_option linter.all false
set_option maxRecDepth 100000
set_option maxHeartbeats 6400000
namespace K16
open PySem L2 Tx Tg Tm Da RZ
/-! ### squares raised, the class's properties, tallies of weights and of sums -/
abbrev sPrL : Stmt := inClass sTally 1
abbrev sPrF : Stmt := inClass sTally 2
abbrev sPrM : Stmt := inClass sTally 3
abbrev sPrZ : Stmt := inClass sTally 4
abbrev sPrP : Stmt := inClass sTally 5
def raisL (k : Int) (n : Nat) (M : List (List Int)) : List (List Int) := (List.range n).map fun i => (List.range n).map fun j => Ty.sq M i j + if j = i then k else 0
abbrev raisW (k : Int) (n : Nat) (W : List Mv) : List Mv := W.map fun w => (w.1, raisL k n w.2)
theorem raisL_sq (k : Int) (n : Nat) (M : List (List Int)) : Ty.Sq n (raisL k n M) := ⟨by unfold raisL; rw [List.length_map, List.length_range], fun r hr => by
  obtain ⟨i, _, rfl⟩ := List.mem_map.mp hr
  rw [List.length_map, List.length_range]⟩
theorem raisL_at {k : Int} {n i j : Nat} {M : List (List Int)} (hi : i < n) (hj : j < n) : Ty.sq (raisL k n M) i j = Ty.rais k (Ty.sq M) i j := by
  have e : (raisL k n M).getD i [] = (List.range n).map fun j => Ty.sq M i j + if j = i then k else 0 := by
    unfold raisL
    rw [List.getD_eq_getElem?_getD, List.getElem?_map, List.getElem?_range hi]
    rfl
  show ((raisL k n M).getD i []).getD j 0 = _
  rw [e, List.getD_eq_getElem?_getD, List.getElem?_map, List.getElem?_range hj]
  rfl
section
variable {P : Program} {w : World} {K : PySem.W.Frag} {mg : Str → Option Value} {base : Heap}
abbrev nRaisedSq : List Str := ["square", "number", "down", "row", "across", "part"]
theorem scRaisedSq : FnScope nRaisedSq ["square", "number"] (defScope sRaisedSq) := ⟨rfl, rfl, rfl, by decide +kernel, rfl, by decide +kernel, by decide +kernel⟩
def spRaisedSq : Sp := fun vs H Q _ => ∃ (a : Addr) (k : Int) (M : List (List Int)) (n : Nat), vs = [.ref a, .int k] ∧ SqAt H a M ∧ Ty.Sq n M ∧ n ≤ 9 ∧ ∀ b H', Same H H' → SqAt H' b (raisL k n M) → Q (.ref b) H'
theorem ok_raisedsq {f : Addr} {fd : FuncData} (F : Fun K "raised_square" "raised_square" sRaisedSq f fd) (T : Txt K mg) : FnOk P w K mg base CX0 1 f fd ["square", "number"] spRaisedSq := by
  refine F.ok scRaisedSq (fun vs H Q E h => ?_) (fun cdv A outer s H vs Q E hr h => ?_)
  · obtain ⟨a, k, M, n, rfl, _⟩ := h
    rfl
  · obtain ⟨a, k, M, n, rfl, ⟨ps, ha, hps⟩, hs, hn, q⟩ := h
    refine ⟨_, (pss_one (ps_ret (pe_callTy call_tuple_of (by rfl) T.tuple (by decide +kernel) (pa_cons (pe_lc (own := [("down", 2), ("row", 3)]) (g := (gTup K 2 (gCons (gName 2) (gCons (gName 3) gNil)))) (tt := tYes) (te := tCB (rTupOf K) (tCons (tLc (Ur.iEnumT K (tCons (tVar 3) tNil)) (gTup K 2 (gCons (gName 4) (gCons (gName 5) gNil))) tYes (tIf (tTest (tOp rEq (tVar 4) (tVar 2))) (tOp (rI0 fun i j => .int (i + j)) (tVar 5) (tVar 1)) (tVar 5)) [4, 5]) tNil)) rfl scRaisedSq.nd (Ur.pi_enumT (by rfl) T.enumerate (pa_cons (pv 0) pa_nil)) (blkOk_by (own := [("down", 2), ("row", 3)]) (N := nRaisedSq) (sc := defScope sRaisedSq) (by decide +kernel)) (fun _ _ _ _ _ => (pg_tup rfl (pgs_cons (pg_name (i := 2) scRaisedSq.nd rfl (Or.inr rfl)) (pgs_cons (pg_name (i := 3) scRaisedSq.nd rfl (Or.inl rfl)) pgs_nil)))) (fun _ _ _ _ _ => pts_nil) (fun _ _ _ _ _ => (pe_callTy call_tuple_of (by rfl) T.tuple (by decide +kernel) (pa_cons (pe_lc (own := [("across", 4), ("part", 5)]) (g := (gTup K 2 (gCons (gName 4) (gCons (gName 5) gNil)))) (tt := tYes)  rfl scRaisedSq.nd (Ur.pi_enumT (by rfl) T.enumerate (pa_cons (pv 3) pa_nil)) (blkOk_by (own := [("across", 4), ("part", 5)]) (N := nRaisedSq) (by rfl)) (fun _ _ _ _ _ => (pg_tup rfl (pgs_cons (pg_name (i := 4) scRaisedSq.nd rfl (Or.inl rfl)) (pgs_cons (pg_name (i := 5) scRaisedSq.nd rfl (Or.inl rfl)) pgs_nil)))) (fun _ _ _ _ _ => pts_nil) (fun _ _ _ _ _ => (pe_ifExp (pt_cmpR op_eq (pv 4) (pv 2) (nomark _)) (pe_op op_add (pv 5) (pv 1)) (pv 5)))) pa_nil)))) pa_nil)))), ?_⟩
    have lps := hps.length
    have lM := hs.len
    refine ⟨_, rfl, a, _, rfl, SqT.of ha, fun D nD => ?_⟩
    refine Lc.lcER (R := RowI) (fun H H' p x kt h => kt _ _ h) (ys := raisL k n M) (SqT.of ha) nD (by rw [List.length_map, (raisL_sq k n M).len]; omega) (by rw [List.length_map]; exact Nat.lt_of_le_of_lt (show ps.length ≤ 9 by omega) (by decide)) (fun _ _ => rfl) ?_ ?_
    · intro i x y H2 hx hy s2 Q' q'
      have hi := (List.getElem?_eq_some_iff.mp hx).1
      rw [List.length_map] at hi
      have hin : i < n := by omega
      have hiM : i < M.length := by omega
      rw [List.getElem?_map, List.getElem?_eq_getElem hi] at hx
      cases hx
      unfold raisL at hy
      rw [List.getElem?_map, List.getElem?_range hin] at hy
      cases hy
      have hrow := s2 _ _ (each_at2 hps (List.getElem?_eq_getElem hi) (List.getElem?_eq_getElem hiM))
      have lr : M[i].length = n := hs.row _ (List.getElem_mem hiM)
      refine ⟨_, rfl, ps[i], _, rfl, SqT.of hrow, fun D2 nD2 => ?_⟩
      refine Lc.lcES (ys := intsV ((List.range n).map fun j => Ty.sq M i j + if j = i then k else 0)) (SqT.of hrow) nD2 (by rw [List.length_map, List.length_map, List.length_map, List.length_range, lr]) (by rw [List.length_map, lr]; exact Nat.lt_of_le_of_lt hn (by decide)) (fun _ _ => rfl) ?_ ?_
      · intro j x y H4 hx hy s4 Q2 q2
        have hj := (List.getElem?_eq_some_iff.mp hx).1
        rw [List.length_map] at hj
        rw [List.getElem?_map, List.getElem?_eq_getElem hj] at hx
        cases hx
        rw [List.getElem?_map, List.getElem?_map, List.getElem?_range (by omega)] at hy
        cases hy
        have esq : Ty.sq M i j = M[i][j] := sq_at hiM hj
        refine ⟨_, rfl, _, rfl, rfl, _, rfl, ?_⟩
        by_cases e : j = i
        · subst e
          rw [decide_eq_true rfl]
          refine iteT ⟨_, rfl, _, rfl, _, _, rfl, rfl, ?_⟩
          have q2 := q2 H4 (Same.refl _)
          dsimp only at q2
          rw [if_pos rfl, esq] at q2
          exact q2
        · rw [decide_eq_false (show ¬ V.int (j : Int) = V.int (i : Int) from fun z => e (by injection z with z; exact Int.ofNat_inj.mp z))]
          refine iteF ⟨_, rfl, ?_⟩
          have q2 := q2 H4 (Same.refl _)
          dsimp only at q2
          rw [if_neg e, esq, Int.add_zero] at q2
          exact q2
      · intro H4 s4 e4
        refine ⟨D2, _, rfl, .inl ⟨SqL.of e4, fun b nb => ?_⟩⟩
        exact q' b _ (s4.trans (same_upd nb)) upd_same
    · intro H2 qs s2 e2 r2
      refine ⟨D, _, rfl, .inl ⟨SqL.of e2, fun b nb => ?_⟩⟩
      have s3 := same_upd (o := .tup (qs.map V.ref)) nb
      exact q b _ (s2.trans s3) ⟨qs, upd_same, PySem.W.EachIs.mono (fun _ _ e => s3 _ _ e) r2⟩
end
section
variable {P : Program} {w : World} {K : PySem.W.Frag} {mg : Str → Option Value} {base : Heap} {CM CT fM fT : Addr} {dM dT : FuncData}
def spPrL (CT : Addr) : Sp := fun vs H Q _ => ∃ (p : Addr) (t : Tl), vs = [.ref p] ∧ TlAt CT H p t ∧ Q (.str t.sg) H
def spPrF (CT : Addr) : Sp := fun vs H Q _ => ∃ (p : Addr) (t : Tl), vs = [.ref p] ∧ TlAt CT H p t ∧ ∀ a, RowI H a t.u → Q (.ref a) H
def spPrM (CT : Addr) : Sp := fun vs H Q _ => ∃ (p : Addr) (t : Tl), vs = [.ref p] ∧ TlAt CT H p t ∧ ∀ d H', Same H H' → H d = none → MovAt H' d t.W → Q (.ref d) H'
def spPrZ (CT : Addr) : Sp := fun vs H Q _ => ∃ (p : Addr) (t : Tl), vs = [.ref p] ∧ TlAt CT H p t ∧ ∀ a, RowI H a t.v → Q (.ref a) H
def spPrP (CT : Addr) : Sp := fun vs H Q _ => ∃ (p : Addr) (t : Tl), vs = [.ref p] ∧ TlAt CT H p t ∧ Q (pV t.p) H
theorem scPrL : FnScope ["self"] ["self"] (defScope sPrL) := ⟨rfl, rfl, rfl, by decide +kernel, rfl, by decide +kernel, by decide +kernel⟩
theorem scPrF : FnScope ["self"] ["self"] (defScope sPrF) := ⟨rfl, rfl, rfl, by decide +kernel, rfl, by decide +kernel, by decide +kernel⟩
theorem scPrM : FnScope ["self"] ["self"] (defScope sPrM) := ⟨rfl, rfl, rfl, by decide +kernel, rfl, by decide +kernel, by decide +kernel⟩
theorem scPrZ : FnScope ["self"] ["self"] (defScope sPrZ) := ⟨rfl, rfl, rfl, by decide +kernel, rfl, by decide +kernel, by decide +kernel⟩
theorem scPrP : FnScope ["self"] ["self"] (defScope sPrP) := ⟨rfl, rfl, rfl, by decide +kernel, rfl, by decide +kernel, by decide +kernel⟩
theorem ok_prl {f : Addr} {fd : FuncData} (F : Fun K "letters" "Tally.letters" sPrL f fd) (W0 : WT K mg CM CT) : FnOk P w K mg base CX0 1 f fd ["self"] (spPrL CT) := by
  refine F.ok scPrL (fun vs H Q E h => ?_) (fun cdv A outer s H vs Q E hr h => ?_)
  · obtain ⟨p, t, rfl, _⟩ := h
    rfl
  · obtain ⟨p, t, rfl, ⟨dx, a, d, b, ex, _⟩, q⟩ := h
    exact ⟨_, (pss_one (ps_ret (pe_fld (pv 0) rfl))), _, rfl, p, CT, dx, _, _, rfl, ex, W0.clT, W0.nL, rfl, q⟩
theorem ok_prf {f : Addr} {fd : FuncData} (F : Fun K "first" "Tally.first" sPrF f fd) (W0 : WT K mg CM CT) : FnOk P w K mg base CX0 1 f fd ["self"] (spPrF CT) := by
  refine F.ok scPrF (fun vs H Q E h => ?_) (fun cdv A outer s H vs Q E hr h => ?_)
  · obtain ⟨p, t, rfl, _⟩ := h
    rfl
  · obtain ⟨p, t, rfl, ⟨dx, a, d, b, ex, ha, _⟩, q⟩ := h
    exact ⟨_, (pss_one (ps_ret (pe_fld (pv 0) rfl))), _, rfl, p, CT, dx, _, _, rfl, ex, W0.clT, W0.nF, rfl, q a ha⟩
theorem ok_prz {f : Addr} {fd : FuncData} (F : Fun K "last" "Tally.last" sPrZ f fd) (W0 : WT K mg CM CT) : FnOk P w K mg base CX0 1 f fd ["self"] (spPrZ CT) := by
  refine F.ok scPrZ (fun vs H Q E h => ?_) (fun cdv A outer s H vs Q E hr h => ?_)
  · obtain ⟨p, t, rfl, _⟩ := h
    rfl
  · obtain ⟨p, t, rfl, ⟨dx, a, d, b, ex, _, _, hb, _⟩, q⟩ := h
    exact ⟨_, (pss_one (ps_ret (pe_fld (pv 0) rfl))), _, rfl, p, CT, dx, _, _, rfl, ex, W0.clT, W0.nZ, rfl, q b hb⟩
theorem ok_prp {f : Addr} {fd : FuncData} (F : Fun K "prime" "Tally.prime" sPrP f fd) (W0 : WT K mg CM CT) : FnOk P w K mg base CX0 1 f fd ["self"] (spPrP CT) := by
  refine F.ok scPrP (fun vs H Q E h => ?_) (fun cdv A outer s H vs Q E hr h => ?_)
  · obtain ⟨p, t, rfl, _⟩ := h
    rfl
  · obtain ⟨p, t, rfl, ⟨dx, a, d, b, ex, _⟩, q⟩ := h
    exact ⟨_, (pss_one (ps_ret (pe_fld (pv 0) rfl))), _, rfl, p, CT, dx, _, _, rfl, ex, W0.clT, W0.nP, rfl, q⟩
theorem ok_prm {f : Addr} {fd : FuncData} (F : Fun K "moves" "Tally.moves" sPrM f fd) (T : Txt K mg) (W0 : WT K mg CM CT) : FnOk P w K mg base CX0 1 f fd ["self"] (spPrM CT) := by
  refine F.ok scPrM (fun vs H Q E h => ?_) (fun cdv A outer s H vs Q E hr h => ?_)
  · obtain ⟨p, t, rfl, _⟩ := h
    rfl
  · obtain ⟨p, t, rfl, ⟨dx, a, d, b, ex, _, ⟨kvs, ed, hw⟩, _⟩, q⟩ := h
    refine ⟨_, (pss_one (ps_ret (pe_callTy call_dictD (by rfl) T.dict (by decide +kernel) (pa_cons (pe_fld (pv 0) rfl) pa_nil)))), ?_⟩
    refine ⟨_, rfl, p, CT, dx, _, _, rfl, ex, W0.clT, W0.nM, rfl, d, kvs, rfl, .inl ed, fun d' nd => ?_⟩
    have s1 := same_upd (o := .dK kvs) nd
    exact q d' _ s1 nd ⟨kvs, upd_same, hw.keep (.same s1)⟩
/-- a property of a class -/
structure PrpD (P : Program) (w : World) (K : PySem.W.Frag) (mg : Str → Option Value) (base : Heap) (C : Addr) (k : Nat) (m : Str) (sp : Sp) (pp f : Addr) (fd : FuncData) : Prop where
  g : FnOk P w K mg base CX0 k f fd ["self"] sp
  b : Binds K fd ["self"] []
  p : PropOf K C m pp f
def spCTally (CT : Addr) : Sp := fun vs H Q _ => ∃ (x : Addr) (t : Tl), vs = [.ref x] ∧ TlAt CT H x t ∧ Q .non H
theorem scCTally : FnScope ["value"] ["value"] (defScope sCTally) := ⟨rfl, rfl, rfl, by decide +kernel, rfl, by decide +kernel, by decide +kernel⟩
theorem ok_ctally {f : Addr} {fd : FuncData} (F : Fun K "check_tally" "check_tally" sCTally f fd) (T : Txt K mg) (W0 : WT K mg CM CT) : FnOk P w K mg base CX0 1 f fd ["value"] (spCTally CT) := by
  refine F.ok scCTally (fun vs H Q E h => ?_) (fun cdv A outer s H vs Q E hr h => ?_)
  · obtain ⟨x, t, rfl, _⟩ := h
    rfl
  · obtain ⟨x, t, rfl, hx, q⟩ := h
    obtain ⟨dx, _, _, _, ex, _⟩ := id hx
    refine ⟨_, (pss_one (ps_if (pt_not (pt_val (pe_callB call_isi (by rfl) T.isi (by decide +kernel) (pa_cons (pv 0) (pa_cons (pe_glob (v := .ref CT) (by rfl) W0.gT rfl) pa_nil))))) (pss_one ps_never) pss_nil)), ?_⟩
    exact ⟨_, rfl, _, _, _, _, _, rfl, .own CT, W0.tyT _ _ _ _ ex, W0.iTT, true, rfl, iteF q⟩
variable {qL qF qM qZ qP gL gF gM gZ gP fQ fC fR : Addr} {eL eF eM eZ eP dQ dC dR : FuncData}
/-- the five properties -/
structure Prs (P : Program) (w : World) (K : PySem.W.Frag) (mg : Str → Option Value) (base : Heap) (CT qL qF qM qZ qP gL gF gM gZ gP : Addr) (eL eF eM eZ eP : FuncData) : Prop where
  L : PrpD P w K mg base CT 1 "letters" (spPrL CT) qL gL eL
  F : PrpD P w K mg base CT 1 "first" (spPrF CT) qF gF eF
  M : PrpD P w K mg base CT 1 "moves" (spPrM CT) qM gM eM
  Z : PrpD P w K mg base CT 1 "last" (spPrZ CT) qZ gZ eZ
  P : PrpD P w K mg base CT 1 "prime" (spPrP CT) qP gP eP
abbrev nRaised : List Str := ["tally", "number", "moves", "letter", "square"]
theorem scRaised : FnScope nRaised ["tally", "number"] (defScope sRaised) := ⟨rfl, rfl, rfl, by decide +kernel, rfl, by decide +kernel, by decide +kernel⟩
abbrev raisT (k : Int) (t : Tl) : Tl := mkTl t t.u (raisW k t.n t.W) t.v t.n
def spRaised (CT : Addr) : Sp := fun vs H Q _ => ∃ (x : Addr) (k : Int) (t : Tl), vs = [.ref x, .int k] ∧ TlAt CT H x t ∧ t.n ≤ 9 ∧ ∀ y H', Same H H' → TlAt CT H' y (raisT k t) → Q (.ref y) H'
theorem ok_raised {f : Addr} {fd : FuncData} (F : Fun K "raised" "raised" sRaised f fd) (T : Txt K mg) (Z : MkT P w K mg base CM CT fM fT dM dT) (R : Prs P w K mg base CT qL qF qM qZ qP gL gF gM gZ gP eL eF eM eZ eP) (DQ : Df K mg "raised_square" sRaisedSq ["square", "number"] fQ dQ) : FnOk P w K mg base CX0 8 f fd ["tally", "number"] (spRaised CT) := by
  have GQ := ok_raisedsq (P := P) (w := w) (base := base) DQ.F T
  refine F.ok scRaised (fun vs H Q E h => ?_) (fun cdv A outer s H vs Q E hr h => ?_)
  · obtain ⟨x, k, t, rfl, _⟩ := h
    rfl
  · obtain ⟨x, k, t, rfl, hx, hn, q⟩ := h
    have okt := hx.ok
    have ok := okt.N
    have hu := hu_of hr
    refine ⟨_, (pss_cons ((Lc.ps_setDc (i := 2) (own := [("letter", 3), ("square", 4)]) (g := (gTup K 2 (gCons (gName 3) (gCons (gName 4) gNil)))) (tt := tYes) (tk := tVar 3) (tv := tCall spRaisedSq [] E0 (tCons (tVar 4) (tCons (tVar 1) tNil))) rfl scRaised.nd rfl rfl (Lc.sw_dict rfl rfl rfl (by decide +kernel)) (pi_items (Lc.pe_lockV (pe_prop (pv 0) Z.W.clT R.M.p R.M.g (hr.mono (by decide)) R.M.b .nil pass0 rfl))) (blkOk_by (own := [("letter", 3), ("square", 4)]) (N := nRaised) (sc := defScope sRaised) (by decide +kernel)) (fun _ _ _ _ _ => (pg_tup rfl (pgs_cons (pg_name (i := 3) scRaised.nd rfl (Or.inl rfl)) (pgs_cons (pg_name (i := 4) scRaised.nd rfl (Or.inl rfl)) pgs_nil)))) (fun _ _ _ _ _ => pts_nil) (fun _ _ _ _ _ => (pv 3)) (fun _ _ _ _ _ => (pe_call GQ (hr.mono (by decide)) (by rfl) DQ.m DQ.F.kp DQ.b .nil pass0 (pa_cons (pv 4) (pa_cons (pv 1) pa_nil))))))
    (pss_one (ps_ret (pe_makeK Z.MT Z.gN (hr.mono (by decide)) (by rfl) Z.W.gT Z.kT pass0 (pa_cons (pe_prop (pv 0) Z.W.clT R.L.p R.L.g (hr.mono (by decide)) R.L.b .nil pass0 rfl) (pa_cons (pe_make Z.MM Z.gM (hr.mono (by decide)) (by rfl) Z.W.gM Z.bM .nil pass0 (pa_cons (pe_prop (pv 0) Z.W.clT R.F.p R.F.g (hr.mono (by decide)) R.F.b .nil pass0 rfl) pa_nil)) (pa_cons (pe_make Z.MM Z.gM (hr.mono (by decide)) (by rfl) Z.W.gM Z.bM .nil pass0 (pa_cons (pv 2) pa_nil)) (pa_cons (pe_make Z.MM Z.gM (hr.mono (by decide)) (by rfl) Z.W.gM Z.bM .nil pass0 (pa_cons (pe_prop (pv 0) Z.W.clT R.Z.p R.Z.g (hr.mono (by decide)) R.Z.b .nil pass0 rfl) pa_nil)) pa_nil)))) (pk_cons (pe_prop (pv 0) Z.W.clT R.P.p R.P.g (hr.mono (by decide)) R.P.b .nil pass0 rfl) pk_nil))))), ?_⟩
    obtain ⟨dx, a, d, b, ex, ha, hM, hb, _⟩ := id hx
    have few := ok.few
    let WT : List Mv := raisW k t.n t.W
    have kT : WT.map (·.1) = t.W.map (·.1) := by
      show (t.W.map _).map _ = _
      rw [List.map_map]
      rfl
    have okW : okN t.n WT := ⟨by rw [kT]; exact ok.nd, fun m hm => by
      obtain ⟨m0, h0, rfl⟩ := List.mem_map.mp hm
      exact raisL_sq _ _ _, by
      show (t.W.map _).length ≤ 3
      rw [List.length_map]
      exact few⟩
    refine ⟨_, rfl, x, dx, _, rfl, ex, x, t, rfl, hx, fun d1 H1 s1 n1 hM1 => ?_⟩
    obtain ⟨kvs, ed, hw⟩ := hM1
    have lw := hw.length
    refine ⟨d1, _, rfl, ed, (by unfold Mut; simp), fun od => ?_⟩
    have k0 : KeepT H1 (upd H1 d1 (.frz od (.dK kvs))) := KeepT.upd (.dK ed)
    have s0 : Same H (upd H1 d1 (.frz od (.dK kvs))) := fun b o e => by rw [upd_ne (ne_of_none e n1)]; exact s1 _ _ e
    have ed0 : (upd H1 d1 (.frz od (.dK kvs))) d1 = some (.frz od (.dK kvs)) := upd_same
    have hw0 := hw.keep k0
    generalize upd H1 d1 (.frz od (.dK kvs)) = H0 at s0 ed0 hw0 ⊢
    clear k0 ed hw s1
    refine ⟨d1, od, kvs, rfl, ed0, fun D nD => ?_⟩
    refine Lc.dc_items (fun i H2 => ∃ cvs, Same H0 H2 ∧ H2 D = some (.dK cvs) ∧ MvsAt H2 cvs (WT.take i)) ⟨[], same_upd nD, upd_same, .nil⟩ (fun i H2 z => by obtain ⟨_, s, _⟩ := z; exact s _ _ ed0) ?_ ?_
    · rintro i k' v tp H2 hk ⟨cvs, s2, e2, r2⟩ nt
      have hi := (List.getElem?_eq_some_iff.mp hk).1
      have hiW : i < t.W.length := by omega
      obtain ⟨ps, ek, hsq⟩ := each_at2 hw0 hk (List.getElem?_eq_getElem hiW)
      cases ek
      have mW : t.W[i] ∈ t.W := List.getElem_mem hiW
      have s3 := same_upd (o := .tup [kV (Sum.inr (one t.W[i].1)), .ref ps]) nt
      refine ⟨tp, _, rfl, SqT.of upd_same, rfl, _, _, rfl, _, _, rfl, rfl, rfl, iteT (B := False) ?_⟩
      refine ⟨_, rfl, _, rfl, _, rfl, ps, k, t.W[i].2, t.n, rfl, hsq.same (s2.trans s3), ok.sq _ mW, hn, fun b H4 s4 hb => ?_⟩
      have e4 := s4 _ _ (s3 _ _ e2)
      have r4 : MvsAt H4 cvs (WT.take i) := r2.keep (.same (s3.trans s4))
      have lc : cvs.length = i := by
        rw [r2.length, List.length_take]
        have : WT.length = t.W.length := List.length_map ..
        omega
      have nk : valV cvs (Sum.inr (one t.W[i].1) : Key) = none := mvs_none r4 (by
        rw [List.map_take, kT]
        intro hm
        obtain ⟨j, hj⟩ := List.mem_iff_getElem?.mp hm
        have hj1 := (List.getElem?_eq_some_iff.mp hj).1
        rw [List.length_take] at hj1
        rw [List.getElem?_take, if_pos (by omega)] at hj
        have e2 : (t.W.map (·.1))[i]? = some t.W[i].1 := by rw [List.getElem?_map, List.getElem?_eq_getElem hiW]; rfl
        have := (List.getElem?_inj (by rw [List.length_map]; omega) ok.nd).mp (hj.trans e2.symm)
        omega)
      refine ⟨cvs, Sum.inr (one t.W[i].1), rfl, e4, Nat.lt_of_le_of_lt (show cvs.length ≤ 3 by omega) (by decide), cvs ++ [(Sum.inr (one t.W[i].1), .ref b)], same_put (s2.trans (s3.trans s4)) nD, by rw [upd_same, putK_new nk], ?_⟩
      have k5 : KeepT H4 (upd H4 D (.dK (putK cvs (Sum.inr (one t.W[i].1)) (.ref b)))) := KeepT.upd (.dK e4)
      have et : WT[i]? = some (t.W[i].1, raisL k t.n t.W[i].2) := by
        show (t.W.map _)[i]? = _
        rw [List.getElem?_map, List.getElem?_eq_getElem hiW]
        rfl
      rw [List.take_add_one, et]
      exact each_app (r4.keep k5) (.cons ⟨b, rfl, hb.keep k5⟩ .nil)
    · rintro H2 ⟨cvs, s2, e2, r2⟩
      rw [List.take_of_length_le (by rw [lw]; exact Nat.le_of_eq (List.length_map ..))] at r2
      dsimp only [gName]
      have s3 := s0.trans s2
      have ex3 := s3 _ _ ex
      have hx3 := hx.same s3
      have hM3 : MovAt H2 D WT := ⟨cvs, e2, r2⟩
      refine ⟨_, rfl, x, dx, _, rfl, ex3, x, t, rfl, hx3, ?_⟩
      refine ⟨_, rfl, x, dx, _, rfl, ex3, x, t, rfl, hx3, fun a1 ha1 => fun y1 d1 ny1 nd1 ne1 => madeinit_new ny1 nd1 fun H4 s4 m1 => ⟨rfl, ?_⟩⟩
      refine ⟨_, rfl, fun y2 d2 ny2 nd2 ne2 => madeinit_new ny2 nd2 fun H5 s5 m2 => ⟨rfl, ?_⟩⟩
      have s35 := (s3.trans s4).trans s5
      refine ⟨_, rfl, x, dx, _, rfl, s35 _ _ ex, x, t, rfl, hx.same s35, fun b1 hb1 => fun y3 d3 ny3 nd3 ne3 => madeinit_new ny3 nd3 fun H6 s6 m3 => ⟨rfl, ?_⟩⟩
      have s36 := s35.trans s6
      refine ⟨_, rfl, x, dx, _, rfl, s36 _ _ ex, x, t, rfl, hx.same s36, rfl, rfl, fun y dy ny ndy ney => ?_⟩
      exact tinitM_new ny ndy okt.sg (m1.same (s5.trans s6)) (m2.same s6) m3 ((s4.trans s5).trans s6 _ _ ha1) (s6 _ _ hb1) okt.lu okt.lv (hM3.same ((s4.trans s5).trans s6)) okW (kT.trans okt.ord) (by omega) okt.pr fun H' s' h => ⟨rfl, q y H' (s36.trans s') h⟩
theorem scWGD : FnScope ["tally"] ["tally"] (defScope sWeighed) := ⟨rfl, rfl, rfl, by decide +kernel, rfl, by decide +kernel, by decide +kernel⟩
theorem scSMD : FnScope ["tally"] ["tally"] (defScope sSummed) := ⟨rfl, rfl, rfl, by decide +kernel, rfl, by decide +kernel, by decide +kernel⟩
def spBy (CT : Addr) (k : Int) : Sp := fun vs H Q _ => ∃ (x : Addr) (t : Tl), vs = [.ref x] ∧ TlAt CT H x t ∧ t.n ≤ 9 ∧ ∀ y H', Same H H' → TlAt CT H' y (raisT k t) → Q (.ref y) H'
theorem ok_weighed {f : Addr} {fd : FuncData} (F : Fun K "weighed" "weighed" sWeighed f fd) (T : Txt K mg) (W0 : WT K mg CM CT) (DC : Df K mg "check_tally" sCTally ["value"] fC dC) (DR : Df K mg "raised" sRaised ["tally", "number"] fR dR) (GR : FnOk P w K mg base CX0 8 fR dR ["tally", "number"] (spRaised CT)) : FnOk P w K mg base CX0 9 f fd ["tally"] (spBy CT (-1)) := by
  have GC := ok_ctally (P := P) (w := w) (base := base) DC.F T W0
  refine F.ok scWGD (fun vs H Q E h => ?_) (fun cdv A outer s H vs Q E hr h => ?_)
  · obtain ⟨x, t, rfl, _⟩ := h
    rfl
  · obtain ⟨x, t, rfl, hx, hn, q⟩ := h
    refine ⟨_, (pss_cons (ps_expr (pe_call GC (hr.mono (by decide)) (by rfl) DC.m DC.F.kp DC.b .nil pass0 (pa_cons (pv 0) pa_nil)))
    (pss_one (ps_ret (pe_call GR (hr.mono (by decide)) (by rfl) DR.m DR.F.kp DR.b .nil pass0 (pa_cons (pv 0) (pa_cons (pe_un un_neg pe_int) pa_nil)))))), ?_⟩
    exact ⟨_, rfl, x, t, rfl, hx, _, rfl, 1, rfl, x, -1, t, rfl, hx, hn, q⟩
theorem ok_summed {f : Addr} {fd : FuncData} (F : Fun K "summed" "summed" sSummed f fd) (T : Txt K mg) (W0 : WT K mg CM CT) (DC : Df K mg "check_tally" sCTally ["value"] fC dC) (DR : Df K mg "raised" sRaised ["tally", "number"] fR dR) (GR : FnOk P w K mg base CX0 8 fR dR ["tally", "number"] (spRaised CT)) : FnOk P w K mg base CX0 9 f fd ["tally"] (spBy CT 1) := by
  have GC := ok_ctally (P := P) (w := w) (base := base) DC.F T W0
  refine F.ok scSMD (fun vs H Q E h => ?_) (fun cdv A outer s H vs Q E hr h => ?_)
  · obtain ⟨x, t, rfl, _⟩ := h
    rfl
  · obtain ⟨x, t, rfl, hx, hn, q⟩ := h
    refine ⟨_, (pss_cons (ps_expr (pe_call GC (hr.mono (by decide)) (by rfl) DC.m DC.F.kp DC.b .nil pass0 (pa_cons (pv 0) pa_nil)))
    (pss_one (ps_ret (pe_call GR (hr.mono (by decide)) (by rfl) DR.m DR.F.kp DR.b .nil pass0 (pa_cons (pv 0) (pa_cons pe_int pa_nil)))))), ?_⟩
    exact ⟨_, rfl, x, t, rfl, hx, _, rfl, x, 1, t, rfl, hx, hn, q⟩
end
end K16

set_option Elab.async false
set_option linter.all false
set_option maxRecDepth 100000
set_option maxHeartbeats 3200000
/-! comprehensions over a list of pairs -/
namespace Lc
open PySem L2 Tx Tg Tm RZ
/-- a list of pairs -/
structure PrsAt (H : Hp) (a : Addr) (ps : List Addr) (us : List (V × V)) : Prop where
  lst : H a = some (.lst (ps.map V.ref))
  prs : PySem.W.EachIs (fun p u => H p = some (.tup [u.1, u.2])) ps us
theorem PrsAt.same {H H' : Hp} {a : Addr} {ps : List Addr} {us : List (V × V)} (s : Same H H') (h : PrsAt H a ps us) : PrsAt H' a ps us := ⟨s _ _ h.lst, PySem.W.EachIs.mono (fun _ _ e => s _ _ e) h.prs⟩
theorem each_atP {α β : Type} {R : α → β → Prop} : ∀ {ps : List α} {as : List β}, PySem.W.EachIs R ps as → ∀ {i : Nat} {x : α} {y : β}, ps[i]? = some x → as[i]? = some y → R x y
  | _, _, .nil, i, _, _, h, _ => by simp at h
  | _, _, .cons r t, 0, _, _, h, k => by cases h; cases k; exact r
  | _, _, .cons r t, i + 1, _, _, h, k => each_atP t h k
section
variable {K : PySem.W.Frag} {te : TE} {σ : L2.St} {H1 : Hp} {D : Addr} {Qd : Hp → Prop} {j1 j2 : Nat} {a : Addr} {ps : List Addr} {us : List (V × V)}
theorem lcPR {α : Type} {R : Hp → Addr → α → Prop} (hR : ∀ H H' p x, KT H H' → R H p x → R H' p x) {ys : List α} (ha : PrsAt H1 a ps us) (nD : H1 D = none) (hl : us.length = ys.length) (hz : us.length < sizeLine) (hw : ∀ u v, wipe (((wipe σ [j1, j2]).set j1 (some u)).set j2 (some v)) [j1, j2] = wipe σ [j1, j2])
    (hs : ∀ (i : Nat) (u : V × V) (y : α) (H2 : Hp), us[i]? = some u → ys[i]? = some y → Same H1 H2 → ∀ Q : VK, (∀ b H3, Same H2 H3 → R H3 b y → Q (.ref b) H3) → te (((wipe σ [j1, j2]).set j1 (some u.1)).set j2 (some u.2)) H2 Q) (hd : ∀ H2 qs, Same H1 H2 → H2 D = some (.lst (qs.map V.ref)) → PySem.W.EachIs (R H2) qs ys → Qd H2) :
    ∃ W : Nat → Nat → Hp → Prop, (∃ m, W 0 m (upd H1 D (.lst []))) ∧ ∀ i m H, W i m H →
      ((Itl K a).stop i H ∧ Qd H) ∨ ((Itl K a).go i H ∧ ∃ Nx : Hp → Prop, (∀ H', Nx H' → ∃ m', m' < m ∧ W (i + 1) m' H') ∧ ∀ x H', (Itl K a).yld i H x H' → gTup K 2 (gCons (gName j1) (gCons (gName j2) gNil)) x (wipe σ [j1, j2]) H' fun σ2 H2 => wipe σ2 [j1, j2] = wipe σ [j1, j2] ∧ tYes σ2 H2 fun b H3 =>
        if b = true then te σ2 H3 fun y H4 => ∃ acc, H4 D = some (.lst acc) ∧ acc.length < sizeLine ∧ Nx (upd H4 D (.lst (acc ++ [y]))) else Nx H3) := by
  have lp := ha.prs.length
  refine lc_list (xs := ps.map V.ref) (fun i H2 => ∃ qs : List Addr, Same H1 H2 ∧ H2 D = some (.lst (qs.map V.ref)) ∧ PySem.W.EachIs (R H2) qs (ys.take i)) ⟨[], same_upd nD, upd_same, .nil⟩ (fun i H2 _ z => by obtain ⟨_, s, _⟩ := z; exact SqL.of (s _ _ ha.lst)) ?_ ?_
  · rintro i x H2 hx ⟨qs, s2, e2, r2⟩
    have hi := (List.getElem?_eq_some_iff.mp hx).1
    rw [List.length_map] at hi
    rw [List.getElem?_map, List.getElem?_eq_getElem hi] at hx
    cases hx
    have hu := List.getElem?_eq_getElem (l := us) (i := i) (by omega)
    have hy := List.getElem?_eq_getElem (l := ys) (i := i) (by omega)
    have ep := s2 _ _ (each_atP ha.prs (List.getElem?_eq_getElem hi) hu)
    refine ⟨ps[i], _, rfl, SqT.of ep, rfl, _, _, rfl, _, _, rfl, rfl, hw _ _, iteT (B := False) ?_⟩
    refine hs i _ _ H2 hu hy s2 _ fun b H3 s3 hb => ⟨_, s3 _ _ e2, ?_, qs ++ [b], same_put (s2.trans s3) nD, ?_, ?_⟩
    · rw [List.length_map, r2.length, List.length_take]
      exact Nat.lt_of_le_of_lt (Nat.min_le_left _ _) (by omega)
    · rw [upd_same, List.map_append]
      rfl
    · have k : KT H2 (upd H3 D (.lst (qs.map V.ref ++ [V.ref b]))) := fun q xs e => by
        rw [upd_ne (fun z => by rw [z, e2] at e; cases e)]
        exact s3 _ _ e
      have k3 : KT H3 (upd H3 D (.lst (qs.map V.ref ++ [V.ref b]))) := fun q xs e => by
        rw [upd_ne (fun z => by rw [z, s3 _ _ e2] at e; cases e)]
        exact e
      rw [List.take_add_one, hy]
      exact each_app (PySem.W.EachIs.mono (fun _ _ h => hR _ _ _ _ k h) r2) (.cons (hR _ _ _ _ k3 hb) .nil)
  · rintro H2 ⟨qs, s2, e2, r2⟩
    rw [List.take_of_length_le (by rw [List.length_map]; omega)] at r2
    exact hd H2 qs s2 e2 r2
theorem lcPS {ys : List V} (ha : PrsAt H1 a ps us) (nD : H1 D = none) (hl : us.length = ys.length) (hz : us.length < sizeLine) (hw : ∀ u v, wipe (((wipe σ [j1, j2]).set j1 (some u)).set j2 (some v)) [j1, j2] = wipe σ [j1, j2])
    (hs : ∀ (i : Nat) (u : V × V) (y : V) (H2 : Hp), us[i]? = some u → ys[i]? = some y → Same H1 H2 → ∀ Q : VK, (∀ H3, Same H2 H3 → Q y H3) → te (((wipe σ [j1, j2]).set j1 (some u.1)).set j2 (some u.2)) H2 Q) (hd : ∀ H2, Same H1 H2 → H2 D = some (.lst ys) → Qd H2) :
    ∃ W : Nat → Nat → Hp → Prop, (∃ m, W 0 m (upd H1 D (.lst []))) ∧ ∀ i m H, W i m H →
      ((Itl K a).stop i H ∧ Qd H) ∨ ((Itl K a).go i H ∧ ∃ Nx : Hp → Prop, (∀ H', Nx H' → ∃ m', m' < m ∧ W (i + 1) m' H') ∧ ∀ x H', (Itl K a).yld i H x H' → gTup K 2 (gCons (gName j1) (gCons (gName j2) gNil)) x (wipe σ [j1, j2]) H' fun σ2 H2 => wipe σ2 [j1, j2] = wipe σ [j1, j2] ∧ tYes σ2 H2 fun b H3 =>
        if b = true then te σ2 H3 fun y H4 => ∃ acc, H4 D = some (.lst acc) ∧ acc.length < sizeLine ∧ Nx (upd H4 D (.lst (acc ++ [y]))) else Nx H3) := by
  have lp := ha.prs.length
  refine lc_list (xs := ps.map V.ref) (fun i H2 => Same H1 H2 ∧ H2 D = some (.lst (ys.take i))) ⟨same_upd nD, upd_same⟩ (fun i H2 _ z => SqL.of (z.1 _ _ ha.lst)) ?_ ?_
  · rintro i x H2 hx ⟨s2, e2⟩
    have hi := (List.getElem?_eq_some_iff.mp hx).1
    rw [List.length_map] at hi
    rw [List.getElem?_map, List.getElem?_eq_getElem hi] at hx
    cases hx
    have hu := List.getElem?_eq_getElem (l := us) (i := i) (by omega)
    have hy := List.getElem?_eq_getElem (l := ys) (i := i) (by omega)
    have ep := s2 _ _ (each_atP ha.prs (List.getElem?_eq_getElem hi) hu)
    refine ⟨ps[i], _, rfl, SqT.of ep, rfl, _, _, rfl, _, _, rfl, rfl, hw _ _, iteT (B := False) ?_⟩
    refine hs i _ _ H2 hu hy s2 _ fun H3 s3 => ⟨_, s3 _ _ e2, ?_, same_put (s2.trans s3) nD, ?_⟩
    · rw [List.length_take]
      omega
    · rw [List.take_add_one, hy]
      exact upd_same
  · rintro H2 ⟨s2, e2⟩
    rw [List.take_of_length_le (by rw [List.length_map]; omega)] at e2
    exact hd H2 s2 e2
end
end Lc

set_option Elab.async false
set_option linter.all false
set_option maxRecDepth 100000
set_option maxHeartbeats 4000000
/-! enumerate(a text) -/
namespace Ur
open PySem PySem.Spec PyProof.Rows L2
/-- the text x, each sign in a new pair with its place -/
def IteS (x : Str) : It :=
  ⟨fun i _ => i < x.cps.size, fun i H v H' => ∃ T c, v = .ref T ∧ H T = none ∧ x.cps[i]? = some c ∧ H' = upd H T (.tup [.int (i : Nat), .str ⟨#[c]⟩]), fun i _ => x.cps.size = i⟩
theorem turn_enumS {P : Program} {w : World} {K : PySem.W.Frag} {elts : List Expr} {kk : Nat} {tpos : Pos} (x : Str) (t : Tok) (e it : Addr) :
    Turn P w K (.Tuple elts kk tpos) (IteS x) [e, it] e (fun i h => (∃ old, IsEnum h e it ((i : Nat) : Int) old) ∧ h.IsStrIter it (strIterType x) x t i ∧ e ≠ it) where
  mem := by simp
  obj := fun i h st b hb => by
    obtain ⟨⟨old, he⟩, ⟨o, ho, hc, hd⟩, _⟩ := st
    have e' : b = e ∨ b = it := by simpa using hb
    rcases e' with z | z
    · rw [z]; exact ⟨_, he, fun v q => nomatch q⟩
    · rw [z]; exact ⟨o, ho, fun v q => by rw [hd] at q; cases q⟩
  keep := fun i h h' st k => let ⟨⟨old, he⟩, ⟨o, ho, r⟩, hne⟩ := st; ⟨⟨old, k e (by simp) _ he⟩, ⟨o, k it (by simp) o ho, r⟩, hne⟩
  item := by
    intro X hP hw hK hc i pins s σ H E I hf st hg
    subst hP hw hK
    obtain ⟨⟨old, he⟩, hit, hne⟩ := st
    have hlt : i < x.cps.size := hg
    have hel : e < s.heap.objs.size := Heap.lt_size he
    have hil : it < s.heap.objs.size := by obtain ⟨_, q, _⟩ := hit; exact Heap.lt_size q
    refine wpAny_pyNext_enum_itemD (Draws.text (A := X.A.in1) (I.ok.hd hc) it x t) he hit hlt hne (by simp; exact hne) fun u' h' tk hu' ho hst hT hsz hk => ?_
    obtain ⟨c, tc, hcx, rfl⟩ := hu'
    refine ⟨_, rfl, wpAny_letOwnedTupleGo_enum (s := { s with heap := h', toks := tk + 1 }) ho fun h'' he' sb => ?_⟩
    have hT2 : h''.get? s.heap.objs.size = some { cls := .type "tuple", data := .seq #[.int i tk, .str ⟨#[c]⟩ tc] } := (sb.2 _ (Nat.ne_of_gt hel)).trans hT
    have new : ObjOk X.prog X.w (upd H s.heap.objs.size (.tup [.int (i : Nat), .str ⟨#[c]⟩])) h'' s.heap.objs.size (.tup [.int (i : Nat), .str ⟨#[c]⟩]) :=
      ⟨by show 2 ≤ sizeLine; decide, [.int i tk, .str ⟨#[c]⟩ tc], .cons ⟨_, rfl⟩ (.cons ⟨_, rfl⟩ .nil), ⟨_, hT2, rfl, _, rfl⟩⟩
    have I1 : Inv X pins σ (upd H s.heap.objs.size (.tup [.int (i : Nat), .str ⟨#[c]⟩])) { s with heap := h'', toks := tk + 1 } :=
      I.turnedNew (ch := [e, it]) (fun b ob hb q => (sb.2 b (fun z => hb (by simp [z]))).trans (hk b ob (fun z => hb (by simp [z])) (fun z => hb (by simp [z])) q)) hf (Nat.le_refl _) new
    refine ⟨.ref s.heap.objs.size, _, I1, rfl, ⟨_, c, rfl, I.hok.fresh (Nat.le_refl _), hcx, rfl⟩, ⟨⟨.str ⟨#[c]⟩ tc, ?_⟩, ?_, hne⟩, fun b hb => ?_⟩
    · have e1 : ((i + 1 : Nat) : Int) = (i : Int) + 1 := by omega
      rw [e1]; exact he'
    · obtain ⟨o, q, r⟩ := hst
      exact ⟨o, (sb.2 it (Ne.symm hne)).trans q, r⟩
    · have hb' : b < s.heap.objs.size := by
        have e' : b = e ∨ b = it := by simpa using hb
        rcases e' with z | z
        · rw [z]; exact hel
        · rw [z]; exact hil
      rw [upd_ne (Nat.ne_of_lt hb')]
      exact (hf b hb).1
  done := by
    intro X hP hw hK hc i pins s σ H E I hf st hg
    subst hP hw hK
    obtain ⟨⟨old, he⟩, hit, hne⟩ := st
    obtain ⟨f0, f1, f2, f3, f4, f5⟩ := hf it (by simp)
    have en : x.cps.size = i := hg
    exact wpAny_pyNext_enum_endD (Draws.text (A := X.A.in1) (I.ok.hd hc) it x t) he (by rw [en]; exact hit) fun h' eb => ⟨rfl, I.turned (t' := s.toks) (fun b o hb q => eb b o hb q) f0 f1 f3 f4 f5⟩
  self := fun A i s Q E st h => let ⟨⟨_, he⟩, _⟩ := st; wpAny_pyIter_enum he h
def iEnumS (ta : TA) : TI := fun σ H R => ta σ H fun vs H1 => ∃ x, vs = [.str x] ∧ R (IteS x) H1
theorem pi_enumS {X : Cx} {e : Expr} {ta : TA} {p pos tpos : Pos} {elts : List Expr} {kk : Nat} (hg : Gl X "enumerate") (hm : X.mg "enumerate" = none) (ha : PA X [e] ta) (hs : starEach [e] X.env = [(false, eval e X.env)] := by rfl) :
    PI X (.Tuple elts kk tpos) (.Call (.Name "enumerate" p) [e] [] pos) (iEnumS ta) := by
  refine ⟨fun pins s σ H R I h => ?_⟩
  refine Call_ (ld_blt I hg hm boot_enumerate (PyProof.Rows.callWith_type1 (thn (ha.run pos pins s σ H _ I h) fun us s1 ⟨vs, H1, I1, r1, q1⟩ => ?_) hs rfl))
  obtain ⟨x, ex, q⟩ := q1
  subst ex
  cases r1 with
  | cons r rr =>
    cases rr
    obtain ⟨t, rfl⟩ := r
    refine call_enumerate_str fun h' he hit hsz hk => wpAny_pyIter_enum he ?_
    have I2 : Inv X pins σ H1 { s1 with heap := h' } := I1.kept (t' := s1.toks) hk
    refine ⟨s1.heap.objs.size + 1, [s1.heap.objs.size + 1, s1.heap.objs.size], _, _, H1, rfl, I2, turn_enumS x t (s1.heap.objs.size + 1) s1.heap.objs.size, ⟨⟨.none, he⟩, hit, Nat.succ_ne_self _⟩, fun b hb => ?_, q⟩
    have e' : b = s1.heap.objs.size + 1 ∨ b = s1.heap.objs.size := by simpa using hb
    have hle : s1.heap.objs.size ≤ b := by
      rcases e' with z | z
      · rw [z]; exact Nat.le_add_right _ _
      · rw [z]; exact Nat.le_refl _
    exact I1.fpOk hle (I1.hok.fresh hle)
/-- for i, c in enumerate(text) -/
theorem for_enumS {x : Str} {g : TG} {tb : TS} {D : Ends} {σ : L2.St} {H : Hp} (Pv : Nat → L2.St → Hp → Prop) (h0 : Pv 0 σ H)
    (hs : ∀ i c T σ H, x.cps[i]? = some c → Pv i σ H → H T = none → g (.ref T) σ (upd H T (.tup [.int (i : Nat), .str ⟨#[c]⟩])) fun σ2 H2 => tb { D with nx := Pv (i + 1), ct := Pv (i + 1), bk := D.nx } σ2 H2) (hd : ∀ σ H, Pv x.cps.size σ H → D.nx σ H) :
    ∃ W : Nat → Nat → L2.St → Hp → Prop, (∃ m, W 0 m σ H) ∧ ∀ i m σ H, W i m σ H →
      ((IteS x).stop i H ∧ D.nx σ H) ∨ ((IteS x).go i H ∧ ∃ N : L2.St → Hp → Prop, (∀ σ' H', N σ' H' → ∃ m', m' < m ∧ W (i + 1) m' σ' H') ∧ ∀ v H', (IteS x).yld i H v H' → g v σ H' fun σ2 H2 => tb { D with nx := N, ct := N, bk := D.nx } σ2 H2) := by
  refine ⟨fun i m σ H => m = x.cps.size - i ∧ i ≤ x.cps.size ∧ Pv i σ H, ⟨x.cps.size, by simp, Nat.zero_le _, h0⟩, ?_⟩
  rintro i m σ H ⟨rfl, hi, p⟩
  by_cases hlt : i < x.cps.size
  · refine .inr ⟨hlt, Pv (i + 1), fun σ' H' p' => ⟨x.cps.size - (i + 1), by omega, rfl, hlt, p'⟩, fun v H' y => ?_⟩
    obtain ⟨T, c, rfl, nT, hc, rfl⟩ := y
    exact hs i c T σ H hc p nT
  · have e : i = x.cps.size := by omega
    subst e
    exact .inl ⟨rfl, hd σ H p⟩
end Ur

set_option Elab.async false
set_option linter.all false
set_option maxRecDepth 100000
set_option maxHeartbeats 3200000
/-! sets of a list of texts: set(xs), sorted of it -/
namespace Tx
open PySem PySem.Spec PyProof.Rows L2
/-- what has been met, each once -/
def metS : List Str → List Str → List Str
  | acc, [] => acc
  | acc, x :: r => metS (if x ∈ acc then acc else x :: acc) r
theorem metS_mem : ∀ (l acc : List Str) (y : Str), y ∈ metS acc l ↔ y ∈ acc ∨ y ∈ l
  | [], acc, y => by
    show y ∈ acc ↔ _
    simp
  | x :: r, acc, y => by
    show y ∈ metS (if x ∈ acc then acc else x :: acc) r ↔ _
    rw [metS_mem r]
    by_cases h : x ∈ acc
    · rw [if_pos h, List.mem_cons]
      constructor
      · rintro (a | a)
        · exact .inl a
        · exact .inr (.inr a)
      · rintro (a | rfl | a)
        · exact .inl a
        · exact .inl h
        · exact .inr a
    · rw [if_neg h, List.mem_cons, List.mem_cons]
      constructor
      · rintro ((a | a) | a)
        · exact .inr (.inl a)
        · exact .inl a
        · exact .inr (.inr a)
      · rintro (a | a | a)
        · exact .inl (.inr a)
        · exact .inl (.inl a)
        · exact .inr a
theorem metS_nodup : ∀ (l acc : List Str), acc.Nodup → (metS acc l).Nodup
  | [], _, h => h
  | x :: r, acc, h => by
    show (metS (if x ∈ acc then acc else x :: acc) r).Nodup
    refine metS_nodup r _ ?_
    by_cases z : x ∈ acc
    · rw [if_pos z]
      exact h
    · rw [if_neg z]
      exact List.nodup_cons.mpr ⟨z, h⟩
theorem metS_len : ∀ (l acc : List Str), (metS acc l).length ≤ acc.length + l.length
  | [], acc => Nat.le_refl _
  | x :: r, acc => by
    show (metS (if x ∈ acc then acc else x :: acc) r).length ≤ _
    refine Nat.le_trans (metS_len r _) ?_
    rw [List.length_cons]
    by_cases z : x ∈ acc
    · rw [if_pos z]
      omega
    · rw [if_neg z, List.length_cons]
      omega
theorem metS_mono : ∀ (l acc : List Str), acc.length ≤ (metS acc l).length
  | [], acc => Nat.le_refl _
  | x :: r, acc => by
    show _ ≤ (metS (if x ∈ acc then acc else x :: acc) r).length
    refine Nat.le_trans ?_ (metS_mono r _)
    by_cases z : x ∈ acc
    · rw [if_pos z]
      exact Nat.le_refl _
    · rw [if_neg z, List.length_cons]
      omega
section
variable {P : Program} {w : World} {A : Around} {R : Result → Shared → Prop} {I : Addr} {fp wr : List Addr} {St : Nat → Heap → Prop} {xs : List Str} {Pv : Nat → Value → Prop}
/-- the making: text by text into the set at S -/
theorem loopS (W : Walks P w A.in1 I fp wr xs.length Pv St) (hv : ∀ i v, Pv i v → ∃ y u, xs[i]? = some y ∧ v = Value.str y u) (S : Addr) (hS : S ∉ fp) (hfew : (metS [] xs).length + 1 < scanBound) :
    ∀ (r : List Str) (i : Nat) (acc : List Str) (s : Shared), xs.drop i = r → i ≤ xs.length → metS acc r = metS [] xs → St i s.heap → At w s.heap S acc →
      (∀ h' tk, (∀ b o, b ≠ S → b ∉ wr → s.heap.get? b = some o → h'.get? b = some o) → At w h' S (metS [] xs) → R (.ok (.ret .none)) { s with heap := h', toks := tk }) →
      codeAny (model P w) A (.builtin "set.update.loop" ⟨[.ref S, .ref I], []⟩) R s := by
  have hSw : S ∉ wr := fun z => hS (W.sub _ z)
  intro r
  induction r with
  | nil =>
    intro i acc s hr hi hm hst hat hR
    have hin : i = xs.length := by
      have := List.drop_eq_nil_iff.mp hr
      omega
    subst hin
    refine codeAny_builtin PyProof.Rows.F.entry_set_update_loop ?_
    rw [Around.under_plainId PyProof.Rows.F.plain_set_update_loop _]
    show wpAny _ A.in1 (pyNext (.ref I) >>= _) _ _ s
    refine wpAny_bind (W.done s _ _ hst fun h' tk k => ?_)
    show wpAny _ A.in1 (ret Value.none) _ _ _
    refine wpAny_pure (hR h' tk (fun b o _ hb e => k b o hb e) ?_)
    have e : acc = metS [] xs := hm
    rw [← e]
    exact hat.stays fun o e => k S o hSw e
  | cons c r ih =>
    intro i acc s hr hi hm hst hat hR
    have hlt : i < xs.length := by
      rcases Nat.lt_or_ge i xs.length with z | z
      · exact z
      · rw [List.drop_eq_nil_of_le z] at hr
        cases hr
    have hx : xs[i]? = some c := by
      have := congrArg (·[0]?) hr
      simp only [List.getElem?_drop, Nat.add_zero, List.getElem?_cons_zero] at this
      exact this
    have hr2 : xs.drop (i + 1) = r := by
      rw [← List.drop_drop, hr]
      rfl
    refine codeAny_builtin PyProof.Rows.F.entry_set_update_loop ?_
    rw [Around.under_plainId PyProof.Rows.F.plain_set_update_loop _]
    show wpAny _ A.in1 (pyNext (.ref I) >>= _) _ _ s
    refine wpAny_bind (W.item i s _ _ hlt hst fun v h1 tk1 hv1 hst1 k1 => ?_)
    obtain ⟨d, u, hd, rfl⟩ := hv i v hv1
    have ed : d = c := Option.some.inj (hd.symm.trans hx)
    subst ed
    have hat1 : At w h1 S acc := hat.stays fun o e => k1 S o hSw e
    show wpAny _ A.in1 (holding [Value.str d u] (setAdd S (.str d u)) >>= _) _ _ _
    refine wpAny_bind (wpAny_holding ?_)
    unfold setAdd
    refine wpAny_holding ?_
    refine wpAny_bind ((strKind P w).pyHash (k := d) (Froz.is_str _ _) ?_)
    have hlen : acc.length + 1 < scanBound := by
      have := metS_mono (d :: r) acc
      rw [hm] at this
      omega
    refine add_hashed (ys := acc) (s := { s with heap := h1, toks := tk1 + 1 }) hat1 hlen fun h2 sb hat2 => ?_
    have k2 : ∀ b o, b ≠ S → h1.get? b = some o → h2.get? b = some o := fun b o hb e => (sb.2 b hb).trans e
    refine wpAny_pure ⟨plainId_quiet PyProof.Rows.F.plain_set_update_loop _, ih (i + 1) _ _ hr2 hlt hm (W.frame _ _ _ hst1 fun b hb o e => k2 b o (fun z => hS (z ▸ hb)) e) hat2 fun h3 tk3 k3 hat3 => ?_⟩
    exact hR h3 tk3 (fun b o hb hw e => k3 b o hb hw (k2 b o hb (k1 b o hw e))) hat3
end
section
variable {P : Program} {w : World} {A : Around} {E : Value → Shared → Prop} {s : Shared}
theorem strs_at : ∀ {xs : List Str} {us : List Value}, Vals (xs.map V.str) us → ∀ (i : Nat) (v : Value), us[i]? = some v → ∃ y u, xs[i]? = some y ∧ v = Value.str y u
  | [], _, h, i, v, e => by
    cases h
    simp at e
  | x :: xs, us, h, i, v, e => by
    cases h with
    | cons a b =>
      cases i with
      | zero =>
        obtain ⟨t, ht⟩ := a
        have e2 := Option.some.inj e
        exact ⟨x, t, rfl, by rw [← e2]; exact ht⟩
      | succ i => exact strs_at b i v (by simpa using e)
theorem call_set_list {l : Addr} {us : List Value} {n : Nat} {xs : List Str} {Q : Value → Shared → Prop} (hh : A.handled = none) (hl : s.heap.get? l = some { cls := .type "list", data := .seq us.toArray n }) (hv : Vals (xs.map V.str) us) (hfew : (metS [] xs).length + 1 < scanBound)
    (h : ∀ (h' : Heap) (tk : Nat), At w h' s.heap.objs.size (metS [] xs) → (∀ b o, s.heap.get? b = some o → h'.get? b = some o) → Q (.ref s.heap.objs.size) { s with heap := h', toks := tk }) :
    wpAny (model P w) A (call (.type "set") [.ref l]) Q E s := by
  obtain ⟨c, tl, hmro⟩ := PySem.F.called_set.mro
  have hmade := PySem.F.called_set.made
  have hsub := PySem.F.called_set.sub
  refine wpAny_call (codeAny_of_tree ?_)
  show wpAny _ _ (callAny (.type "set") _) _ _ _
  refine wpAny_pure ⟨Code.quiet_builtin _ (by decide +kernel), codeAny_builtin PySem.F.entry_type_call ?_⟩
  rw [Around.under_plain (weight_type_call_type "set" [.ref l] []) rfl]
  have h1 := PySem.F.called_set.notType
  have h2 := PySem.F.called_set.canCreate
  have hct := PySem.F.typeCall_set_1 (.ref l)
  repeat (any_goals (first | assumption | wp_step))
  refine codeAny_mono (new_set (P := P) (w := w) (E := E) (.ref l) (R := fun obj z => ∃ led : Bool, (w.params.followText "set-order" = true ∨ led = true) ∧ obj = .ref s.heap.objs.size ∧ z = { s with heap := s.heap.push { cls := .type "set", dict := none, data := .set #[] 0 (.fresh 0 0 led) } }) ⟨_, ?_, rfl, rfl⟩) fun r z hr => ?_
  · cases w.params.followText "set-order"
    · exact .inr rfl
    · exact .inl rfl
  cases r with
  | error e => exact hr
  | ok fl =>
    cases fl with
    | ret obj =>
      obtain ⟨led, hled, rfl, rfl⟩ := hr
      have hS : (s.heap.push { cls := .type "set", dict := none, data := .set #[] 0 (.fresh 0 0 led) }).get? s.heap.objs.size = some { cls := .type "set", dict := none, data := .set #[] 0 (.fresh 0 0 led) } := Heap.get?_push_size _ rfl
      have hT : Shared.TypeIs { s with heap := s.heap.push { cls := .type "set", dict := none, data := .set #[] 0 (.fresh 0 0 led) } } (.ref s.heap.objs.size) "set" := ⟨_, hS, rfl⟩
      have hli := PySem.F.called_set.init.lookup
      have hbi := PySem.F.called_set.init.bind (.ref s.heap.objs.size)
      repeat (any_goals (first | assumption | wp_step))
      refine codeAny_mono (codeAny_call_builtin (R := wants (fun r z => r = .none ∧ ∃ h' tk, z = { s with heap := h', toks := tk } ∧ At w h' s.heap.objs.size (metS [] xs) ∧
          (∀ b o, s.heap.get? b = some o → h'.get? b = some o)) E) PySem.F.called_set.init.plain PySem.F.entry_set_init (check_set_init_1 hT ?_)) fun r₂ s₂ hr₂ => ?_
      · have hlP := Heap.get?_push_of_some { cls := .type "set", dict := none, data := .set #[] 0 (.fresh 0 0 led) } hl
        have hsls := PySem.F.sub_list_set
        have hslf := PySem.F.sub_list_frozenset
        have hne : (Value.type "list" == Value.type "dict") = false := by decide
        have hl1 : (s.heap.push { cls := .type "set", dict := none, data := .set #[] 0 (.fresh 0 0 led) }).IsList l us.toArray := ⟨_, hlP, rfl, n, rfl⟩
        unfold Builtin.«set.__init__» noKeywords Builtin.Frozenset.updateFrom
        generalize hPI : pyIter = PI
        wp_walk
        subst hPI
        refine wpAny_pyIter_list hl1 ?_
        refine wpAny_bind (wpAny_runValue ?_)
        have hlS : l < s.heap.objs.size := Heap.lt_size hl
        have hneI : l ≠ (s.heap.push { cls := .type "set", dict := none, data := .set #[] 0 (.fresh 0 0 led) }).objs.size := by
          rw [Heap.size_push]; exact Nat.ne_of_lt (Nat.lt_succ_of_lt hlS)
        have hSf : s.heap.objs.size ∉ [(s.heap.push { cls := .type "set", dict := none, data := .set #[] 0 (.fresh 0 0 led) }).objs.size, l] := by
          rw [Heap.size_push]; simp only [List.mem_cons, List.mem_singleton, List.not_mem_nil, or_false, not_or]
          exact ⟨Nat.ne_of_lt (Nat.lt_succ_self _), Nat.ne_of_gt hlS⟩
        have hz : us.toArray.size = xs.length := by
          have := hv.length
          rw [List.length_map] at this
          rw [List.size_toArray, ← this]
        have W0 := Walks.list (prog := P) (w := w) (A := A.in1.in1.in1) (by simp [hh]) _ l hneI us.toArray
        rw [hz] at W0
        refine loopS W0 (fun i v e => strs_at hv i v (by simpa using e)) s.heap.objs.size hSf hfew _ 0 [] _ (by rfl) (Nat.zero_le _) rfl ⟨⟨_, Heap.get?_push_size _ rfl, rfl, rfl⟩, hl1.push _⟩ ?_ ?_
        · exact (fresh_at w s.heap led hled).stays fun o e => Heap.get?_push_of_some _ e
        · intro h' tk k hat
          refine wpAny_pure ?_
          show wpAny _ _ (ret Value.none) _ _ _
          refine wpAny_pure ⟨rfl, h', tk, rfl, hat, fun b o e => ?_⟩
          have hb := Heap.lt_size e
          refine k b o (Nat.ne_of_lt hb) ?_ (Heap.get?_push_of_some _ (Heap.get?_push_of_some _ e))
          rw [Heap.size_push, List.mem_singleton]
          exact Nat.ne_of_lt (Nat.lt_succ_of_lt hb)
      · cases r₂ with
        | error e => exact hr₂
        | ok fl₂ =>
          cases fl₂ with
          | ret r =>
            obtain ⟨rfl, h', tk, rfl, hS', hk'⟩ := hr₂
            repeat (any_goals (first | assumption | wp_step))
            exact h _ _ hS' hk'
          | _ => exact hr₂.elim
    | _ => exact hr.elim
/-- sorted(a set of texts), as some order of them -/
theorem sorted_set {a : Addr} {ys : List Str} {Q : Value → Shared → Prop} (R : At w s.heap a ys) (hh : A.handled = none) (h64 : ys.length < 64)
    (hQ : ∀ z p (out : Array Value) (c : Nat) (ss : List Str), (∀ b o, s.heap.get? b = some o → z.heap.get? b = some o) → z.gens = s.gens → z.os = s.os → s.heap.objs.size ≤ p →
      z.heap.get? p = some (seqObj "list" out c) → StrsAre out.toList ss → ss.Perm ys → sortedS ss = true → Q (.ref p) z) :
    wpAny (model P w) A (call (.builtin "sorted") [.ref a]) Q E s := by
  obtain ⟨o, es, ep, t, ho, hx, hd, g, pm, hb, hf, hr, hl⟩ := R
  refine Calls.call_function_entry kind_sorted plain_sorted entry_sorted (args_sorted1 _) ?_
  unfold Builtin.«sorted»
  refine wpAny_bind (m := checkCount "sorted" 1 1 _) (wpAny_pure ?_)
  refine wpAny_bind (collect_set (A := A.in1) hh ⟨o, ho, hx.1, hd⟩ hf hb hr hl fun s1 vs k1 hz g1 o1 pv => ?_)
  obtain ⟨hS, ps⟩ := vals_strs (w := w) g pv
  have ps2 := ps.trans pm
  have hvl : vs.length < 64 := by
    have q := ps2.length_eq
    rw [List.length_map] at q
    rw [q]; exact h64
  refine wpAny_bind (wpAny_newList ?_ (by rw [sizeLine_eq]; omega))
  have hoL : (s1.heap.push (seqObj "list" vs.toArray 0)).get? s1.heap.objs.size = some (seqObj "list" vs.toArray 0) := Heap.get?_push_size _ rfl
  refine wpAny_bind (wpAny_holding (wpAny_call_entry slot_list_sort ⟨_, hoL, rfl⟩ entry_list_sort
    (list_sort_treeK strKind_oneLt hoL hS.keysOf (fun v₁ v₂ rest e => keyKind_strs (by rw [← e]; exact hS)) hvl fun st' hp hs => ⟨_, rfl, ?_⟩) (args_list_sort _)))
  obtain ⟨ss, b1, b2, b3⟩ := sorted_out_str hS hp hs
  obtain ⟨c, hc⟩ := sortedHeap_at (vs := vs) (out := (arrOf st').map (·.2)) hoL
  refine wpAny_pure ⟨_, rfl, hQ _ s1.heap.objs.size _ c ss (fun b u e => ?_) g1 o1 hz hc b1 (b2.trans ps2) b3⟩
  have q := k1 b u e
  have hlt := Heap.lt_size q
  show (sortedHeap (s1.heap.push (seqObj "list" vs.toArray 0)) s1.heap.objs.size vs _).get? b = some u
  rw [sortedHeap_old (Nat.ne_of_lt hlt) (by rw [size_push']; exact Nat.lt_succ_of_lt hlt)]
  exact Heap.get?_push_of_some _ q
end
/-- the set of texts at a -/
def SS (w : World) (a : Addr) (ys : List Str) : HO := .ext fun h => At w h a ys
section
variable {X : Cx}
theorem ss_new {w : World} {P : Program} {H : Hp} {h : Heap} {a : Addr} {ys : List Str} (R : At w h a ys) : ObjOk P w H h a (SS w a ys) :=
  ⟨R, let ⟨o, _, _, _, ho, _⟩ := R; ⟨o, ho⟩, fun _ _ p k => At.stays p k⟩
/-- set(xs), xs a list of texts -/
def rSetLs (w : World) : List V → Hp → VK → Prop := fun vs H Q => ∃ (l : Addr) (xs : List Str), vs = [.ref l] ∧ H l = some (.lst (xs.map V.str)) ∧ (metS [] xs).length < 64 ∧ ∀ p, H p = none → Q (.ref p) (upd H p (SS w p (metS [] xs)))
theorem cr_setLs (hc : X.calm = true) : CallR X (.type "set") (rSetLs X.w) := by
  intro pins s σ H vs us Q I r h
  obtain ⟨l, xs, rfl, hl, hf, q⟩ := h
  rw [Vals.ref1 r]
  obtain ⟨_, ws, n, rv, g⟩ := I.hok l _ hl
  have hb : (metS [] xs).length + 1 < scanBound := by
    have : (64 : Nat) + 1 < scanBound := by decide
    omega
  refine call_set_list (P := X.prog) (w := X.w) (I.ok.hd hc) g rv hb fun h' tk R k => ?_
  exact ⟨.ref _, upd H s.heap.objs.size (SS X.w s.heap.objs.size (metS [] xs)), I.laid (t' := tk) k (Nat.le_refl _) (ss_new R), rfl, q _ (I.hok.fresh (Nat.le_refl _))⟩
/-- sorted(a set of texts) -/
def rSortSS (w : World) : List V → Hp → VK → Prop := fun vs H Q => ∃ (a : Addr) (ys : List Str), vs = [.ref a] ∧ H a = some (SS w a ys) ∧ ys.length < 64 ∧ ∀ p ss, H p = none → ss.Perm ys → sortedS ss = true → Q (.ref p) (upd H p (.lst (ss.map V.str)))
theorem cr_sortSS (hc : X.calm = true) : CallR X (.builtin "sorted") (rSortSS X.w) := by
  intro pins s σ H vs us Q I r h
  obtain ⟨a, ys, rfl, ha, h64, q⟩ := h
  have R : At X.w s.heap a ys := (I.hok a _ ha).1
  rw [Vals.ref1 r]
  refine sorted_set (P := X.prog) R (I.ok.hd hc) h64 fun z p out c ss k g o hp hg hS pm hs => ?_
  have hlen : (ss.map V.str).length ≤ sizeLine := by
    rw [List.length_map, pm.length_eq, sizeLine_eq]
    omega
  have hn : H p = none := I.hok.fresh hp
  have hv : Vals (ss.map V.str) out.toList := vals_of_strs hS
  have J : Inv X pins σ (upd H p (.lst (ss.map V.str))) { s with heap := z.heap, gens := z.gens, drawn := z.drawn, toks := z.toks } :=
    I.call (ch := []) (Un.laid k hp hn) (I.hok.laid k hp ⟨hlen, out.toList, c, hv, hg⟩) (by rw [g]; exact I.bare) (fun _ y => nomatch y)
  have e : z = { s with heap := z.heap, gens := z.gens, drawn := z.drawn, toks := z.toks } := by
    cases z
    cases s
    cases o
    rfl
  rw [e]
  exact ⟨.ref p, _, J, rfl, q p ss hn pm hs⟩
end
end Tx

set_option Elab.async false
set_option linter.all false
set_option maxRecDepth 100000
set_option maxHeartbeats 3200000
/-! lambdas with one parameter as values: made, handed on, called -/
namespace Lp
open PySem PySem.Spec PyProof.Rows L2 LamX
/-! ### pinned objects -/
/-- an object that stays just as it is -/
abbrev PinO (o : Obj) : HO := .frz o (.ext fun _ => True)
abbrev Pins := List (Addr × Obj)
def pin (L : Pins) (H : Hp) : Hp := fun b => match L.lookup b with
  | some o => some (PinO o)
  | none => H b
def unp (L : Pins) (H : Hp) : Hp := fun b => match L.lookup b with
  | some _ => none
  | none => H b
def Pinned (L : Pins) (H : Hp) : Prop := ∀ b o, L.lookup b = some o → H b = some (PinO o)
def Clear (L : Pins) (H : Hp) : Prop := ∀ b o, L.lookup b = some o → H b = none
section
variable {L : Pins} {H H' : Hp} {b : Addr} {o : Obj} {u : HO}
theorem pin_at (h : L.lookup b = some o) : pin L H b = some (PinO o) := by unfold pin; rw [h]
theorem pin_off (h : L.lookup b = none) : pin L H b = H b := by unfold pin; rw [h]
theorem unp_at (h : L.lookup b = some o) : unp L H b = none := by unfold unp; rw [h]
theorem unp_off (h : L.lookup b = none) : unp L H b = H b := by unfold unp; rw [h]
theorem pinned_pin : Pinned L (pin L H) := fun b o h => pin_at h
theorem clear_unp : Clear L (unp L H) := fun b o h => unp_at h
theorem pin_unp (h : Pinned L H) : pin L (unp L H) = H := funext fun b => by
  cases q : L.lookup b with
  | some o => rw [pin_at q, h b o q]
  | none => rw [pin_off q, unp_off q]
theorem unp_pin (h : Clear L H) : unp L (pin L H) = H := funext fun b => by
  cases q : L.lookup b with
  | some o => rw [unp_at q, h b o q]
  | none => rw [unp_off q, pin_off q]
theorem off_c (h : Clear L H) (e : H b = some u) : L.lookup b = none := by
  cases q : L.lookup b with
  | none => rfl
  | some o =>
    rw [h b o q] at e
    cases e
theorem off_p (h : Pinned L H) (e : H b = some u) (n : ∀ o, u ≠ PinO o) : L.lookup b = none := by
  cases q : L.lookup b with
  | none => rfl
  | some o =>
    rw [h b o q] at e
    exact absurd (Option.some.inj e).symm (n o)
theorem pin_some (h : Clear L H) (e : H b = some u) : pin L H b = some u := by rw [pin_off (off_c h e), e]
theorem unp_some (h : Pinned L H) (e : H b = some u) (n : ∀ o, u ≠ PinO o) : unp L H b = some u := by rw [unp_off (off_p h e n), e]
theorem Pinned.same (s : ∀ b o, H b = some o → H' b = some o) (h : Pinned L H) : Pinned L H' := fun b o q => s _ _ (h b o q)
/-- what stays, seen without the pins -/
theorem same_unp (hc : Clear L H) (s : ∀ b o, pin L H b = some o → H' b = some o) : ∀ b o, H b = some o → unp L H' b = some o := fun b o e => by
  have q := off_c hc e
  rw [unp_off q]
  exact s b o (by rw [pin_off q, e])
end
section
variable {P : Program} {w : World} {K : PySem.W.Frag} {mg : Str → Option Value} {base : Heap} {A : Around} {outer : List Env} {s s' : Shared} {L : Pins} {H : Hp} {h : Heap}
theorem hok_pin (ok : HOk P w H h) (hc : Clear L H) (he : ∀ b o, L.lookup b = some o → h.get? b = some o) : HOk P w (pin L H) h := fun a u e => by
  cases q : L.lookup a with
  | some o =>
    rw [pin_at q] at e
    cases e
    exact ⟨he a o q, trivial, ⟨o, he a o q⟩, fun _ _ _ _ => trivial⟩
  | none =>
    rw [pin_off q] at e
    exact (ok a u e).stay (fun _ _ _ z => z) (fun b z => pin_some hc z) fun b xs z => pin_some hc z
theorem hok_unp (ok : HOk P w H h) (hp : Pinned L H) : HOk P w (unp L H) h := fun a u e => by
  cases q : L.lookup a with
  | some o =>
    rw [unp_at q] at e
    cases e
  | none =>
    rw [unp_off q] at e
    exact (ok a u e).stay (fun _ _ _ z => z) (fun b z => unp_some hp z fun o y => by cases y) fun b xs z => unp_some hp z fun o y => by cases y
theorem pinned_get (ok : HOk P w H h) (hp : Pinned L H) : ∀ b o, L.lookup b = some o → h.get? b = some o := fun b o q => (ok b _ (hp b o q)).1
theorem env_pin (e : Env0 P w K mg base A outer s H) (hc : Clear L H) (he : ∀ b o, L.lookup b = some o → s.heap.get? b = some o) (hf : ∀ b o, L.lookup b = some o → b ∉ frs outer) (hb : ∀ b o, L.lookup b = some o → base.get? b = none) : Env0 P w K mg base A outer s (pin L H) where
  frames := e.frames
  mod := e.mod
  bs := fun b o q => by
    refine ⟨(e.bs b o q).1, ?_⟩
    cases z : L.lookup b with
    | none => rw [pin_off z, (e.bs b o q).2]
    | some o' =>
      rw [hb b o' z] at q
      cases q
  bsz := e.bsz
  funs := e.funs
  frf := fun b q => by
    cases z : L.lookup b with
    | none => rw [pin_off z, e.frf b q]
    | some o' => exact absurd q (hf b o' z)
  hok := hok_pin e.hok hc he
  bare := e.bare
theorem env_unp (e : Env0 P w K mg base A outer s H) (hp : Pinned L H) : Env0 P w K mg base A outer s (unp L H) where
  frames := e.frames
  mod := e.mod
  bs := fun b o q => by
    refine ⟨(e.bs b o q).1, ?_⟩
    cases z : L.lookup b with
    | none => rw [unp_off z, (e.bs b o q).2]
    | some o' => exact unp_at z
  bsz := e.bsz
  funs := e.funs
  frf := fun b q => by
    cases z : L.lookup b with
    | none => rw [unp_off z, e.frf b q]
    | some o' => exact unp_at z
  hok := hok_unp e.hok hp
  bare := e.bare
/-- a call's end, the pins taken off -/
theorem ce_out {Q : VK} {u : Value} (hc : Clear L H) (he : ∀ b o, L.lookup b = some o → s.heap.get? b = some o) (h : CE outer P w (pin L H) s (fun v H2 => Q v (unp L H2)) u s') : CE outer P w H s Q u s' := by
  obtain ⟨v, H2, os, bare, un, ok, rv, q⟩ := h
  have hp : Pinned L H2 := fun b o z => un.frzs b o _ (pin_at z)
  have hg := pinned_get ok hp
  refine ⟨v, unp L H2, os, bare, ⟨fun b o e n hf hx => ?_, fun b o e n hf hx => ?_, fun b o e n hx => ?_, un.there, fun b xs e => ?_, fun b o u e => ?_, fun b ps e => ?_⟩, hok_unp ok hp, rv, q⟩
  · cases z : L.lookup b with
    | some o' =>
      rw [he b o' z] at e
      cases e
      exact hg b _ z
    | none => exact un.keep b o e (by rw [pin_off z]; exact n) hf hx
  · cases z : L.lookup b with
    | some o' =>
      rw [he b o' z] at e
      cases e
      exact ⟨o.slots, hg b _ z⟩
    | none => exact un.slot b o e (by rw [pin_off z]; exact n) hf hx
  · cases z : L.lookup b with
    | some o' => exact unp_at z
    | none => rw [unp_off z]; exact un.free b o e (by rw [pin_off z]; exact n) hx
  · have z := off_c hc e
    rw [unp_off z]
    exact un.tups b xs (by rw [pin_off z]; exact e)
  · have z := off_c hc e
    rw [unp_off z]
    exact un.frzs b o u (by rw [pin_off z]; exact e)
  · have z := off_c hc e
    obtain ⟨more, y⟩ := un.tbls b ps (by rw [pin_off z]; exact e)
    exact ⟨more, by rw [unp_off z]; exact y⟩
/-- a call's end, the pins put on again -/
theorem ce_in {Q : VK} {u : Value} (hp : Pinned L H) (ok0 : HOk P w H s.heap) (hf : ∀ b o, L.lookup b = some o → b ∉ frs outer) (h : CE outer P w (unp L H) s (fun v H2 => Q v (pin L H2)) u s') : CE outer P w H s Q u s' := by
  obtain ⟨v, H2, os, bare, un, ok, rv, q⟩ := h
  have hg0 := pinned_get ok0 hp
  have hc : Clear L H2 := fun b o z => un.free b o (hg0 b o z) (unp_at z) (by simp)
  have hg : ∀ b o, L.lookup b = some o → s'.heap.get? b = some o := fun b o z => un.keep b o (hg0 b o z) (unp_at z) (hf b o z) (by simp)
  refine ⟨v, pin L H2, os, bare, ⟨fun b o e n hf hx => ?_, fun b o e n hf hx => ?_, fun b o e n hx => ?_, un.there, fun b xs e => ?_, fun b o u e => ?_, fun b ps e => ?_⟩, hok_pin ok hc hg, rv, q⟩
  · have z : L.lookup b = none := by
      cases z : L.lookup b with
      | none => rfl
      | some o' => rw [hp b o' z] at n; cases n
    exact un.keep b o e (by rw [unp_off z]; exact n) hf hx
  · have z : L.lookup b = none := by
      cases z : L.lookup b with
      | none => rfl
      | some o' => rw [hp b o' z] at n; cases n
    exact un.slot b o e (by rw [unp_off z]; exact n) hf hx
  · have z : L.lookup b = none := by
      cases z : L.lookup b with
      | none => rfl
      | some o' => rw [hp b o' z] at n; cases n
    rw [pin_off z]
    exact un.free b o e (by rw [unp_off z]; exact n) hx
  · have z := off_p hp e fun o y => by cases y
    rw [pin_off z]
    exact un.tups b xs (by rw [unp_off z]; exact e)
  · cases z : L.lookup b with
    | some o' =>
      rw [hp b o' z] at e
      rw [pin_at z, ← e]
    | none =>
      rw [pin_off z]
      exact un.frzs b o u (by rw [unp_off z]; exact e)
  · have z := off_p hp e fun o y => by cases y
    obtain ⟨more, y⟩ := un.tbls b ps (by rw [unp_off z]; exact e)
    exact ⟨more, by rw [pin_off z]; exact y⟩
end
/-! ### a lambda that can be called -/
/-- f, a lambda whose objects are pinned, keeps the promise -/
structure LamOk (P : Program) (w : World) (K : PySem.W.Frag) (mg : Str → Option Value) (base : Heap) (k : Nat) (f : Addr) (L : Pins) (c' : Addr) (q : Str) (sp : Sp) : Prop where
  fn : ∃ fo, L.lookup f = some fo ∧ ∀ h : Heap, h.get? f = some fo → PySem.W.FnAt f h
  run : ∀ (A : Around) (outer : List Env) (s : Shared) (H : Hp) (us : List Value) (vs : List V) (Q : VK), Room k A → Env0 P w K mg base A outer s H → Pinned L H → H c' = some (CodeO c' q) → Vals vs us → sp vs (unp L H) (fun v H' => Q v (pin L H')) E0 →
    codeAny (model P w) A (.call (.ref f) ⟨us, []⟩) (CR CX0 outer P w H s Q E0) s
/-- ready: the pins, and the code object -/
structure LamRdy (L : Pins) (c' : Addr) (q : Str) (H : Hp) : Prop where
  pn : Pinned L H
  co : H c' = some (CodeO c' q)
theorem LamRdy.same {L : Pins} {c' : Addr} {q : Str} {H H' : Hp} (s : ∀ b o, H b = some o → H' b = some o) (h : LamRdy L c' q H) : LamRdy L c' q H' := ⟨h.pn.same s, s _ _ h.co⟩
def tLamCall (i : Nat) (f : Addr) (L : Pins) (c' : Addr) (q : Str) (sp : Sp) (t : TA) : TE := fun σ H Q => σ[i]? = some (some (.ref f)) ∧ LamRdy L c' q H ∧ t σ H fun vs H1 => LamRdy L c' q H1 ∧ sp vs (unp L H1) (fun v H' => Q v (pin L H')) E0
section
variable {X : Cx} {k i : Nat} {f c' : Addr} {L : Pins} {q : Str} {sp : Sp} {x : Str} {p pos : Pos} {e : Expr} {es : List Expr} {t : TA}
/-- a(e, ..), a a local that holds a lambda -/
theorem pe_lamc (F : LamOk X.prog X.w X.K X.mg X.base k f L c' q sp) (hr : Room k X.A) (hN : X.N[i]? = some x) (hv : Vis X.env.scope x) (ha : PA X (e :: es) t)
    (hd : (x == ("__debug__" : Str)) = false := by decide) (hcd : (x == ("__classdict__" : Str)) = false := by decide)
    (he : starEach (e :: es) X.env = (false, eval e X.env) :: starEach es X.env := by rfl) (hpl : (backTo pos (starEach es X.env)).any (·.1) = false := by rfl) :
    PE X (.Call (.Name x p) (e :: es) [] pos) (tLamCall i f L c' q sp t) := by
  refine ⟨fun pins s σ H Q I h => ?_⟩
  obtain ⟨hs, hR, ht⟩ := h
  obtain ⟨fo, hfo, at_⟩ := F.fn
  refine wpAny_Call_Name_kw (thn ((pe_var (pos := p) (i := i) hN hv hd hcd).run pins s σ H (fun v H1 => v = .ref f ∧ H1 = H) I ⟨.ref f, hs, rfl, rfl⟩) fun u s1 ⟨v, H1, I1, r1, q1⟩ => ?_)
  obtain ⟨ev, eH⟩ := q1
  subst ev
  subst eH
  obtain rfl : u = Value.ref f := r1
  refine PySem.W.callWith_F (at_ _ (pinned_get I1.hok hR.pn f fo hfo)) (thn (ha.run pos pins s1 σ H1 _ I1 ht) fun us s2 ⟨vs, H2, I2, r2, hR2, q2⟩ => ⟨at_ _ (pinned_get I2.hok hR2.pn f fo hfo), ?_⟩) he hpl
  refine wpAny_call (codeAny_mono (F.run X.A X.stack s2 H2 us vs Q hr I2.env0 hR2.pn hR2.co r2 q2) fun r s' hq => ?_)
  cases r with
  | error e => exact (show False from hq).elim
  | ok fl =>
    cases fl with
    | ret u => exact I2.after hq
    | next => exact False.elim hq
    | brk => exact False.elim hq
    | cont => exact False.elim hq
end
/-! ### the lambda's frame -/
/-- one parameter a; all other names captured or global -/
structure LamS1 (sc scope : Scope) (a : Str) : Prop where
  kind : scope.kind = .function
  co : scope.isCoroutine = false
  gen : scope.isGenerator = false
  par : scope.names.lookup a = some .local
  own : ∀ y ∈ scope.names, y.2 ≠ .cell ∧ (y.2 = .local → y.1 = a)
  free : ∀ y ∈ scope.names, y.2 = .free → sc.names.lookup y.1 = some .cell ∨ sc.names.lookup y.1 = some .free
def lamSB1 (sc scope : Scope) (a : Str) : Bool :=
  decide (scope.kind = .function) && (!scope.isCoroutine && (!scope.isGenerator && (decide (scope.names.lookup a = some .local) && scope.names.all fun y => !decide (y.2 = .cell) && ((!decide (y.2 = .local) || decide (y.1 = a)) && (!decide (y.2 = .free) || (decide (sc.names.lookup y.1 = some .cell) || decide (sc.names.lookup y.1 = some .free)))))))
theorem lamS1_by {sc scope : Scope} {a : Str} (h : lamSB1 sc scope a = true) : LamS1 sc scope a := by
  unfold lamSB1 at h
  simp only [Bool.and_eq_true, Bool.or_eq_true, Bool.not_eq_true', decide_eq_true_eq, decide_eq_false_iff_not, List.all_eq_true] at h
  obtain ⟨h1, h2, h3, h4, h5⟩ := h
  exact ⟨h1, h2, h3, h4, fun y hy => ⟨(h5 y hy).1, fun e => (h5 y hy).2.1.resolve_left fun n => n e⟩, fun y hy e => (h5 y hy).2.2.resolve_left fun n => n e⟩
/-- a captured name's cell is the maker's -/
theorem clo_cell {cells : List (Str × Addr)} {names : List (Str × NameKind)} (hfree : ∀ y ∈ names, y.2 = .free → ∃ c, cells.lookup y.1 = some c) {y : Str} {c : Addr} (e : (cloFrom cells names []).lookup y = some c) : cells.lookup y = some c ∧ (y, NameKind.free) ∈ names := by
  rcases cloFrom_mem (PySem.mem_of_lookup e) with z | ⟨h1, h2⟩
  · cases z
  · obtain ⟨c1, hc⟩ := hfree _ h1 rfl
    have hc : cells.lookup y = some c1 := hc
    refine ⟨?_, h1⟩
    rw [h2, hc]
    rfl
section
variable {X : Cx} {pins : List (Addr × Obj)} {σ : L2.St} {H Hc : Hp} {s s1 : Shared} {A : Around} {outer : List Env} {E : XK} {scope : Scope} {a : Str} {f c' : Addr} {L : Pins}
theorem LamS1.has (S : LamS1 X.env.scope scope a) (ok : X.Ok) : ∀ y ∈ scope.names, y.2 = .free → ∃ c, X.env.cells.lookup y.1 = some c := fun y hy e => by
  rcases S.free y hy e with z | z
  · exact ok.has _ (.inl z)
  · exact ok.has _ (.inr z)
theorem lam_inv {j : Nat} {v0 : V} {u0 : Value} {h1 : Heap} {tk : Nat} (I : Inv X pins σ H s) (S : LamS1 X.env.scope scope a) (hL : ∀ b o, L.lookup b = some o → s.heap.get? b = some o) (hcell : ∀ y c, X.env.cells.lookup y = some c → ∃ o, L.lookup c = some o)
    (nd : X.N.Nodup) (hj : X.N[j]? = some a) (rv : RelV v0 u0) (e0 : Env0 X.prog X.w X.K X.mg X.base A outer s1 Hc) (hp : Pinned L Hc) (hd : A.handled = none) (hns : h1.Ns s1.heap.objs.size fun y => [(a, u0)].reverse.lookup y) (kp : ∀ b o, s1.heap.get? b = some o → h1.get? b = some o) :
    Inv (lamCx X A outer s1 (unp L Hc) E scope f c') [] (σ.set j (some v0)) (unp L Hc) { s1 with heap := h1, toks := tk } := by
  have hfree := S.has I.ok
  have eU := env_unp e0 hp
  have hg1 := pinned_get e0.hok hp
  have cm := @clo_cell X.env.cells scope.names hfree
  have nc : ∀ y c, (lamEnv X scope s1.heap.objs.size f c').cells.lookup y = some c → ∃ o, L.lookup c = some o ∧ s.heap.get? c = some o ∧ h1.get? c = some o := fun y c e => by
    obtain ⟨o, ho⟩ := hcell y c (cm e).1
    exact ⟨o, ho, hL c o ho, kp _ _ (hg1 c o ho)⟩
  have noA : ∀ b : Addr, b ∈ (lamCx X A outer s1 (unp L Hc) E scope f c').ex → False := fun b z => nomatch (show b ∈ ([] : List Addr) from z)
  refine { ok := { mod := e0.mod, kind := S.kind, glob := rfl, blt := rfl, above := Nat.le_refl _, inj := fun y z c e1 e2 => I.ok.inj y z c (cm e1).1 (cm e2).1, has := fun y hy => ?_, cab := fun y c z _ => (nomatch (show false = true from z)), hd := fun _ => hd, frames := Around.frames_deeper e0.frames,
                   stk := .inr ⟨rfl, rfl⟩, exf := fun b z => (noA b z).elim, bs := eU.bs, bsz := eU.bsz, noex := fun b _ _ z => noA b z, exfs := fun b z => (noA b z).elim, funs := eU.funs, frf := eU.frf }
           os := rfl, bare := eU.bare, base := Un.kept kp, loc := ⟨_, hns, fun i y v e1 e2 e3 => ?_⟩, cell := fun y c e => ?_, free := eU.hok.fresh (Nat.le_refl _), freeC := fun y c e => ?_, pin := fun q hq => (nomatch (show q ∈ ([] : List (Addr × Obj)) ++ [] from hq)), hok := eU.hok.kept kp, len := ?_ }
  · have hy : scope.names.lookup y = some .cell ∨ scope.names.lookup y = some .free := hy
    rcases hy with hy | hy
    · exact absurd rfl (S.own _ (PySem.mem_of_lookup hy)).1
    · exact mem_lookup (cloFrom_has (cells := X.env.cells) (acc := []) (PySem.mem_of_lookup hy))
  · have e1 : X.N[i]? = some y := e1
    have e3 : Vis scope y := e3
    have hi := (List.getElem?_eq_some_iff.mp e1).1
    have hj' := (List.getElem?_eq_some_iff.mp hj).1
    by_cases ya : y = a
    · subst ya
      have hij : i = j := (List.getElem?_inj hi nd).mp (e1.trans hj.symm)
      subst hij
      rw [List.getElem?_set_self (by rw [I.len]; exact hi)] at e2
      cases e2
      refine ⟨u0, rv, .inl ⟨S.par, ?_⟩⟩
      show List.lookup y [(y, u0)] = some u0
      rw [List.lookup_cons, beq_self_eq_true]
    · have hk : scope.names.lookup y = some .free := by
        rcases e3 with z | z | z
        · exact absurd ((S.own _ (PySem.mem_of_lookup z)).2 rfl) ya
        · exact absurd rfl (S.own _ (PySem.mem_of_lookup z)).1
        · exact z
      have hij : j ≠ i := fun z => ya (Option.some.inj (e1.symm.trans (by rw [← z]; exact hj)))
      rw [List.getElem?_set_ne hij] at e2
      obtain ⟨m, hn, hl⟩ := I.loc
      have hvis : Vis X.env.scope y := (S.free _ (PySem.mem_of_lookup hk) rfl).elim (fun z => .inr (.inl z)) fun z => .inr (.inr z)
      obtain ⟨u, r, lk⟩ := hl i y v e1 e2 hvis
      obtain ⟨c2, h2⟩ := mem_lookup (cloFrom_has (cells := X.env.cells) (acc := []) (PySem.mem_of_lookup hk))
      obtain ⟨o, _, ho1, ho2⟩ := nc y c2 h2
      refine ⟨u, r, .inr ⟨.inr hk, c2, h2, ?_⟩⟩
      rcases lk with ⟨kl, _⟩ | ⟨_, c3, e', z⟩
      · have kl : X.env.scope.names.lookup y = some .local := kl
        rcases S.free _ (PySem.mem_of_lookup hk) rfl with k2 | k2 <;> rw [show X.env.scope.names.lookup y = _ from k2] at kl <;> cases kl
      · rw [(cm h2).1] at e'
        cases e'
        obtain ⟨o2, q1, q2⟩ := z
        rw [ho1] at q1
        cases q1
        exact ⟨o, ho2, q2⟩
  · obtain ⟨o, _, ho1, ho2⟩ := nc y c e
    obtain ⟨v, o2, q1, q2⟩ := I.cell y c (cm e).1
    rw [ho1] at q1
    cases q1
    exact ⟨v, o, ho2, q2⟩
  · obtain ⟨o, ho, _⟩ := nc y c e
    exact unp_at ho
  · rw [List.length_set]
    exact I.len
/-- what a lambda is, by its text and the maker's cells -/
def IsLam (X : Cx) (params : Arguments) (body : Expr) (scope : Scope) (c' : Addr) (fo : Obj) : Prop :=
  ∃ pm ctv : Value, fo = PySem.W.kla_obj "<lambda>" (X.env.qual ++ "<lambda>") params body scope (cloFrom X.env.cells scope.names []) pm c' ctv
/-- the maker's cells and the lambda, pinned -/
structure CellsAt (X : Cx) (σ : L2.St) (f : Addr) (fo : Obj) (L : Pins) : Prop where
  lam : L.lookup f = some fo
  st : ∃ (pins : List (Addr × Obj)) (H : Hp) (s : Shared), Inv X pins σ H s ∧ ∀ b o, L.lookup b = some o → s.heap.get? b = some o
  cell : ∀ y c, X.env.cells.lookup y = some c → ∃ o, L.lookup c = some o
theorem lam_ok {j k : Nat} {fo : Obj} {params : Arguments} {body : Expr} {tb : TE} (C : CellsAt X σ f fo L) (hl : IsLam X params body scope c' fo) (S : LamS1 X.env.scope scope a) (nd : X.N.Nodup) (hj : X.N[j]? = some a)
    (hbind : ∀ (q : Str) (cl : List (Str × Addr)) (pm cv ctv u : Value), bindArgs (PySem.W.kla_fn "<lambda>" q params body scope cl pm cv ctv) ⟨[u], []⟩ = pure [(a, u)])
    (hbody : ∀ (A : Around) (outer : List Env) (s : Shared) (H : Hp), Room k (A.deeper (lamEnv X scope s.heap.objs.size f c')) → PE (lamCx X A outer s H E0 scope f c') body tb) :
    LamOk X.prog X.w X.K X.mg X.base (k + 1) f L c' (X.env.qual ++ "<lambda>") (fun vs H Q _ => ∃ v, vs = [v] ∧ tb (σ.set j (some v)) H Q) := by
  obtain ⟨hfo, ⟨pins, H, s, I, hL⟩, hcell⟩ := C
  obtain ⟨pm, ctv, rfl⟩ := hl
  refine ⟨⟨_, hfo, fun h e => ⟨_, _, _, _, e⟩⟩, fun A outer s1 Hc us vs Q hr e0 hp hco rv hsp => ?_⟩
  obtain ⟨v, rfl, ht⟩ := hsp
  obtain ⟨u, rfl, r1⟩ : ∃ u, us = [u] ∧ RelV v u := by
    cases rv with
    | cons a b => cases b; exact ⟨_, rfl, a⟩
  obtain ⟨⟨oc, ds, t, hoc, hdc, hvc⟩, _, _⟩ := e0.hok c' _ hco
  have hof := pinned_get e0.hok hp f _ hfo
  have hfr : ∀ b o, L.lookup b = some o → b ∉ frs outer := fun b o z q => by
    have := e0.frf b q
    rw [hp b o z] at this
    cases this
  refine PySem.W.kla_callFunE hr.depth hof rfl S.co S.gen rfl ⟨c', oc, ds, t, rfl, hoc, hdc, hvc⟩ ?_
  rw [hbind]
  refine wpAny_pure (wpAny_newFunctionEnv (fun y hy => (S.own y hy).1) (fun y hy => by rw [List.mem_singleton.mp hy]; exact S.par) (fun h1 hns hsb => ⟨(e0.mod.nolimit.keeps fun b o e => (e0.bs b o e).1).fresh _ hsb, ?_⟩) S.kind)
  have kp : ∀ b o, s1.heap.get? b = some o → h1.get? b = some o := fun b o e => hsb.extBut b o (Nat.ne_of_lt (Heap.lt_size e)) (Heap.get?_push_of_some _ e)
  have J : Inv (lamCx X A outer s1 (unp L Hc) E0 scope f c') [] (σ.set j (some v)) (unp L Hc) { s1 with heap := h1, toks := s1.toks + [(a, u)].length } :=
    lam_inv I S hL hcell nd hj r1 e0 hp hr.hd hns kp
  show codeAny _ _ (.expr body (lamEnv X scope s1.heap.objs.size f c')) _ _
  refine PySem.W.kla_codeExpr (wpAny_mono ((hbody _ _ s1 (unp L Hc) (hr.deeper _)).run [] _ _ (unp L Hc) _ J ht) (fun x s' hq => ?_) fun e s' hq => ?_)
  · obtain ⟨w', H', J', rv', q⟩ := hq
    exact ce_in (Q := Q) hp e0.hok hfr ⟨w', H', J'.os, J'.bare, J'.base, J'.hok, rv', q⟩
  · have hq : wpAny (model X.prog X.w) (A.deeper (lamEnv X scope s1.heap.objs.size f c')) (leaving (lamEnv X scope s1.heap.objs.size f c') e) (fun _ s'' => L2.CX X.prog X.w outer (unp L Hc) s1 E0 e s'') (fun e' s'' => L2.CX X.prog X.w outer (unp L Hc) s1 E0 e' s'') s' := hq
    refine wpAny_mono hq (fun _ s'' z => ?_) fun e' s'' z => ?_
    · obtain ⟨_, _, _, _, _, _, _, _, _, _, _, _, z⟩ := z
      exact z.elim
    · obtain ⟨_, _, _, _, _, _, _, _, _, _, _, _, z⟩ := z
      exact z.elim
end
end Lp

set_option Elab.async false
set_option linter.all false
set_option maxRecDepth 100000
set_option maxHeartbeats 3200000
/-! lambdas with one parameter: made, and handed to a def -/
namespace Lp
open PySem PySem.Spec PyProof.Rows L2 LamX
section
variable {X : Cx} {pins : List (Addr × Obj)} {σ : L2.St} {H H0 : Hp} {s s0 : Shared}
/-- a new object, pinned from now on -/
theorem inv_track {f : Addr} {fo : Obj} (I0 : Inv X pins σ H0 s0) (hf : s0.heap.objs.size ≤ f) (I : Inv X pins σ H s) (n : H f = none) (g : s.heap.get? f = some fo) : Inv X pins σ (upd H f (PinO fo)) s := by
  have old : ∀ {b : Addr} {o : Obj}, s0.heap.get? b = some o → b ≠ f := fun e z => by
    rw [z] at e
    exact Nat.lt_irrefl _ (Nat.lt_of_lt_of_le (Heap.lt_size e) hf)
  have lo : X.env.locals ≠ f := fun z => Nat.lt_irrefl _ (Nat.lt_of_lt_of_le (by rw [← z]; exact I0.lt) hf)
  have was : ∀ {b : Addr} {u : HO}, H b = some u → b ≠ f := fun e => ne_of_none e n
  refine { ok := I.ok, os := I.os, bare := I.bare, loc := I.loc, cell := I.cell, len := I.len
           base := { keep := I.base.keep, slot := I.base.slot, there := I.base.there, free := fun b o e nb hx => ?_, tups := fun b xs e => ?_, frzs := fun b o u e => ?_, tbls := fun b ps e => ?_ }
           free := ?_, freeC := fun y c e => ?_, pin := fun q hq => ?_, hok := fun b u e => ?_ }
  · have : b ≠ f := fun z => Nat.lt_irrefl _ (Nat.lt_of_lt_of_le (Heap.lt_size e) (by rw [z]; exact Nat.le_trans I0.sz hf))
    rw [upd_ne this]
    exact I.base.free b o e nb hx
  · have q := I.base.tups b xs e
    rw [upd_ne (was q), q]
  · have q := I.base.frzs b o u e
    rw [upd_ne (was q), q]
  · obtain ⟨more, q⟩ := I.base.tbls b ps e
    exact ⟨more, by rw [upd_ne (was q), q]⟩
  · rw [upd_ne lo]
    exact I.free
  · obtain ⟨v, o, ho, _⟩ := I0.cell y c e
    rw [upd_ne (old ho)]
    exact I.freeC y c e
  · obtain ⟨q1, q2, q3⟩ := I.pin q hq
    refine ⟨q1, ?_, q3⟩
    rw [upd_ne (old (I0.pin q hq).1)]
    exact q2
  · by_cases hb : b = f
    · subst hb
      rw [upd_same] at e
      cases e
      exact ⟨g, trivial, ⟨fo, g⟩, fun _ _ _ _ => trivial⟩
    · rw [upd_ne hb] at e
      exact (I.hok b u e).stay (fun _ _ _ z => z) (fun d z => by rw [upd_ne (was z)]; exact z) fun d xs z => by rw [upd_ne (was z)]; exact z
/-- the lambda's value -/
def tLamV (T : List (Addr × Str)) (q : Str) (is : Addr → Obj → Prop) : TE := fun σ H Q => Tabs T H ∧ ∀ H1, ExtN H H1 → Tabs T H1 → ∀ f fo c', H1 f = none → H f = none → is c' fo → H1 c' = some (CodeO c' q) → Q (.ref f) (upd H1 f (PinO fo))
theorem pe_lam {T : List (Addr × Str)} {c P : Addr} {params : Arguments} {body : Expr} {scope : Scope} {pos : Pos} {a : Str} (S : LamS1 X.env.scope scope a) (TB : TabB X.base X.mg c P) (hcode : X.env.code = .ref c) (hm : (P, X.env.qual ++ "<lambda>") ∈ T) (hu : ∀ p ∈ T, p.1 = P → p.2 = X.env.qual ++ "<lambda>")
    (hdef : defaultsOf params X.env = ([], []) := by rfl) : PE X (.Lambda params body scope pos) (tLamV T (X.env.qual ++ "<lambda>") (IsLam X params body scope)) := by
  refine ⟨fun pins s σ H Q I h => ?_⟩
  obtain ⟨hT, h⟩ := h
  obtain ⟨ps, hP, tri, known⟩ := hT _ hm
  have hP' : s.heap.get? P = some { cls := .none, data := .fields ps } := I.hok P _ hP
  have clo := closure_ok (env := X.env) (scope := scope) (S.has I.ok)
  have bP : s.heap.BuiltinsAt X.mg P := TB.bm.keeps I.bk
  refine PySem.W.kla_eval hdef ?_
  cases hc : codeAmong pos ps.toList with
  | some cv =>
    obtain ⟨c', e, hco⟩ := known pos cv hc
    subst e
    refine PySem.W.kla_makeFunctionHit (mg := X.mg) clo I.ok.glob (I.mod.glob.keeps I.bk) hcode (TB.code.keeps I.bk) hP' tri hc bP fun ctv h' tk hx hsz => ?_
    have n : H h'.objs.size = none := I.hok.fresh hsz
    have g : (h'.push (PySem.W.kla_obj "<lambda>" (X.env.qual ++ "<lambda>") params body scope (cloFrom X.env.cells scope.names []) ((X.mg "__name__").getD .none) c' ctv)).get? h'.objs.size = some (PySem.W.kla_obj "<lambda>" (X.env.qual ++ "<lambda>") params body scope (cloFrom X.env.cells scope.names []) ((X.mg "__name__").getD .none) c' ctv) := Heap.get?_push_size _ rfl
    have I1 : Inv X pins σ H { s with heap := h'.push (PySem.W.kla_obj "<lambda>" (X.env.qual ++ "<lambda>") params body scope (cloFrom X.env.cells scope.names []) ((X.mg "__name__").getD .none) c' ctv), toks := tk } := I.kept fun b o e => Heap.get?_push_of_some _ (hx b o e)
    exact ⟨.ref h'.objs.size, _, inv_track I hsz I1 n g, rfl, h H (ExtN.refl H) hT _ _ c' n n ⟨_, ctv, rfl⟩ hco⟩
  | none =>
    refine PySem.W.kla_makeFunction (mg := X.mg) clo I.ok.glob (I.mod.glob.keeps I.bk) hcode (TB.code.keeps I.bk) hP' tri hc TB.gP bP fun c' ctv h' tk hx hge hlt hrec htb => ?_
    obtain ⟨c2, oc, ds, t, e2, hoc, hd, hv⟩ := hrec
    cases e2
    have hsz : s.heap.objs.size ≤ h'.objs.size := Nat.le_trans hge (Nat.le_of_lt hlt)
    have nC : H c' = none := I.hok.fresh hge
    have nF : H h'.objs.size = none := I.hok.fresh hsz
    have g : (h'.push (PySem.W.kla_obj "<lambda>" (X.env.qual ++ "<lambda>") params body scope (cloFrom X.env.cells scope.names []) ((X.mg "__name__").getD .none) c' ctv)).get? h'.objs.size = some (PySem.W.kla_obj "<lambda>" (X.env.qual ++ "<lambda>") params body scope (cloFrom X.env.cells scope.names []) ((X.mg "__name__").getD .none) c' ctv) := Heap.get?_push_size _ rfl
    have I1 := inv_table (t' := tk) (more := #[rawInt pos.line, rawInt pos.col, .ref c']) (h' := h'.push (PySem.W.kla_obj "<lambda>" (X.env.qual ++ "<lambda>") params body scope (cloFrom X.env.cells scope.names []) ((X.mg "__name__").getD .none) c' ctv)) I hP
      (fun b o hb e => Heap.get?_push_of_some _ (hx b o hb e)) (Heap.get?_push_of_some _ htb) hge ⟨oc, ds, t, Heap.get?_push_of_some _ hoc, hd, hv⟩
    have nPc : P ≠ c' := ne_of_none hP nC
    have nFc : h'.objs.size ≠ c' := Nat.ne_of_gt hlt
    have nFP : h'.objs.size ≠ P := (ne_of_none hP nF).symm
    have hE : ExtN H (upd (upd H P (.tbl (ps ++ #[rawInt pos.line, rawInt pos.col, .ref c']))) c' (CodeO c' (X.env.qual ++ "<lambda>"))) := fun b o e nt => by
      have b1 : b ≠ c' := ne_of_none e nC
      have b2 : b ≠ P := fun z => by
        rw [z, hP] at e
        exact nt ps (Option.some.inj e).symm
      rw [upd_ne b1, upd_ne b2, e]
    have n1 : (upd (upd H P (.tbl (ps ++ #[rawInt pos.line, rawInt pos.col, .ref c']))) c' (CodeO c' (X.env.qual ++ "<lambda>"))) h'.objs.size = none := by
      rw [upd_ne nFc, upd_ne nFP, nF]
    have hT1 : Tabs T (upd (upd H P (.tbl (ps ++ #[rawInt pos.line, rawInt pos.col, .ref c']))) c' (CodeO c' (X.env.qual ++ "<lambda>"))) := fun p hp => by
      by_cases hb : p.1 = P
      · rw [hu p hp hb, hb]
        have eL : (ps ++ #[rawInt pos.line, rawInt pos.col, Value.ref c']).toList = ps.toList ++ [rawInt pos.line, rawInt pos.col, .ref c'] := by simp
        refine ⟨ps ++ #[rawInt pos.line, rawInt pos.col, .ref c'], by rw [upd_ne nPc, upd_same], ?_, fun p' cv hcv => ?_⟩
        · rw [eL]
          exact PySem.TriplesOk_snoc _ _ _ _ tri
        · rw [eL] at hcv
          rcases among_app _ tri hcv with z | z
          · obtain ⟨c0, e1, e2⟩ := known p' cv z
            exact ⟨c0, e1, hE _ _ e2 codeO_ne⟩
          · exact ⟨c', z, upd_same⟩
      · obtain ⟨ps', a1, a2, a3⟩ := hT p hp
        have a4 : p.1 ≠ c' := ne_of_none a1 nC
        refine ⟨ps', by rw [upd_ne a4, upd_ne hb, a1], a2, fun p' cv hcv => ?_⟩
        obtain ⟨c0, e1, e2⟩ := a3 p' cv hcv
        exact ⟨c0, e1, hE _ _ e2 codeO_ne⟩
    exact ⟨.ref h'.objs.size, _, inv_track I hsz I1 n1 g, rfl, h _ hE hT1 _ _ c' n1 nF ⟨_, ctv, rfl⟩ upd_same⟩
end
end Lp

set_option Elab.async false
set_option linter.all false
set_option maxRecDepth 100000
set_option maxHeartbeats 3200000
/-! lambdas with one parameter: made, and handed to a def -/
namespace Lp
open PySem PySem.Spec PyProof.Rows L2 LamX
section
variable {X : Cx} {pins : List (Addr × Obj)} {σ : L2.St} {H H0 : Hp} {s s0 : Shared}
/-! ### a def called with the maker's cells pinned -/
def cellsOf (h : Heap) (all l : List (Str × Addr)) : Pins := l.filterMap fun y => if all.lookup y.1 = some y.2 then (h.get? y.2).map fun o => (y.2, o) else none
theorem look_mem : ∀ {L : Pins} {b : Addr} {o : Obj}, L.lookup b = some o → (b, o) ∈ L
  | (c, o') :: L, b, o, e => by
    rw [List.lookup_cons] at e
    cases hb : b == c with
    | true =>
      rw [hb] at e
      rw [eq_of_beq hb, ← Option.some.inj e]
      exact List.mem_cons_self
    | false =>
      rw [hb] at e
      exact List.mem_cons_of_mem _ (look_mem e)
  | [], _, _, e => nomatch e
theorem mem_look : ∀ {L : Pins} {b : Addr} {o : Obj}, (b, o) ∈ L → ∃ o', L.lookup b = some o'
  | (c, o') :: L, b, o, hm => by
    rw [List.lookup_cons]
    cases hb : b == c with
    | true => exact ⟨o', rfl⟩
    | false =>
      rcases List.mem_cons.mp hm with e | hm
      · have e1 : b = c := congrArg Prod.fst e
        rw [e1, beq_self_eq_true] at hb
        cases hb
      · exact mem_look hm
  | [], _, _, hm => nomatch hm
theorem cellsOf_get {h : Heap} {all l : List (Str × Addr)} {b : Addr} {o : Obj} (e : (cellsOf h all l).lookup b = some o) : h.get? b = some o ∧ ∃ y, all.lookup y = some b := by
  obtain ⟨⟨y, c⟩, _, e1⟩ := List.mem_filterMap.mp (look_mem e)
  dsimp only at e1
  by_cases hy : all.lookup y = some c
  · rw [if_pos hy] at e1
    obtain ⟨o', h1, h2⟩ := Option.map_eq_some_iff.mp e1
    have e2 : c = b := congrArg Prod.fst h2
    have e3 : o' = o := congrArg Prod.snd h2
    rw [e2, e3] at h1
    rw [e2] at hy
    exact ⟨h1, y, hy⟩
  · rw [if_neg hy] at e1
    exact nomatch e1
theorem cellsOf_has {h : Heap} {all l : List (Str × Addr)} {y : Str} {c : Addr} {o : Obj} (hm : (y, c) ∈ l) (hy : all.lookup y = some c) (ho : h.get? c = some o) : ∃ o', (cellsOf h all l).lookup c = some o' := by
  refine mem_look (o := o) (List.mem_filterMap.mpr ⟨(y, c), hm, ?_⟩)
  dsimp only
  rw [if_pos hy, ho]
  rfl
end
end Lp

set_option Elab.async false
set_option linter.all false
set_option maxRecDepth 100000
set_option maxHeartbeats 3200000
/-! lambdas with one parameter: made, and handed to a def -/
namespace Lp
open PySem PySem.Spec PyProof.Rows L2 LamX
section
variable {X : Cx} {pins : List (Addr × Obj)} {σ : L2.St} {H H0 : Hp} {s s0 : Shared}
/-- the maker's state at the call, its cells known -/
structure StAt (X : Cx) (σ : L2.St) (H : Hp) (L : Pins) : Prop where
  st : ∃ (pins : List (Addr × Obj)) (s : Shared), Inv X pins σ H s ∧ ∀ b o, L.lookup b = some o → s.heap.get? b = some o
  cell : ∀ y c, X.env.cells.lookup y = some c → ∃ o, L.lookup c = some o
  clear : Clear L H
theorem StAt.at {f : Addr} {fo : Obj} {L : Pins} (S : StAt X σ H L) (hf : H f = some (PinO fo)) : CellsAt X σ f fo ((f, fo) :: L) := by
  obtain ⟨⟨pins, s, I, hg⟩, hc, cl⟩ := S
  have look : ∀ {b : Addr} {o : Obj}, ((f, fo) :: L).lookup b = some o → (b = f ∧ o = fo) ∨ (b ≠ f ∧ L.lookup b = some o) := fun {b o} e => by
    rw [List.lookup_cons] at e
    cases hb : b == f with
    | true =>
      rw [hb] at e
      cases e
      exact .inl ⟨eq_of_beq hb, rfl⟩
    | false =>
      rw [hb] at e
      exact .inr ⟨fun z => (by rw [z, beq_self_eq_true] at hb; cases hb), e⟩
  refine ⟨by rw [List.lookup_cons, beq_self_eq_true], ⟨pins, H, s, I, fun b o e => ?_⟩, fun y c e => ?_⟩
  · rcases look e with ⟨rfl, rfl⟩ | ⟨_, e⟩
    · exact (I.hok _ _ hf).1
    · exact hg b o e
  · obtain ⟨o, ho⟩ := hc y c e
    rw [List.lookup_cons]
    cases hb : c == f with
    | true => exact ⟨_, rfl⟩
    | false => exact ⟨o, ho⟩
theorem pinned_cons {f : Addr} {fo : Obj} {L : Pins} (cl : Clear L H) (hf : H f = some (PinO fo)) : Pinned ((f, fo) :: L) (pin L H) := fun b o e => by
  rw [List.lookup_cons] at e
  cases hb : b == f with
  | true =>
    rw [hb] at e
    cases e
    rw [eq_of_beq hb]
    exact pin_some cl hf
  | false =>
    rw [hb] at e
    exact pin_at e
variable {k : Nat} {f : Addr} {fd : FuncData} {ps : List Str} {sp : Sp} {x : Str} {p pos : Pos} {e : Expr} {es : List Expr} {t : TA}
def tCallP (X : Cx) (sp : Sp) (t : TA) : TE := fun σ H Q => t σ H fun vs H1 => ∀ L, StAt X σ H1 L → sp vs (pin L H1) (fun v H2 => Q v (unp L H2)) E0
theorem pe_callp (F : FnOk X.prog X.w X.K X.mg X.base CX0 k f fd ps sp) (hr : Room k X.A) (hg : Gl X x) (hm : X.mg x = some (.ref f)) (hk : PySem.W.keepIn X.K (.ref f) = true) (hb : Binds X.K fd ps []) (hfn : ∀ y, X.fn y = true)
    (ha : PA X (e :: es) t) (hdb : (x == ("__debug__" : Str)) = false := by decide) (he : starEach (e :: es) X.env = (false, eval e X.env) :: starEach es X.env := by rfl) (hpl : (backTo pos (starEach es X.env)).any (·.1) = false := by rfl) :
    PE X (.Call (.Name x p) (e :: es) [] pos) (tCallP X sp t) := by
  refine ⟨fun pins s σ H Q I h => ?_⟩
  refine wpAny_Call_Name_kw (ld_glob I hg hm ?_ hdb)
  refine PySem.W.callWith_K (h₀ := X.base) I.ok.mod.kin hk (thn (ha.run pos pins s σ H _ I h) fun us s1 ⟨vs, H1, I1, r, q⟩ => ⟨I1.kIn, ?_⟩) he hpl
  have hget : ∀ b o, (cellsOf s1.heap X.env.cells X.env.cells).lookup b = some o → s1.heap.get? b = some o ∧ ∃ y, X.env.cells.lookup y = some b := fun b o z => cellsOf_get z
  have hcl : Clear (cellsOf s1.heap X.env.cells X.env.cells) H1 := fun b o z => by
    obtain ⟨_, y, hy⟩ := hget b o z
    exact I1.freeC y b hy
  have hst : StAt X σ H1 (cellsOf s1.heap X.env.cells X.env.cells) := ⟨⟨pins, s1, I1, fun b o z => (hget b o z).1⟩, fun y c z => by
    obtain ⟨v, o, ho, _⟩ := I1.cell y c z
    exact cellsOf_has (PySem.mem_of_lookup z) z ho, hcl⟩
  have new : ∀ b o, (cellsOf s1.heap X.env.cells X.env.cells).lookup b = some o → X.s_0.heap.objs.size ≤ b := fun b o z => by
    obtain ⟨_, y, hy⟩ := hget b o z
    exact I1.ok.cab y b (hfn y) hy
  generalize cellsOf s1.heap X.env.cells X.env.cells = L at hget hcl hst new
  have he1 : ∀ b o, L.lookup b = some o → s1.heap.get? b = some o := fun b o z => (hget b o z).1
  have e0 : Env0 X.prog X.w X.K X.mg X.base X.A X.stack s1 (pin L H1) := env_pin I1.env0 hcl he1 (fun b o z hb => by
    obtain ⟨_, y, hy⟩ := hget b o z
    rcases List.mem_cons.mp (I1.stkSub b hb) with e | hb
    · exact I1.cne y b hy e
    · obtain ⟨_, o', ho', _⟩ := I1.ok.funs.mem hb
      exact Nat.lt_irrefl _ (Nat.lt_of_lt_of_le (Heap.lt_size ho') (new b o z))) fun b o z => Heap.get?_none_of_le (Nat.le_trans I1.ok.bsz (new b o z))
  have hq := q L hst
  have r2 : us.length = ps.length := by
    rw [← r.length]
    exact F.len _ _ _ _ hq
  have bd := hb s1 us I1.kIn (by rw [List.append_nil]; exact r2)
  rw [List.append_nil] at bd
  refine wpAny_call (codeAny_mono (F.run X.A X.stack s1 (pin L H1) ⟨us, []⟩ us vs _ _ hr e0 bd r hq) fun r s' hq => ?_)
  cases r with
  | error e => exact (show False from hq).elim
  | ok fl =>
    cases fl with
    | ret u => exact I1.after (ce_out (Q := Q) hcl he1 hq)
    | next => exact False.elim hq
    | brk => exact False.elim hq
    | cont => exact False.elim hq
end
end Lp

set_option Elab.async false
set_option linter.all false
set_option maxRecDepth 100000
set_option maxHeartbeats 3200000
/-! a def that makes lambdas: its code, its table, the head; repr of an int without guards; small lemmas -/
namespace Lp
open PySem PySem.Spec PyProof.Rows L2 LamX
/-- repr(i), i an int: nothing need be known of what is being shown -/
def rShowI : List V → Hp → VK → Prop := fun xs H Q => ∃ i : Int, xs = [.int i] ∧ (PyData.int i).showable = true ∧ Q (.str (PyData.shown (.int i))) H
theorem cr_reprI {X : Cx} : CallR X (.builtin "repr") rShowI := by
  intro pins s σ H xs us Q I r h
  obtain ⟨i, rfl, h1, q⟩ := h
  obtain ⟨t, rfl⟩ : ∃ t, us = [Value.int i t] := by
    cases r with
    | cons a b =>
      cases b
      obtain ⟨t, rfl⟩ := a
      exact ⟨t, rfl⟩
  exact P.repr_of_int (of_decide_eq_true h1) ⟨.str (PyData.shown (.int i)), H, I.tok _, ⟨_, rfl⟩, q⟩
/-- the code of a def, as the frag tells it -/
theorem tab_code {K : PySem.W.Frag} {x q : Str} {f c P : Addr} {oc kV doc pm cdv ct : Value} {od an : Option Addr} {osl : Array (Option Value)} {st : Stmt} (a : PySem.W.nsIn K mainGlobals x = some (some (.ref f)))
    (l : K.lookup f = some ⟨oc, od, .func (PySem.W.fnOf x q (defArgs st) (defBody st) (defScope st) .none kV doc pm an cdv ct), osl⟩) (t : PySem.W.tabIn K x = some (c, P)) : cdv = .ref c := by
  unfold PySem.W.tabIn at t
  rw [a] at t
  dsimp only at t
  rw [l] at t
  dsimp only at t
  split at t
  · rename_i c2
    split at t
    · split at t
      · cases t
        rfl
      · cases t
    · cases t
  · cases t
theorem tab_mk {K : PySem.W.Frag} {x q : Str} {f c P : Addr} {oc kV doc pm cdv ct : Value} {od an : Option Addr} {osl : Array (Option Value)} {st : Stmt} {oK : Value} {dK : Option Addr} {vs : Array Value} {sK : Array (Option Value)} (a : PySem.W.nsIn K mainGlobals x = some (some (.ref f)))
    (l : K.lookup f = some ⟨oc, od, .func (PySem.W.fnOf x q (defArgs st) (defBody st) (defScope st) .none kV doc pm an cdv ct), osl⟩) (e : cdv = .ref c) (k : K.lookup c = some ⟨oK, dK, .fields vs, sK⟩) (v : (vs[11]? : Option Value) = some (.ref P)) : PySem.W.tabIn K x = some (c, P) := by
  subst e
  unfold PySem.W.tabIn
  rw [a]
  dsimp only
  rw [l]
  dsimp only
  show (match K.lookup c with
    | some ⟨_, _, .fields vs, _⟩ => (match (vs[11]? : Option Value) with
      | some (.ref P) => some (c, P)
      | _ => none)
    | _ => none) = _
  rw [k]
  dsimp only
  rw [v]
section
variable {P : Program} {w : World} {K : PySem.W.Frag} {mg : Str → Option Value} {base : Heap}
/-- a def whose code is known -/
structure FunC (K : PySem.W.Frag) (x : Str) (st : Stmt) (f : Addr) (fd : FuncData) (c : Addr) : Prop where
  ex : ∃ (oc : Value) (od : Option Addr) (kV doc pm : Value) (an : Option Addr) (ct : Value) (osl : Array (Option Value)),
    fd = PySem.W.fnOf x x (defArgs st) (defBody st) (defScope st) .none kV doc pm an (.ref c) ct ∧ K.lookup f = some ⟨oc, od, .func fd, osl⟩ ∧ PySem.W.codeIn K (.ref c) x = true
theorem FunC.ok {x : Str} {st : Stmt} {f c : Addr} {fd : FuncData} {N ps : List Str} {k : Nat} {sp : Sp} (F : FunC K x st f fd c) (S : FnScope N ps (defScope st)) (len : ∀ vs H Q E, sp vs H Q E → vs.length = ps.length)
    (hbody : ∀ (A : Around) (outer : List Env) (s : Shared) (H : Hp) (vs : List V) (Q : VK) (E : XK), Room k (A.deeper (envOfC x (defScope st) s.heap.objs.size f (.ref c))) → sp vs H Q E →
      ∃ t, PSs (cxOf CX0 P w K mg base N x (defScope st) f (.ref c) A outer s H E).nox (defBody st) t ∧ t { nx := fun _ H' => Q .non H', rt := Q } (start N vs) H) : FnOk P w K mg base CX0 (k + 1) f fd ps sp := by
  obtain ⟨oc, od, kV, doc, pm, an, ct, osl, rfl, lk, hcd⟩ := F.ex
  refine fn_of lk hcd S len fun A outer s H vs Q E hr hsp => ?_
  obtain ⟨t, h, q⟩ := hbody A outer s H vs Q E hr hsp
  exact ⟨t, h.nox, q⟩
theorem FunC.of {x : Str} {st : Stmt} {f c Pt : Addr} {oc : Value} {od an : Option Addr} {osl : Array (Option Value)} {kV doc pm cdv ct : Value} (a : PySem.W.nsIn K mainGlobals x = some (some (.ref f)))
    (l : K.lookup f = some ⟨oc, od, .func (PySem.W.fnOf x x (defArgs st) (defBody st) (defScope st) .none kV doc pm an cdv ct), osl⟩) (cd : PySem.W.codeIn K cdv x = true) (t : PySem.W.tabIn K x = some (c, Pt)) :
    FunC K x st f (PySem.W.fnOf x x (defArgs st) (defBody st) (defScope st) .none kV doc pm an cdv ct) c := by
  have e := tab_code a l t
  subst e
  exact ⟨oc, od, kV, doc, pm, an, ct, osl, rfl, l, cd⟩
end
theorem same_pin {L : Pins} {H H' : Hp} (hp : Pinned L H) (s : ∀ b o, unp L H b = some o → H' b = some o) : ∀ b o, H b = some o → pin L H' b = some o := fun b o e => by
  cases hb : L.lookup b with
  | some u =>
    rw [pin_at hb, ← hp b u hb, e]
  | none =>
    rw [pin_off hb]
    refine s b o ?_
    rw [unp_off hb, e]
/-- the head: a law with one def that makes lambdas -/
theorem walkT {l : PySem.W.OpenLaw} {n k : Nat} {q : Program} {loose : List Str} {XP : (Str → Option Value) → Heap → Prop} {YP : World → Heap → Prop} {d : DefRec} {K : Params → PySem.W.Frag} {cx : World → CXT} {x y : Str}
    (hn : l.most = some n) (hn2 : n ≤ sizeLine) (hdf : d.params.defaults = []) (hr : Room k callerA) (hY : ∀ (w : World) (h : Heap), YP w h → (K w.params).In h) (hrec : ((recsOf q).find? fun e => e.name == y).isSome = true)
    (F : ∀ (w : World) (mg : Str → Option Value) (fa : Addr) (h : Heap), (K w.params).In h → h.Ns mainGlobals mg → mg d.name = some (.ref fa) → XP mg h →
      ∃ (fd : FuncData) (c Pt : Addr) (sp : Sp), PySem.W.tabIn (K w.params) y = some (c, Pt) ∧ (K w.params).lookup Pt = none ∧ (∀ (s : Shared) (u : Value), BindsTo s fd ⟨[u], []⟩ [(x, u)]) ∧
        (∀ (H : Hp) (a : Addr) (ns : List Int), ns.length ≤ n → H Pt = some (.tbl #[]) → SqL (K w.params) H a (ns.map V.int) → sp [.ref a] H (fun v _ => v = .bl true) fun _ _ _ => False) ∧
        ∀ base : Heap, (K w.params).In base → base.Ns mainGlobals mg → TabB base mg c Pt → FnOk l.prog w (K w.params) mg base (cx w) k fa fd [x] sp)
    (hcx : ∀ (w : World) (H : Hp) (s : Shared) (e : Value) (s' : Shared), cx w [] H s (fun _ _ _ => False) e s' → False) :
    PySem.W.WalkO q loose XP YP l.row.toRowW d [] (fun f vs => PySem.call f vs) := by
  refine Att.attach_callB hn hdf fun w s₀ s₁ mg mb fa o pm cd doc a vs ns G Y ho hd hcd hmg hobj hints hlen hbits hg => ?_
  have KX := hY w _ Y
  obtain ⟨fd, c, Pt, sp, ht, nP, hb, hsp, hF⟩ := F w mg fa _ KX G.T.g hmg G.X
  obtain ⟨dd, hdd⟩ := Option.isSome_iff_exists.mp hrec
  obtain ⟨hC, hP⟩ := PySem.W.tab_of G.T KX hdd ht
  exact law_callTs (cs := [(c, Pt)]) KX G.T.g G.T.b G.T.builtins G.T.nolimit hg (fun p hp => by rw [List.mem_singleton.mp hp]; exact hP) (fun p hp => by rw [List.mem_singleton.mp hp]; exact nP) (fun p hp => by rw [List.mem_singleton.mp hp]; exact hC) G.T.bmain hobj hints (Nat.le_trans hlen hn2) hr
    (fun base h1 h2 h3 => hF base h1 h2 (h3 _ (List.mem_singleton.mpr rfl))) hb (fun H hH hS => hsp H a ns hlen (hH _ (List.mem_singleton.mpr rfl)) hS) fun H e s' => hcx w H s₁ e s'
end Lp

set_option Elab.async false
set_option linter.all false
set_option maxRecDepth 100000
set_option maxHeartbeats 6400000
namespace K16
open PySem L2 Tx Tg Tm Da RZ
/-! ### the law's own selections and sums -/
def mkS (l : List Nat) : Str := ⟨l.toArray⟩
theorem cds_mk (l : List Nat) : cds (mkS l) = l := rfl
theorem mk_cds (z : Str) : mkS (cds z) = z := rfl
theorem mk_len (l : List Nat) : (mkS l).length = l.length := by
  show l.toArray.size = _
  rw [List.size_toArray]
theorem mk_snoc (l : List Nat) (c : Nat) : mkS l ++ one c = mkS (l ++ [c]) := by
  have e : cds (mkS l ++ one c) = cds (mkS (l ++ [c])) := by rw [cds_app]; rfl
  rw [← mk_cds (mkS l ++ one c), e]
  rfl
abbrev pkV (F : List Ty.Pk) : List (V × V) := F.map fun s => (V.str (mkS s.1), V.int s.2)
theorem picks_few {l : List Nat} (h : l.length ≤ 4) : (Ty.picks l).length ≤ 16 := by
  rw [Ty.picks_len]
  exact Nat.pow_le_pow_right (n := 2) (by decide) h
section
variable {P : Program} {w : World} {K : PySem.W.Frag} {mg : Str → Option Value} {base : Heap} {fP fN : Addr} {dP dN : FuncData}
abbrev nPicks : List Str := ["_law_line_here", "_law_found", "_law_sign", "_law_some", "_law_out"]
theorem scPicks : FnScope nPicks ["_law_line_here"] (defScope sPicks) := ⟨rfl, rfl, rfl, by decide +kernel, rfl, by decide +kernel, by decide +kernel⟩
def spPicks : Sp := fun vs H Q _ => ∃ (z : Str), vs = [.str z] ∧ z.length ≤ 4 ∧ ∀ L ps H', Same H H' → Lc.PrsAt H' L ps (pkV (Ty.picks (cds z))) → Q (.ref L) H'
theorem ok_picks {f : Addr} {fd : FuncData} (F : Fun K "_law_picks" "_law_picks" sPicks f fd) (T : Txt K mg) : FnOk P w K mg base CX0 1 f fd ["_law_line_here"] spPicks := by
  refine F.ok scPicks (fun vs H Q E h => ?_) (fun cdv A outer s H vs Q E hr h => ?_)
  · obtain ⟨z, rfl, _⟩ := h
    rfl
  · obtain ⟨z, rfl, hz, q⟩ := h
    refine ⟨_, (pss_cons (ps_set (i := 1) scPicks.nd rfl (Or.inl rfl) (pe_lst (pa_cons (pe_tup (pa_cons pe_str (pa_cons pe_int pa_nil))) pa_nil)))
    (pss_cons (ps_for PassesOwn.never rfl (pi_str (pv 0)) (pg_name (i := 2) scPicks.nd rfl (Or.inr rfl))
      (pss_one (ps_set (i := 1) scPicks.nd rfl (Or.inl rfl) (pe_op op_cat (pe_lc (own := [("_law_some", 3), ("_law_out", 4)]) (g := (gTup K 2 (gCons (gName 3) (gCons (gName 4) gNil)))) (tt := tYes)  rfl scPicks.nd (pi_list (pv 1)) (blkOk_by (own := [("_law_some", 3), ("_law_out", 4)]) (N := nPicks) (sc := defScope sPicks) (by decide +kernel)) (fun _ _ _ _ _ => (pg_tup rfl (pgs_cons (pg_name (i := 3) scPicks.nd rfl (Or.inl rfl)) (pgs_cons (pg_name (i := 4) scPicks.nd rfl (Or.inl rfl)) pgs_nil)))) (fun _ _ _ _ _ => pts_nil) (fun _ _ _ _ _ => (pe_tup (pa_cons (pe_op op_add_str (pv 3) (pv 2)) (pa_cons (pv 4) pa_nil))))) (pe_lc (own := [("_law_some", 3), ("_law_out", 4)]) (g := (gTup K 2 (gCons (gName 3) (gCons (gName 4) gNil)))) (tt := tYes)  rfl scPicks.nd (pi_list (pv 1)) (blkOk_by (own := [("_law_some", 3), ("_law_out", 4)]) (N := nPicks) (sc := defScope sPicks) (by decide +kernel)) (fun _ _ _ _ _ => (pg_tup rfl (pgs_cons (pg_name (i := 3) scPicks.nd rfl (Or.inl rfl)) (pgs_cons (pg_name (i := 4) scPicks.nd rfl (Or.inl rfl)) pgs_nil)))) (fun _ _ _ _ _ => pts_nil) (fun _ _ _ _ _ => (pe_tup (pa_cons (pv 3) (pa_cons (pe_op op_add (pv 4) pe_int) pa_nil)))))))))
    (pss_one (ps_ret (pv 1))))), ?_⟩
    refine ⟨(by show 2 ≤ sizeLine; decide), fun p0 np0 => ⟨(by show 1 ≤ sizeLine; decide), fun L0 nL0 => ?_⟩⟩
    have s00 := (same_upd (o := .tup [V.str (Str.ofString ""), .int 0]) np0).trans (same_upd (o := .lst [V.ref p0]) nL0)
    have eP0 := same_upd (o := .lst [V.ref p0]) nL0 _ _ (upd_same (H := H) (a := p0) (o := .tup [V.str (Str.ofString ""), .int 0]))
    dsimp only [gName]
    refine ⟨_, rfl, z, rfl, ?_⟩
    refine Lc.for_text (fun i σ H1 => ∃ (u2 : Option V) (L : Addr) (ps : List Addr), σ = [some (.str z), some (.ref L), u2, none, none] ∧ Same H H1 ∧ Lc.PrsAt H1 L ps (pkV (Ty.picks ((cds z).take i)))) ⟨none, L0, [p0], rfl, s00, ⟨upd_same, .cons eP0 .nil⟩⟩ ?_ ?_
    · rintro i c σ H1 hc ⟨u2, L, ps, rfl, s1, hL⟩
      have hi := (List.getElem?_eq_some_iff.mp hc).1
      have hzl : (cds z).length ≤ 4 := hz
      have few : (Ty.picks ((cds z).take i)).length ≤ 16 := picks_few (by rw [List.length_take]; omega)
      have ef : Ty.picks ((cds z).take (i + 1)) = (Ty.picks ((cds z).take i)).map (fun s => (s.1 ++ [c], s.2)) ++ (Ty.picks ((cds z).take i)).map fun s => (s.1, s.2 + 1) := by
        rw [List.take_add_one, hc]
        exact Ty.picks_snoc _ _
      have slen : ∀ s ∈ Ty.picks ((cds z).take i), s.1.length ≤ 4 := fun s hs => by
        have := (Ty.picks_sub hs).1
        rw [List.length_take] at this
        omega
      generalize Ty.picks ((cds z).take i) = G at hL few ef slen
      dsimp only [gName]
      refine ⟨_, rfl, L, rfl, ⟨_, SqL.of hL.lst⟩, fun D nD => ?_⟩
      refine Lc.lcPR (R := fun H p (u : V × V) => H p = some (.tup [u.1, u.2])) (fun _ _ _ _ kt h => kt _ _ h) (ys := pkV (G.map fun s => (s.1 ++ [c], s.2))) hL nD (by rw [List.length_map, List.length_map, List.length_map]) (by rw [List.length_map]; exact Nat.lt_of_le_of_lt few (by decide)) (fun _ _ => rfl) ?_ ?_
      · intro k u y H2 hu hy s2 Q' q'
        have hk := (List.getElem?_eq_some_iff.mp hu).1
        rw [List.length_map] at hk
        rw [List.getElem?_map, List.getElem?_eq_getElem hk] at hu
        rw [List.getElem?_map, List.getElem?_map, List.getElem?_eq_getElem hk] at hy
        cases hu
        cases hy
        refine ⟨_, rfl, _, rfl, mkS G[k].1, one c, rfl, rfl, ?_, _, rfl, (by show 2 ≤ sizeLine; decide), fun b nb => ?_⟩
        · have := slen _ (List.getElem_mem hk)
          rw [mk_len]
          exact Nat.le_trans (show G[k].1.length + 1 ≤ 5 by omega) (by decide)
        · rw [mk_snoc]
          exact q' b _ (same_upd nb) upd_same
      · intro H2 qs1 s2 e2 r2
        refine ⟨_, rfl, L, rfl, ⟨_, SqL.of (s2 _ _ hL.lst)⟩, fun D2 nD2 => ?_⟩
        refine Lc.lcPR (R := fun H p (u : V × V) => H p = some (.tup [u.1, u.2])) (fun _ _ _ _ kt h => kt _ _ h) (ys := pkV (G.map fun s => (s.1, s.2 + 1))) (hL.same s2) nD2 (by rw [List.length_map, List.length_map, List.length_map]) (by rw [List.length_map]; exact Nat.lt_of_le_of_lt few (by decide)) (fun _ _ => rfl) ?_ ?_
        · intro k u y H3 hu hy s3 Q' q'
          have hk := (List.getElem?_eq_some_iff.mp hu).1
          rw [List.length_map] at hk
          rw [List.getElem?_map, List.getElem?_eq_getElem hk] at hu
          rw [List.getElem?_map, List.getElem?_map, List.getElem?_eq_getElem hk] at hy
          cases hu
          cases hy
          refine ⟨_, rfl, _, rfl, _, _, rfl, rfl, (by show 2 ≤ sizeLine; decide), fun b nb => ?_⟩
          exact q' b _ (same_upd nb) upd_same
        · intro H3 qs2 s3 e3 r3
          have l1 := r2.length
          have l2 := r3.length
          rw [List.length_map, List.length_map] at l1 l2
          refine ⟨D, D2, _, _, rfl, rfl, s3 _ _ e2, e3, ?_, fun L2 nL2 => ?_⟩
          · rw [List.length_map, List.length_map, l1, l2]
            exact Nat.le_trans (show G.length + G.length ≤ 32 by omega) (by decide)
          · have s4 := same_upd (o := .lst (qs1.map V.ref ++ qs2.map V.ref)) nL2
            refine ⟨some (.str (one c)), L2, qs1 ++ qs2, rfl, ((s1.trans s2).trans s3).trans s4, ⟨?_, ?_⟩⟩
            · rw [upd_same, List.map_append]
            · rw [ef]
              show PySem.W.EachIs _ _ (List.map _ (_ ++ _))
              rw [List.map_append]
              exact Lc.each_app (PySem.W.EachIs.mono (fun _ _ e => s4 _ _ (s3 _ _ e)) r2) (PySem.W.EachIs.mono (fun _ _ e => s4 _ _ e) r3)
    · rintro σ H1 ⟨u2, L, ps, rfl, s1, hL⟩
      rw [List.take_of_length_le (Nat.le_refl _)] at hL
      exact ⟨_, rfl, q L ps H1 s1 hL⟩
abbrev nWeight : List Str := ["_law_call", "_law_line_here", "_law_found", "_law_some", "_law_out"]
theorem scWeight : FnScope nWeight ["_law_call", "_law_line_here"] (defScope sWeightOf) := ⟨rfl, rfl, rfl, by decide +kernel, rfl, by decide +kernel, by decide +kernel⟩
def spWeight (P : Program) (w : World) (K : PySem.W.Frag) (mg : Str → Option Value) (base : Heap) : Sp := fun vs H Q _ => ∃ (f : Addr) (L : Lp.Pins) (c' : Addr) (q : Str) (spl : Sp) (z : Str) (g : List Nat → Int), vs = [.ref f, .str z] ∧ Lp.LamOk P w K mg base 3 f L c' q spl ∧ Lp.LamRdy L c' q H ∧ z.length ≤ 4 ∧
  (∀ (y : Str) (H1 : Hp) (QQ : VK), Same H H1 → (∀ c ∈ cds y, c ∈ cds z) → (∀ H2, Same (Lp.unp L H1) H2 → QQ (.int (g (cds y))) H2) → spl [.str y] (Lp.unp L H1) QQ E0) ∧ ∀ H', Same H H' → Q (.int (Ty.psum (-1) (Ty.picks (cds z)) g)) H'
theorem ok_weight {f : Addr} {fd : FuncData} (F : Fun K "_law_weight_of" "_law_weight_of" sWeightOf f fd) (T : Txt K mg) (DP : Df K mg "_law_picks" sPicks ["_law_line_here"] fP dP) : FnOk P w K mg base CX0 5 f fd ["_law_call", "_law_line_here"] (spWeight P w K mg base) := by
  have GP := ok_picks (P := P) (w := w) (base := base) DP.F T
  refine F.ok scWeight (fun vs H Q E h => ?_) (fun cdv A outer s H vs Q E hr h => ?_)
  · obtain ⟨f, L, c', q, spl, z, g, rfl, _⟩ := h
    rfl
  · obtain ⟨f, L, c', qn, spl, z, g, rfl, LK, hR, hz, hc, q⟩ := h
    refine ⟨_, (pss_cons (ps_set (i := 2) scWeight.nd rfl (Or.inl rfl) pe_int)
    (pss_cons (ps_for PassesOwn.never rfl (pi_list (pe_call GP (hr.mono (by decide)) (by rfl) DP.m DP.F.kp DP.b .nil pass0 (pa_cons (pv 1) pa_nil))) (pg_tup rfl (pgs_cons (pg_name (i := 3) scWeight.nd rfl (Or.inl rfl)) (pgs_cons (pg_name (i := 4) scWeight.nd rfl (Or.inl rfl)) pgs_nil)))
      (pss_one (ps_set (i := 2) scWeight.nd rfl (Or.inl rfl) (pe_op op_add (pv 2) (pe_ifExp (pt_cmpR op_eq (pe_op op_modN (pe_callTy call_int1 (by rfl) T.int (by decide +kernel) (pa_cons (pv 4) pa_nil)) pe_int) pe_int (nomark _)) (Lp.pe_lamc (i := 0) LK (hr.mono (by decide)) rfl (Or.inl rfl) (pa_cons (pv 3) pa_nil)) (pe_op op_sub pe_int (Lp.pe_lamc (i := 0) LK (hr.mono (by decide)) rfl (Or.inl rfl) (pa_cons (pv 3) pa_nil))))))))
    (pss_one (ps_ret (pv 2))))), ?_⟩
    dsimp only [tSeq, gName]
    refine ⟨_, rfl, z, rfl, hz, fun Lp ps H1 s1 hL => ⟨Lp, rfl, ⟨_, SqL.of hL.lst⟩, ?_⟩⟩
    have sub : ∀ s ∈ Ty.picks (cds z), ∀ c ∈ s.1, c ∈ cds z := fun s hs => (Ty.picks_sub hs).2
    generalize Ty.picks (cds z) = G at hL sub q
    refine for_list (xs := ps.map V.ref) (fun i σ H2 => ∃ u3 u4 : Option V, σ = [some (.ref f), some (.str z), some (.int (Ty.psum (-1) (G.take i) g)), u3, u4] ∧ Same H1 H2) ⟨none, none, rfl, Same.refl _⟩ (fun i σ H2 _ h => by obtain ⟨_, _, _, s⟩ := h; exact SqL.of (s _ _ hL.lst)) ?_ ?_
    · rintro i x σ H2 hx ⟨u3, u4, rfl, s2⟩
      have hi := (List.getElem?_eq_some_iff.mp hx).1
      rw [List.length_map] at hi
      rw [List.getElem?_map, List.getElem?_eq_getElem hi] at hx
      cases hx
      have lp := hL.prs.length
      rw [List.length_map] at lp
      have hu : G[i]? = some G[i] := List.getElem?_eq_getElem (by omega)
      have hu2 : (pkV G)[i]? = some (V.str (mkS G[i].1), V.int G[i].2) := by rw [List.getElem?_map, hu]; rfl
      have ep := s2 _ _ (each_at2 hL.prs (List.getElem?_eq_getElem hi) hu2)
      have hG := sub _ (List.getElem_mem (l := G) (n := i) (by omega))
      have es : Ty.psum (-1) (G.take (i + 1)) g = Ty.psum (-1) (G.take i) g + (-1) ^ G[i].2 * g G[i].1 := by
        rw [List.take_add_one, hu, Ty.psum_app]
        show _ + (_ + 0) = _
        rw [Int.add_zero]
      generalize G[i] = s at ep hG es
      refine ⟨ps[i], _, rfl, SqT.of ep, rfl, _, _, rfl, _, _, rfl, rfl, ?_⟩
      have s12 := s1.trans s2
      have hR2 := hR.same s12
      have em : Int.fmod (s.2 : Int) 2 = ((s.2 % 2 : Nat) : Int) := by rw [Int.fmod_eq_emod_of_nonneg _ (by decide)]; rfl
      have call := fun (QQ : VK) h => hc (mkS s.1) H2 QQ s12 hG h
      refine ⟨_, rfl, _, rfl, .inl ⟨_, rfl, _, _, rfl, rfl, (show (2 : Int) ≠ 0 by decide), rfl, _, rfl, ?_⟩⟩
      dsimp only
      rw [Ty.neg_pow] at es
      rcases Nat.mod_two_eq_zero_or_one s.2 with e | e
      · rw [decide_eq_true (show V.int (Int.fmod (s.2 : Int) 2) = V.int 0 by rw [em, e]; rfl)]
        rw [if_pos e, Int.one_mul] at es
        refine iteT ⟨rfl, hR2, _, rfl, hR2, call _ fun H3 s3 => ⟨_, _, rfl, rfl, ?_⟩⟩
        refine ⟨some (.str (mkS s.1)), some (.int s.2), ?_, s2.trans (_root_.Lp.same_pin hR2.pn s3)⟩
        rw [es]
        rfl
      · rw [decide_eq_false (show ¬ V.int (Int.fmod (s.2 : Int) 2) = V.int 0 from fun z => by
          rw [em, e] at z
          cases z)]
        rw [if_neg (by omega)] at es
        refine iteF ⟨rfl, hR2, _, rfl, hR2, call _ fun H3 s3 => ⟨_, _, rfl, rfl, _, _, rfl, rfl, ?_⟩⟩
        refine ⟨some (.str (mkS s.1)), some (.int s.2), ?_, s2.trans (_root_.Lp.same_pin hR2.pn s3)⟩
        rw [es, show (-1 : Int) * g s.1 = 0 - g s.1 by omega]
        rfl
    · rintro σ H2 ⟨u3, u4, rfl, s2⟩
      rw [List.take_of_length_le (by have := hL.prs.length; rw [List.length_map] at this; rw [List.length_map]; omega)]
      exact ⟨_, rfl, q H2 (s1.trans s2)⟩
abbrev nSumOf : List Str := ["_law_bare_here", "_law_line_here", "_law_some", "_law_out"]
theorem scSumOf : FnScope nSumOf ["_law_bare_here", "_law_line_here"] (defScope sSumOf) := ⟨rfl, rfl, rfl, by decide +kernel, rfl, by decide +kernel, by decide +kernel⟩
def spSumOf : Sp := fun vs H Q _ => ∃ (P : Addr) (t : Tl) (z : Str), vs = [.ref P, .str z] ∧ BareAt H P t ∧ Over t.sg z ∧ z.length ≤ 4 ∧ ∀ H', Same H H' → Q (.int (Ty.psum 1 (Ty.picks (cds z)) fun s => numT t (mkS s))) H'
theorem ok_sumof {f : Addr} {fd : FuncData} (F : Fun K "_law_sum_of_picks" "_law_sum_of_picks" sSumOf f fd) (T : Txt K mg) (DP : Df K mg "_law_picks" sPicks ["_law_line_here"] fP dP) (DN : Df K mg "_law_num_of" sNumOf ["_law_bare_here", "_law_line_here"] fN dN) (GN : FnOk P w K mg base CX0 2 fN dN ["_law_bare_here", "_law_line_here"] spNum) :
    FnOk P w K mg base CX0 3 f fd ["_law_bare_here", "_law_line_here"] spSumOf := by
  have GP := ok_picks (P := P) (w := w) (base := base) DP.F T
  refine F.ok scSumOf (fun vs H Q E h => ?_) (fun cdv A outer s H vs Q E hr h => ?_)
  · obtain ⟨p, t, z, rfl, _⟩ := h
    rfl
  · obtain ⟨p, t, z, rfl, hP, hz, lz, q⟩ := h
    refine ⟨_, (pss_one (ps_ret (pe_callB (cr_sum rfl) (by rfl) T.sum (by decide +kernel) (pa_cons (pe_lc (own := [("_law_some", 2), ("_law_out", 3)]) (g := (gTup K 2 (gCons (gName 2) (gCons (gName 3) gNil)))) (tt := tYes) (te := tCall spNum [] E0 (tCons (tVar 0) (tCons (tVar 2) tNil))) rfl scSumOf.nd (pi_list (pe_call GP (hr.mono (by decide)) (by rfl) DP.m DP.F.kp DP.b .nil pass0 (pa_cons (pv 1) pa_nil))) (blkOk_by (own := [("_law_some", 2), ("_law_out", 3)]) (N := nSumOf) (sc := defScope sSumOf) (by decide +kernel)) (fun _ _ _ _ _ => (pg_tup rfl (pgs_cons (pg_name (i := 2) scSumOf.nd rfl (Or.inl rfl)) (pgs_cons (pg_name (i := 3) scSumOf.nd rfl (Or.inl rfl)) pgs_nil)))) (fun _ _ _ _ _ => pts_nil) (fun _ _ _ _ _ => (pe_call GN (hr.mono (by decide)) (by rfl) DN.m DN.F.kp DN.b .nil pass0 (pa_cons (pv 0) (pa_cons (pv 2) pa_nil))))) pa_nil)))), ?_⟩
    refine ⟨_, rfl, z, rfl, lz, fun L ps H1 s1 hL => ⟨L, rfl, ⟨_, SqL.of hL.lst⟩, fun D nD => ?_⟩⟩
    have few : (Ty.picks (cds z)).length ≤ 16 := picks_few lz
    have sub : ∀ s ∈ Ty.picks (cds z), Over t.sg (mkS s.1) := fun s hs c hc => hz c ((Ty.picks_sub hs).2 c hc)
    generalize Ty.picks (cds z) = G at hL few sub q
    refine Lc.lcPS (ys := intsV (G.map fun s => numT t (mkS s.1))) hL nD (by rw [List.length_map, List.length_map, List.length_map]) (by rw [List.length_map]; exact Nat.lt_of_le_of_lt few (by decide)) (fun _ _ => rfl) ?_ ?_
    · intro k u y H2 hu hy s2 Q' q'
      have hk := (List.getElem?_eq_some_iff.mp hu).1
      rw [List.length_map] at hk
      rw [List.getElem?_map, List.getElem?_eq_getElem hk] at hu
      rw [List.getElem?_map, List.getElem?_map, List.getElem?_eq_getElem hk] at hy
      cases hu
      cases hy
      exact ⟨_, rfl, _, rfl, p, t, mkS G[k].1, rfl, hP.same (s1.trans s2), sub _ (List.getElem_mem hk), fun H3 s3 => q' H3 s3⟩
    · intro H2 s2 e2
      refine ⟨D, _, rfl, SqL.of e2, ?_⟩
      have q := q H2 (s1.trans s2)
      rw [Ty.psum_one, List.map_map] at q
      exact q
abbrev nSpread : List Str := ["_law_line_here", "_law_piece", "_law_known", "_law_sign", "_law_later", "_law_at", "_law_other"]
theorem scSpread : FnScope nSpread ["_law_line_here", "_law_piece"] (defScope sSpread) := ⟨rfl, rfl, rfl, by decide +kernel, rfl, by decide +kernel, by decide +kernel⟩
def spSpread : Sp := fun vs H Q _ => ∃ (z y : Str), vs = [.str z, .str y] ∧ z.length ≤ 4 ∧ y.length ≤ 4 ∧ ∀ H', Same H H' → Q (.int (Ty.cnt (cds y) (Ty.picks (cds z)))) H'
theorem ok_spread {f : Addr} {fd : FuncData} (F : Fun K "_law_spread" "_law_spread" sSpread f fd) (T : Txt K mg) : FnOk P w K mg base CX0 1 f fd ["_law_line_here", "_law_piece"] spSpread := by
  refine F.ok scSpread (fun vs H Q E h => ?_) (fun cdv A outer s H vs Q E hr h => ?_)
  · obtain ⟨z, y, rfl, _⟩ := h
    rfl
  · obtain ⟨z, y, rfl, hz, hy, q⟩ := h
    refine ⟨_, (pss_cons (ps_set (i := 2) scSpread.nd rfl (Or.inl rfl) (pe_op op_cat (pe_lst (pa_cons pe_int pa_nil)) (pe_op op_rep (pe_lst (pa_cons pe_int pa_nil)) (pe_callB call_len_str (by rfl) T.len PySem.boot_len (pa_cons (pv 1) pa_nil)))))
    (pss_cons (ps_for PassesOwn.never rfl (pi_str (pv 0)) (pg_name (i := 3) scSpread.nd rfl (Or.inl rfl))
      (pss_cons (ps_set (i := 4) scSpread.nd rfl (Or.inl rfl) (pe_lst (pa_cons pe_int pa_nil)))
      (pss_cons (ps_for PassesOwn.never rfl (Ur.pi_enumS (by rfl) T.enumerate (pa_cons (pv 1) pa_nil)) (pg_tup rfl (pgs_cons (pg_name (i := 5) scSpread.nd rfl (Or.inl rfl)) (pgs_cons (pg_name (i := 6) scSpread.nd rfl (Or.inl rfl)) pgs_nil)))
        (pss_one (ps_expr (pe_bm PySem.F.plainAttrs_list PySem.F.slot_list_append PySem.F.type_list_append mt_append (pv 4) (pa_cons (pe_op op_add (pe_ix ix_list (pv 2) (pe_op op_add (pv 5) pe_int) (fun _ _ => rfl)) (pe_op op_mul (pe_ix ix_list (pv 2) (pv 5) (fun _ _ => rfl)) (pe_callTy call_int1 (by rfl) T.int (by decide +kernel) (pa_cons (pe_cmpR op_eq (pv 6) (pv 3) (nomark _)) pa_nil)))) pa_nil)))))
      (pss_one (ps_set (i := 2) scSpread.nd rfl (Or.inl rfl) (pv 4))))))
    (pss_one (ps_ret (pe_ix ix_list (pv 2) (pe_un un_neg pe_int) (fun _ _ => rfl)))))), ?_⟩
    have hzl : (cds z).length ≤ 4 := hz
    have hyl : (cds y).length ≤ 4 := hy
    refine ⟨(by show 1 ≤ sizeLine; decide), fun A1 n1 => ⟨(by show 1 ≤ sizeLine; decide), fun A2 n2 => ?_⟩⟩
    have s1 := same_upd (o := .lst [V.int 1]) n1
    have e1 : (upd H A1 (.lst [V.int 1])) A1 = some (.lst [V.int 1]) := upd_same
    generalize upd H A1 (.lst [V.int 1]) = H1 at s1 e1 n2 ⊢
    have s2 := same_upd (o := .lst [V.int 0]) n2
    have e2 : (upd H1 A2 (.lst [V.int 0])) A2 = some (.lst [V.int 0]) := upd_same
    have e12 := s2 _ _ e1
    have s02 := s1.trans s2
    generalize upd H1 A2 (.lst [V.int 0]) = H2 at s02 e2 e12 ⊢
    refine ⟨_, rfl, y, rfl, Nat.le_trans hy (by decide), ?_⟩
    refine ⟨A2, _, _, rfl, rfl, e2, by omega, ?_, ?_, fun A3 n3 => ?_⟩
    · exact Int.lt_of_le_of_lt (show (y.length : Int) ≤ 4 by omega) (by decide)
    · show 1 * (y.length : Int).toNat ≤ sizeLine
      exact Nat.le_trans (show _ ≤ 4 by omega) (by decide)
    rw [Int.toNat_natCast]
    have erep : (List.replicate y.length [V.int 0]).flatten = intsV (List.replicate (cds y).length 0) := by
      show (List.replicate (cds y).length [V.int 0]).flatten = _
      generalize (cds y).length = n
      induction n with
      | zero => rfl
      | succ n ih =>
        rw [List.replicate_succ, List.replicate_succ, List.flatten_cons, ih]
        rfl
    rw [erep]
    have s3 := same_upd (o := .lst (intsV (List.replicate (cds y).length 0))) n3
    have e3 : (upd H2 A3 (.lst (intsV (List.replicate (cds y).length 0)))) A3 = some (.lst (intsV (List.replicate (cds y).length 0))) := upd_same
    have e13 := s3 _ _ e12
    have s03 := s02.trans s3
    generalize upd H2 A3 (.lst (intsV (List.replicate (cds y).length 0))) = H3 at s03 e3 e13 ⊢
    refine ⟨A1, A3, _, _, rfl, rfl, e13, e3, ?_, fun A4 n4 => ?_⟩
    · rw [List.length_map, List.length_replicate]
      exact Nat.le_trans (show 1 + (cds y).length ≤ 5 by omega) (by decide)
    have s4 := s03.trans (same_upd (o := .lst ([V.int 1] ++ intsV (List.replicate (cds y).length 0))) n4)
    have e4 : (upd H3 A4 (.lst ([V.int 1] ++ intsV (List.replicate (cds y).length 0)))) A4 = some (.lst (intsV (Ty.crow (cds y) (Ty.picks [])))) := by
      rw [upd_same]
      show _ = some (HO.lst (intsV (Ty.crow (cds y) [([], 0)])))
      rw [Ty.crow_nil]
      rfl
    generalize upd H3 A4 (.lst ([V.int 1] ++ intsV (List.replicate (cds y).length 0))) = H4 at s4 e4 ⊢
    dsimp only [tSeq, gName]
    refine ⟨_, rfl, z, rfl, ?_⟩
    refine Lc.for_text (fun i σ H5 => ∃ (u3 u4 u5 u6 : Option V) (A : Addr), σ = [some (.str z), some (.str y), some (.ref A), u3, u4, u5, u6] ∧ Same H H5 ∧ H5 A = some (.lst (intsV (Ty.crow (cds y) (Ty.picks ((cds z).take i)))))) ⟨none, none, none, none, A4, rfl, s4, e4⟩ ?_ ?_
    · rintro i c σ H5 hc ⟨u3, u4, u5, u6, A, rfl, s5, e5⟩
      have ef : Ty.picks ((cds z).take (i + 1)) = Ty.pstep (Ty.picks ((cds z).take i)) c := by
        rw [List.take_add_one, hc]
        exact Ty.picks_snoc _ _
      have c0 := Ty.cnt_nil ((cds z).take (i + 1))
      rw [ef] at c0
      rw [ef]
      generalize Ty.picks ((cds z).take i) = G at e5 c0 ⊢
      dsimp only [tSeq, gName]
      refine ⟨(by show 1 ≤ sizeLine; decide), fun B nB => ?_⟩
      have s6 := same_upd (o := .lst [V.int 1]) nB
      have e6 : (upd H5 B (.lst [V.int 1])) B = some (.lst (intsV ((Ty.crow (cds y) (Ty.pstep G c)).take 1))) := by
        rw [upd_same]
        unfold Ty.crow
        rw [List.range_succ_eq_map]
        show _ = some (HO.lst [V.int ((Ty.cnt [] (Ty.pstep G c) : Nat) : Int)])
        rw [c0]
        rfl
      have e5' := s6 _ _ e5
      have s56 := s5.trans s6
      generalize upd H5 B (.lst [V.int 1]) = H6 at e6 e5' s56 ⊢
      refine ⟨_, rfl, y, rfl, ?_⟩
      refine Ur.for_enumS (fun j σ H7 => ∃ u5 u6 : Option V, σ = [some (.str z), some (.str y), some (.ref A), some (.str (one c)), some (.ref B), u5, u6] ∧ (∀ b o, b ≠ B → H6 b = some o → H7 b = some o) ∧ H7 B = some (.lst (intsV ((Ty.crow (cds y) (Ty.pstep G c)).take (j + 1))))) ⟨u5, u6, rfl, fun _ _ _ e => e, e6⟩ ?_ ?_
      · rintro j d T σ H7 hd ⟨v5, v6, rfl, k7, e7⟩ nT
        have sT := same_upd (o := .tup [.int (j : Nat), .str ⟨#[d]⟩]) nT
        refine ⟨T, _, rfl, SqT.of upd_same, rfl, _, _, rfl, _, _, rfl, rfl, ?_⟩
        have hd : (cds y)[j]? = some d := (Array.getElem?_toList ..).trans hd
        obtain ⟨hj, ed⟩ := List.getElem?_eq_some_iff.mp hd
        have AB : A ≠ B := fun z => by rw [z, nB] at e5; cases e5
        have eA := sT _ _ (k7 _ _ AB e5')
        have eB := sT _ _ e7
        generalize upd H7 T (.tup [.int (j : Nat), .str ⟨#[d]⟩]) = H8 at sT eA eB ⊢
        have lcr : ∀ F, (Ty.crow (cds y) F).length = (cds y).length + 1 := fun F => by unfold Ty.crow; rw [List.length_map, List.length_range]
        have g1 : (intsV (Ty.crow (cds y) G))[j + 1]? = some (V.int ((Ty.crow (cds y) G).getD (j + 1) 0)) := by
          rw [List.getElem?_map, List.getElem?_eq_getElem (by rw [lcr]; omega), List.getD_eq_getElem?_getD, List.getElem?_eq_getElem (by rw [lcr]; omega)]
          rfl
        have g2 : (intsV (Ty.crow (cds y) G))[j]? = some (V.int ((Ty.crow (cds y) G).getD j 0)) := by
          rw [List.getElem?_map, List.getElem?_eq_getElem (by rw [lcr]; omega), List.getD_eq_getElem?_getD, List.getElem?_eq_getElem (by rw [lcr]; omega)]
          rfl
        have st := Ty.crow_step (cds y) c G j hj
        have eg : (Ty.crow (cds y) (Ty.pstep G c)).take (j + 1 + 1) = (Ty.crow (cds y) (Ty.pstep G c)).take (j + 1) ++ [((Ty.cnt ((cds y).take (j + 1)) (Ty.pstep G c) : Nat) : Int)] := by
          rw [List.take_add_one (i := j + 1)]
          congr 1
          unfold Ty.crow
          rw [List.getElem?_map, List.getElem?_range (by omega)]
          rfl
        refine ⟨_, rfl, .inl ⟨rfl, _, SqL.of eB⟩, ?_⟩
        refine ⟨_, rfl, _, rfl, _, _, rfl, rfl, A, _, _, _, rfl, rfl, SqL.of eA, atI_nat (j := j + 1) g1, ?_⟩
        refine ⟨_, rfl, _, rfl, A, _, _, _, rfl, rfl, SqL.of eA, atI_nat g2, ?_⟩
        refine ⟨_, rfl, _, rfl, rfl, .inr ⟨_, rfl, ?_⟩⟩
        have hdc : decide (V.str (⟨#[d]⟩ : Str) = V.str (one c)) = decide ((cds y)[j] = c) := by
          rw [ed]
          exact decide_eq_decide.mpr ⟨fun e => one_inj (by injection e), fun e => by rw [e]⟩
        refine ⟨_, _, rfl, rfl, .inr ?_, _, _, rfl, rfl, B, _, _, rfl, rfl, eB, ?_, ?_⟩
        · split <;> exact ⟨by decide, by decide⟩
        · rw [List.length_map, List.length_take]
          exact Nat.lt_of_le_of_lt (show _ ≤ 5 by rw [lcr]; omega) (by decide)
        · refine ⟨some (.int (j : Nat)), some (.str ⟨#[d]⟩), rfl, fun b o n e => by rw [upd_ne n]; exact sT _ _ (k7 _ _ n e), ?_⟩
          rw [upd_same, eg, st]
          show some (HO.lst (List.map V.int _ ++ [V.int (_ + _ * if decide (V.str (⟨#[d]⟩ : Str) = V.str (one c)) = true then 1 else 0)])) = some (HO.lst (List.map V.int (_ ++ [_])))
          rw [hdc, List.map_append]
          by_cases e : (cds y)[j] = c
          · rw [decide_eq_true e, if_pos e]
            rfl
          · rw [decide_eq_false e, if_neg e]
            rfl
      · rintro σ H7 ⟨v5, v6, rfl, k7, e7⟩
        have lcr : (Ty.crow (cds y) (Ty.pstep G c)).length = (cds y).length + 1 := by unfold Ty.crow; rw [List.length_map, List.length_range]
        rw [List.take_of_length_le (by rw [lcr]; exact Nat.le_refl _)] at e7
        exact ⟨_, rfl, some (.str (one c)), some (.ref B), v5, v6, B, rfl, fun b o e => k7 b o (ne_of_none (s5 _ _ e) nB) (s56 b o e), e7⟩
    · rintro σ H5 ⟨u3, u4, u5, u6, A, rfl, s5, e5⟩
      rw [List.take_of_length_le (Nat.le_refl _)] at e5
      have lcr : (Ty.crow (cds y) (Ty.picks (cds z))).length = (cds y).length + 1 := by unfold Ty.crow; rw [List.length_map, List.length_range]
      have g : (intsV (Ty.crow (cds y) (Ty.picks (cds z))))[(cds y).length]? = some (V.int (Ty.cnt (cds y) (Ty.picks (cds z)))) := by
        unfold Ty.crow
        rw [List.getElem?_map, List.getElem?_map, List.getElem?_range (by omega)]
        show some (V.int ((Ty.cnt ((cds y).take (cds y).length) _ : Nat) : Int)) = _
        rw [List.take_of_length_le (Nat.le_refl _)]
      have gi : atI (intsV (Ty.crow (cds y) (Ty.picks (cds z)))) (-1) = some (V.int (Ty.cnt (cds y) (Ty.picks (cds z)))) := by
        unfold atI ixN
        rw [List.length_map, lcr, if_neg (by decide), if_pos (by omega)]
        show (intsV (Ty.crow (cds y) (Ty.picks (cds z))))[((-1 : Int) + ((cds y).length + 1 : Nat)).toNat]? = _
        rw [show ((-1 : Int) + ((cds y).length + 1 : Nat)).toNat = (cds y).length by omega, g]
      exact ⟨_, rfl, 1, rfl, A, _, -1, _, rfl, rfl, SqL.of e5, gi, q H5 s5⟩
end
end K16

set_option Elab.async false
set_option linter.all false
set_option maxRecDepth 100000
set_option maxHeartbeats 6400000
namespace K16
open PySem L2 Tx Tg Tm Da RZ
theorem int_short {n : Int} (h : n.natAbs ≤ 10 ^ 60) : PyData.showable (.int n) = true ∧ PyData.leavesShort 62 (.int n) = true ∧ PyData.weight (.int n) ≤ 201 := by
  have h2 : n.natAbs < 10 ^ 61 := Nat.lt_of_le_of_lt h (by decide)
  have h3 : n.natAbs < 2 ^ 200 := Nat.lt_of_le_of_lt h (by decide)
  have hl : n.natAbs.log2 < 201 := by
    by_cases h0 : n.natAbs = 0
    · rw [h0]
      decide
    · exact Nat.lt_trans ((Nat.log2_lt h0).mpr h3) (by decide)
  refine ⟨decide_eq_true (Nat.lt_trans hl (by decide)), ?_, ?_⟩
  · refine decide_eq_true ?_
    have e := int_text_length_le10 (k := 61) (by decide) h2
    show (Str.ofString (toString n)).length ≤ 62
    rw [ofString_length]
    exact e
  · show (if (n == 0) = true then 0 else n.natAbs.log2 + 1) ≤ 201
    split <;> omega
/-! ### a tally that can be asked -/
structure Rdy (CT : Addr) (H : Hp) (x : Addr) (t : Tl) : Prop where
  at_ : TlAt CT H x t
  M : okM t.n t.W
  n9 : t.n ≤ 9
  few : Few t.v
theorem Rdy.same {CT : Addr} {H H' : Hp} {x : Addr} {t : Tl} (s : Same H H') (h : Rdy CT H x t) : Rdy CT H' x t := ⟨h.at_.same s, h.M, h.n9, h.few⟩
theorem Rdy.but {CT c : Addr} {H H' : Hp} {x : Addr} {t : Tl} (hc : Cup H c) (b : But c H H') (h : Rdy CT H x t) : Rdy CT H' x t := ⟨h.at_.but hc b, h.M, h.n9, h.few⟩
theorem Rdy.of {CT : Addr} {H : Hp} {x : Addr} {t : Tl} {A B : Nat} (h : TlAt CT H x t) (bW : BdW A t.W) (bv : BdL B t.v) (hA : A ≤ 10 ^ 18) (hB : B ≤ 10 ^ 18) (n9 : t.n ≤ 9) : Rdy CT H x t := ⟨h, h.ok.M bW hA, n9, bv.few hB⟩
theorem Rdy.go {CT : Addr} {H : Hp} {x : Addr} {T : Tl} {z : Str} {σ : L2.St} {j : Nat} {Q : VK} (R : Rdy CT H x T) (hj : σ[j]? = some (some (.str z))) (hz : Over T.sg z) (lz : z.length ≤ 100) (q : ∀ H', Same H H' → Q (.int (numT T z)) H') :
    ∃ a dx fs, V.ref x = .ref a ∧ H a = some (.ins CT dx fs) ∧ fs.lookup ("at" : Str) = none ∧ tCons (tVar j) tNil σ H fun vs H2 => spAt CT (V.ref x :: (vs ++ [])) H2 Q E0 := by
  obtain ⟨dx, a, d, b, e, _⟩ := id R.at_
  exact ⟨x, dx, _, rfl, e, rfl, _, hj, x, T, z, rfl, R.at_, R.M, R.n9, R.few, hz, lz, q⟩
theorem rdy_made {CT : Addr} {H : Hp} {x : Addr} {t : Tl} (h : TlAt CT H x t) (s : Sml t) : Rdy CT H x t := .of h s.bW s.bv (by decide) (by decide) (Nat.le_trans s.n3 (by decide))
/-! ### the numbers of raised tallies -/
theorem rais_keys (k : Int) (n : Nat) (W : List Mv) : (raisW k n W).map (·.1) = W.map (·.1) := by
  show (W.map _).map _ = _
  rw [List.map_map]
  rfl
theorem atW_rais {k : Int} {n : Nat} {W : List Mv} {c : Nat} (nd : (W.map (·.1)).Nodup) (h : c ∈ W.map (·.1)) : atW (raisW k n W) c = raisL k n (atW W c) := atW_map (g := raisL k n) nd h
/-- the number of a raised tally, as one of raised squares -/
theorem numT_raised {k : Int} {t : Tl} {z : Str} (ht : okT t) (hz : Over t.sg z) (ok : okT (raisT k t)) : numT (raisT k t) z = Ty.rest t.p (Ty.num t.n (Ty.fn t.u) ((cds z).map fun x => Ty.rais k (Ty.sq (atW t.W x))) (Ty.fn t.v)) := by
  have kk : ∀ x ∈ cds z, x ∈ t.W.map (·.1) := Over.keys ht hz
  refine numT_mk ok ht.lu ht.lv (by rw [rais_keys]; exact ht.N.nd) (fun x hx => by rw [rais_keys]; exact kk x hx) (fun x hx => by rw [atW_rais ht.N.nd (kk x hx)]; exact raisL_sq _ _ _) (fun _ _ => rfl) (fun _ _ => rfl) fun x hx i j hi hj => ?_
  rw [atW_rais ht.N.nd (kk x hx)]
  exact raisL_at hi hj
theorem numT_psum {k : Int} {t : Tl} {z : Str} (ht : okT t) (hz : Over t.sg z) (ok : okT (raisT k t)) : numT (raisT k t) z = Ty.rest t.p (Ty.psum k (Ty.picks (cds z)) (pureN t)) := by
  rw [numT_raised ht hz ok, Ty.num_rais]
  rfl
theorem over_pick {t : Tl} {z : Str} (hz : Over t.sg z) : ∀ s ∈ Ty.picks (cds z), Over t.sg (mkS s.1) := fun s hs c hc => hz c ((Ty.picks_sub hs).2 c hc)
/-- by the law's own sum over selections -/
theorem numT_own {k : Int} {t : Tl} {z : Str} (ht : okT t) (hz : Over t.sg z) (ok : okT (raisT k t)) : Ty.rest t.p (Ty.psum k (Ty.picks (cds z)) fun s => numT t (mkS s)) = numT (raisT k t) z := by
  rw [numT_psum ht hz ok]
  refine Ty.psum_eqv fun s hs => ?_
  show Ty.Eqv t.p (numT t (mkS s.1)) (pureN t s.1)
  rw [numT_pure ht (over_pick hz s hs)]
  exact Ty.Eqv.of_rest _ _
theorem rais_rais {k j : Int} (h : k + j = 0) (M : Nat → Nat → Int) : Ty.rais k (Ty.rais j M) = M := funext fun a => funext fun b => by
  show (M a b + if b = a then j else 0) + (if b = a then k else 0) = M a b
  split <;> omega
/-- raised there and back -/
theorem numT_there {k j : Int} {t : Tl} {z : Str} (h : k + j = 0) (ht : okT t) (hz : Over t.sg z) (ok : okT (raisT j t)) (ok2 : okT (raisT k (raisT j t))) : numT (raisT k (raisT j t)) z = numT t z := by
  have kk : ∀ x ∈ cds z, x ∈ t.W.map (·.1) := Over.keys ht hz
  have sq0 : ∀ x ∈ cds z, Ty.Sq t.n (atW t.W x) := fun x hx => ht.at (hz x hx)
  have e1 := numT_raised (k := k) (t := raisT j t) (z := z) ok hz ok2
  rw [e1, numT_pure ht hz]
  have ea : ∀ x ∈ cds z, atW (raisT j t).W x = (raisL j t.n (atW t.W x)).map fun r => r.map (Ty.rest t.p) := fun x hx => by
    have q := atW_map (W := raisW j t.n t.W) (c := x) (g := fun M => M.map fun r => r.map (Ty.rest t.p)) (by rw [rais_keys]; exact ht.N.nd) (by rw [rais_keys]; exact kk x hx)
    rw [atW_rais ht.N.nd (kk x hx)] at q
    exact q
  refine Ty.dt_eqv (Ty.led_eqv (ms_map fun x hx a b ha hb => ?_) fun i hi => ?_) fun i hi => ?_
  · show Ty.Eqv t.p (Ty.rais k (Ty.sq (atW (raisT j t).W x)) a b) (Ty.sq (atW t.W x) a b)
    rw [ea x hx]
    have hb' : b < t.n := hb
    show Ty.Eqv t.p (Ty.sq _ a b + if b = a then k else 0) _
    rw [sq_rest (raisL_sq j t.n (atW t.W x)) ha hb, raisL_at ha hb]
    have q := Ty.Eqv.add (Ty.Eqv.of_rest t.p (Ty.rais j (Ty.sq (atW t.W x)) a b)) (Ty.Eqv.refl t.p (if b = a then k else 0))
    have e := congrFun (congrFun (rais_rais h (Ty.sq (atW t.W x))) a) b
    exact q.trans (congrArg (Ty.rest t.p) e)
  · show Ty.Eqv t.p (Ty.fn (t.u.map (Ty.rest t.p)) i) (Ty.fn t.u i)
    rw [fn_map (by rw [ht.lu]; exact hi)]
    exact Ty.Eqv.of_rest _ _
  · show Ty.Eqv t.p (Ty.fn (t.v.map (Ty.rest t.p)) i) (Ty.fn t.v i)
    rw [fn_map (by rw [ht.lv]; exact hi)]
    exact Ty.Eqv.of_rest _ _
theorem sum_eqv {α : Type} {p : Option Int} {f g : α → Int} : ∀ {l : List α}, (∀ x ∈ l, Ty.Eqv p (f x) (g x)) → Ty.Eqv p (l.map f).sum (l.map g).sum
  | [], _ => rfl
  | x :: l, h => by
    rw [List.map_cons, List.map_cons, List.sum_cons, List.sum_cons]
    exact (h x List.mem_cons_self).add (sum_eqv fun y hy => h y (List.mem_cons_of_mem _ hy))
theorem cds_inj {a b : Str} (h : cds a = cds b) : a = b := by rw [← mk_cds a, h, mk_cds]
/-- the number is the sum of weights times counts -/
theorem numT_sum {t : Tl} {z : Str} {ss : List Str} (ht : okT t) (hz : Over t.sg z) (ok : okT (raisT (-1) t)) (nd : ss.Nodup) (hs : ∀ y, y ∈ ss ↔ y ∈ (Ty.picks (cds z)).map fun s => mkS s.1) :
    Ty.rest t.p (ss.map fun y => numT (raisT (-1) t) y * (Ty.cnt (cds y) (Ty.picks (cds z)) : Int)).sum = numT t z := by
  have hA : Ty.num t.n (Ty.fn t.u) ((cds z).map fun x => Ty.rais 1 (Ty.rais (-1) (Ty.sq (atW t.W x)))) (Ty.fn t.v) = pureN t (cds z) := by
    have e : (fun x => Ty.rais 1 (Ty.rais (-1) (Ty.sq (atW t.W x)))) = fun x => Ty.sq (atW t.W x) := funext fun x => rais_rais (by decide) _
    rw [e]
    rfl
  rw [Ty.num_rais 1 t.n (Ty.fn t.u) (Ty.fn t.v) (fun x => Ty.rais (-1) (Ty.sq (atW t.W x)))] at hA
  rw [numT_pure ht hz, ← hA, Ty.psum_one]
  have nd2 : (ss.map cds).Nodup := List.Pairwise.map cds (fun a b n e => n (cds_inj e)) nd
  rw [Ty.group (D := ss.map cds) nd2 fun x hx => by
    obtain ⟨s, hs1, rfl⟩ := List.mem_map.mp hx
    exact List.mem_map.mpr ⟨mkS s.1, (hs _).mpr (List.mem_map.mpr ⟨s, hs1, rfl⟩), rfl⟩]
  rw [List.map_map]
  refine sum_eqv fun y hy => ?_
  obtain ⟨s, hs1, rfl⟩ := List.mem_map.mp ((hs y).mp hy)
  refine Ty.Eqv.mul ?_ (Ty.Eqv.refl _ _)
  rw [numT_raised ht (over_pick hz s hs1) ok]
  exact Ty.Eqv.of_rest _ _
/-! ### bounds -/
theorem psum_bd {k : Int} {B : Nat} {g : List Nat → Int} (hk : k = 1 ∨ k = -1) : ∀ {F : List Ty.Pk}, (∀ s ∈ F, (g s.1).natAbs ≤ B) → (Ty.psum k F g).natAbs ≤ F.length * B
  | [], _ => by
    show (0 : Int).natAbs ≤ _
    exact Nat.zero_le _
  | s :: F, h => by
    have ih := psum_bd (g := g) hk (F := F) fun x hx => h x (List.mem_cons_of_mem _ hx)
    have h0 := h s List.mem_cons_self
    have e : Ty.psum k (s :: F) g = k ^ s.2 * g s.1 + Ty.psum k F g := rfl
    have e1 : (k ^ s.2 * g s.1).natAbs ≤ B := by
      rw [Int.natAbs_mul]
      have : (k ^ s.2).natAbs = 1 := by
        rw [Int.natAbs_pow]
        rcases hk with rfl | rfl <;> exact Nat.one_pow _
      rw [this, Nat.one_mul]
      exact h0
    rw [e, List.length_cons, Nat.succ_mul]
    have := Int.natAbs_add_le (k ^ s.2 * g s.1) (Ty.psum k F g)
    omega
theorem numR_bd {k : Int} {t : Tl} {z : Str} (hk : k = 1 ∨ k = -1) (ht : okT t) (sm : Sml t) (hz : Over t.sg z) (lz : z.length ≤ 4) (ok : okT (raisT k t)) : (numT (raisT k t) z).natAbs ≤ 10 ^ 60 := by
  rw [← numT_own ht hz ok]
  refine rest_bd ht.pr (by decide) ?_
  have h := psum_bd (B := 10 ^ 16) (g := fun s => numT t (mkS s)) hk (F := Ty.picks (cds z)) fun s hs => numT_bd ht sm (by rw [mk_len]; have := (Ty.picks_sub hs).1; have : (cds z).length ≤ 4 := lz; omega)
  have few := picks_few (l := cds z) lz
  exact Nat.le_trans h (Nat.le_trans (Nat.mul_le_mul_right _ few) (by decide))
theorem bdW_rais {k : Int} {B n : Nat} {W : List Mv} (hk : k = 1 ∨ k = -1) (h : BdW B W) (hs : ∀ m ∈ W, Ty.Sq n m.2) : BdW (B + 1) (raisW k n W) := fun m hm r hr x hx => by
  obtain ⟨m0, h0, rfl⟩ := List.mem_map.mp hm
  obtain ⟨i, hi, rfl⟩ := List.mem_map.mp hr
  obtain ⟨j, hj, rfl⟩ := List.mem_map.mp hx
  have hi := List.mem_range.mp hi
  have hj := List.mem_range.mp hj
  have sq0 := hs m0 h0
  have h1 : i < m0.2.length := by rw [sq0.len]; exact hi
  have h2 : j < m0.2[i].length := by rw [sq0.row _ (List.getElem_mem h1)]; exact hj
  rw [sq_at h1 h2]
  have h3 := h m0 h0 _ (List.getElem_mem h1) _ (List.getElem_mem h2)
  rcases hk with rfl | rfl <;> split <;> omega
theorem rdy_rais {CT : Addr} {H : Hp} {x : Addr} {k : Int} {t : Tl} (hk : k = 1 ∨ k = -1) (ht : okT t) (sm : Sml t) (h : TlAt CT H x (raisT k t)) : Rdy CT H x (raisT k t) :=
  .of h (A := 7) (B := 6) (BdW.rest ht.pr (by decide) (bdW_rais hk sm.bW ht.sq)) (BdL.rest ht.pr (by decide) sm.bv) (by decide) (by decide) (Nat.le_trans sm.n3 (by decide))
theorem rdy_rais2 {CT : Addr} {H : Hp} {x : Addr} {k j : Int} {t : Tl} (hk : k = 1 ∨ k = -1) (hj : j = 1 ∨ j = -1) (ht : okT t) (sm : Sml t) (ok : okT (raisT j t)) (h : TlAt CT H x (raisT k (raisT j t))) : Rdy CT H x (raisT k (raisT j t)) :=
  .of h (A := 8) (B := 6) (BdW.rest ht.pr (by decide) (bdW_rais hk (BdW.rest ht.pr (by decide) (bdW_rais hj sm.bW ht.sq)) ok.sq)) (BdL.rest ht.pr (by decide) (BdL.rest ht.pr (by decide) sm.bv)) (by decide) (by decide) (Nat.le_trans sm.n3 (by decide))
/-! ### all but the tables stays -/
open LamX in
theorem ext_keepT {H H' : Hp} (e : ExtN H H') : KeepT H H' := fun p xs h => e p _ h (fun ps z => nomatch z)
open LamX in
theorem MovAt.ext {H H' : Hp} {d : Addr} {W : List Mv} (s : ExtN H H') (h : MovAt H d W) : MovAt H' d W := let ⟨k, e, r⟩ := h; ⟨k, s _ _ e (fun ps z => nomatch z), r.keep (ext_keepT s)⟩
open LamX in
theorem TlAt.ext {C : Addr} {H H' : Hp} {x : Addr} {t : Tl} (s : ExtN H H') (h : TlAt C H x t) : TlAt C H' x t := let ⟨dx, a, d, b, e, ha, hd, hb, ok⟩ := h; ⟨dx, a, d, b, s _ _ e (fun ps z => nomatch z), ext_keepT s _ _ ha, hd.ext s, ext_keepT s _ _ hb, ok⟩
open LamX in
theorem Rdy.ext {CT : Addr} {H H' : Hp} {x : Addr} {t : Tl} (s : ExtN H H') (h : Rdy CT H x t) : Rdy CT H' x t := ⟨h.at_.ext s, h.M, h.n9, h.few⟩
open LamX in
theorem BareAt.ext {H H' : Hp} {P : Addr} {t : Tl} (s : ExtN H H') (h : BareAt H P t) : BareAt H' P t := let ⟨a, d, b, e, ha, hd, hb, ok⟩ := h; ⟨a, d, b, s _ _ e (fun ps z => nomatch z), ext_keepT s _ _ ha, hd.ext s, ext_keepT s _ _ hb, ok⟩
open LamX in
theorem Cup.ext {H H' : Hp} {c : Addr} (s : ExtN H H') (h : Cup H c) : Cup H' c := let ⟨a, b, d, e⟩ := h; ⟨a, b, d, s _ _ e fun ps z => nomatch z⟩
/-- all but the tables and what stands at c stays -/
def ButN (c : Addr) (H H' : Hp) : Prop := ∀ b o, b ≠ c → H b = some o → (∀ ps, o ≠ .tbl ps) → H' b = some o
theorem ButN.trans {c : Addr} {H H1 H2 : Hp} (a : ButN c H H1) (b : ButN c H1 H2) : ButN c H H2 := fun x o n e t => b x o n (a x o n e t) t
theorem ButN.of {c : Addr} {H H' : Hp} (b : But c H H') : ButN c H H' := fun x o n e _ => b x o n e
open LamX in
theorem ButN.ext {c : Addr} {H H' : Hp} (s : ExtN H H') : ButN c H H' := fun x o _ e t => s x o e t
open LamX in
theorem tabs_but {T : List (Addr × Str)} {c : Addr} {H H' : Hp} (hc : Cup H c) (b : But c H H') (h : Tabs T H) : Tabs T H' := fun p hp => by
  obtain ⟨a0, a1, a2, ec⟩ := hc
  obtain ⟨ps, e, tr, kn⟩ := h p hp
  refine ⟨ps, b _ _ (fun z => by rw [z, ec] at e; cases e) e, tr, fun pos cv h => ?_⟩
  obtain ⟨c', e1, e2⟩ := kn pos cv h
  exact ⟨c', e1, b _ _ (fun z => by rw [z, ec] at e2; cases e2) e2⟩
end K16

set_option Elab.async false
set_option linter.all false
set_option maxRecDepth 100000
set_option maxHeartbeats 6400000
namespace K16
open PySem L2 Tx Tg Tm Da RZ
/-- the lambda's full name -/
abbrev qLam : Str := ("_law_right" : Str) ++ ".<locals>." ++ "<lambda>"
abbrev nRight : List Str := ["_law_cup_here", "_law_signs_here", "_law_kind_here", "_law_bare_here", "_law_made", "_law_wide", "_law_deep", "_law_turn", "_law_line_here", "_law_due", "_law_pieces", "_law_some", "_law_out", "_law_piece"]
def spRight (Pt : Addr) : Sp := fun vs H Q _ => ∃ (c : Addr), vs = [.ref c] ∧ Cup H c ∧ LamX.Tabs [(Pt, qLam)] H ∧ ∀ H', ButN c H H' → Cup H' c → LamX.Tabs [(Pt, qLam)] H' → Q (.bl true) H'
theorem scRight : FnScope nRight ["_law_cup_here"] (defScope sRight) := ⟨rfl, rfl, rfl, by decide +kernel, rfl, by decide +kernel, by decide +kernel⟩
section
variable {P : Program} {w : World} {K : PySem.W.Frag} {mg : Str → Option Value} {base : Heap} {CM CT fAt fS fKi fR fL fBr fMd fN fWg fSm fPk fWo fSo fSd : Addr} {dAt dS dKi dR dL dBr dMd dN dWg dSm dPk dWo dSo dSd : FuncData}
structure Up (P : Program) (w : World) (K : PySem.W.Frag) (mg : Str → Option Value) (base : Heap) (CM CT fAt fS fKi fR fL fBr fMd fN fWg fSm fPk fWo fSo fSd : Addr) (dAt dS dKi dR dL dBr dMd dN dWg dSm dPk dWo dSo dSd : FuncData) : Prop where
  W0 : WT K mg CM CT
  At : MthD P w K mg base CT 6 "at" ["self", "text"] (spAt CT) fAt dAt
  DS : Df K mg "_law_signs" sSigns ["_law_cup_here"] fS dS
  DK : Df K mg "_law_kind" sKind ["_law_cup_here"] fKi dKi
  DR : Df K mg "_law_rest" sLRest ["_law_much", "_law_kind_here"] fR dR
  DL : Df K mg "_law_line" sLine ["_law_cup_here", "_law_signs_here", "_law_most"] fL dL
  DBr : Df K mg "_law_bare" sBare ["_law_cup_here", "_law_signs_here", "_law_most", "_law_kind_here"] fBr dBr
  DMd : Df K mg "_law_made_tally" sMadeT ["_law_signs_here", "_law_bare_here"] fMd dMd
  DN : Df K mg "_law_num_of" sNumOf ["_law_bare_here", "_law_line_here"] fN dN
  DWg : Df K mg "weighed" sWeighed ["tally"] fWg dWg
  DSm : Df K mg "summed" sSummed ["tally"] fSm dSm
  DPk : Df K mg "_law_picks" sPicks ["_law_line_here"] fPk dPk
  DWo : Df K mg "_law_weight_of" sWeightOf ["_law_call", "_law_line_here"] fWo dWo
  DSo : Df K mg "_law_sum_of_picks" sSumOf ["_law_bare_here", "_law_line_here"] fSo dSo
  DSd : Df K mg "_law_spread" sSpread ["_law_line_here", "_law_piece"] fSd dSd
  GS : FnOk P w K mg base CX0 3 fS dS ["_law_cup_here"] spSigns
  GK : FnOk P w K mg base CX0 3 fKi dKi ["_law_cup_here"] spKind
  GR : FnOk P w K mg base CX0 1 fR dR ["_law_much", "_law_kind_here"] spLRest
  GL : FnOk P w K mg base CX0 3 fL dL ["_law_cup_here", "_law_signs_here", "_law_most"] spLine
  GBr : FnOk P w K mg base CX0 4 fBr dBr ["_law_cup_here", "_law_signs_here", "_law_most", "_law_kind_here"] spBare
  GMd : FnOk P w K mg base CX0 8 fMd dMd ["_law_signs_here", "_law_bare_here"] (spMadeT CT)
  GN : FnOk P w K mg base CX0 2 fN dN ["_law_bare_here", "_law_line_here"] spNum
  GWg : FnOk P w K mg base CX0 9 fWg dWg ["tally"] (spBy CT (-1))
  GSm : FnOk P w K mg base CX0 9 fSm dSm ["tally"] (spBy CT 1)
  GPk : FnOk P w K mg base CX0 1 fPk dPk ["_law_line_here"] spPicks
  GWo : FnOk P w K mg base CX0 5 fWo dWo ["_law_call", "_law_line_here"] (spWeight P w K mg base)
  GSo : FnOk P w K mg base CX0 3 fSo dSo ["_law_bare_here", "_law_line_here"] spSumOf
  GSd : FnOk P w K mg base CX0 1 fSd dSd ["_law_line_here", "_law_piece"] spSpread
theorem keepN {L : Lp.Pins} {f : Addr} {fo : Obj} {H H' : Hp} (nf : H f = none) (cl : Lp.Clear L (upd H f (Lp.PinO fo))) (s : Same (Lp.pin L (upd H f (Lp.PinO fo))) H') : Same H (Lp.unp ((f, fo) :: L) H') := fun b o e => by
  have bf : b ≠ f := ne_of_none e nf
  have e2 : (upd H f (Lp.PinO fo)) b = some o := by rw [upd_ne bf]; exact e
  have e3 := s _ _ (Lp.pin_some cl e2)
  have lb : L.lookup b = none := Lp.off_c cl e2
  rw [Lp.unp_off]
  · exact e3
  · rw [List.lookup_cons, beq_eq_false_iff_ne.mpr bf]
    exact lb
theorem ints_shapedL (l : List Int) : SeqAt.shaped (.list (intsD l)) = true := by
  have h := ints_shaped l
  exact h
theorem cnt_le (y : List Nat) (F : List Ty.Pk) : Ty.cnt y F ≤ F.length := by
  unfold Ty.cnt
  exact Nat.le_trans List.count_le_length (by rw [List.length_map]; exact Nat.le_refl _)
theorem ok_right {f cR Pt : Addr} {fd : FuncData} (F : Lp.FunC K "_law_right" sRight f fd cR) (TB : LamX.TabB base mg cR Pt) (T : Txt K mg) (U : Up P w K mg base CM CT fAt fS fKi fR fL fBr fMd fN fWg fSm fPk fWo fSo fSd dAt dS dKi dR dL dBr dMd dN dWg dSm dPk dWo dSo dSd) : FnOk P w K mg base CX0 11 f fd ["_law_cup_here"] (spRight Pt) := by
  obtain ⟨W0, At, DS, DK, DR, DL, DBr, DMd, DN, DWg, DSm, DPk, DWo, DSo, DSd, GS, GK, GR, GL, GBr, GMd, GN, GWg, GSm, GPk, GWo, GSo, GSd⟩ := U
  refine F.ok scRight (fun vs H Q E h => ?_) (fun A outer s H vs Q E hr h => ?_)
  · obtain ⟨c, rfl, _⟩ := h
    rfl
  · obtain ⟨c, rfl, hc, hT, q⟩ := h
    have hu := hu_of hr
    refine ⟨_, (pss_cons (ps_par (i := 1) (j := 2) (by rfl) scRight.nd rfl rfl (by decide) rfl rfl (pa_cons (pe_call GS (hr.mono (by decide)) (by rfl) DS.m DS.F.kp DS.b .nil pass0 (pa_cons (pv 0) pa_nil)) (pa_cons (pe_call GK (hr.mono (by decide)) (by rfl) DK.m DK.F.kp DK.b .nil pass0 (pa_cons (pv 0) pa_nil)) pa_nil)) (by rfl))
    (pss_cons (ps_set (i := 3) scRight.nd rfl (Or.inr rfl) (pe_call GBr (hr.mono (by decide)) (by rfl) DBr.m DBr.F.kp DBr.b .nil pass0 (pa_cons (pv 0) (pa_cons (pv 1) (pa_cons pe_int (pa_cons (pv 2) pa_nil))))))
    (pss_cons (ps_set (i := 4) scRight.nd rfl (Or.inl rfl) (pe_call GMd (hr.mono (by decide)) (by rfl) DMd.m DMd.F.kp DMd.b .nil pass0 (pa_cons (pv 1) (pa_cons (pv 3) pa_nil))))
    (pss_cons (ps_asg (pe_tup (pa_cons (pe_call GWg (hr.mono (by decide)) (by rfl) DWg.m DWg.F.kp DWg.b .nil pass0 (pa_cons (pv 4) pa_nil)) (pa_cons (pe_call GSm (hr.mono (by decide)) (by rfl) DSm.m DSm.F.kp DSm.b .nil pass0 (pa_cons (pv 4) pa_nil)) pa_nil))) (pg_tup rfl (pgs_cons (pg_name (i := 5) scRight.nd rfl (Or.inr rfl)) (pgs_cons (pg_name (i := 6) scRight.nd rfl (Or.inl rfl)) pgs_nil))))
    (pss_cons (ps_for PassesOwn.never rfl (pi_range1 rfl T.range (pa_cons pe_int pa_nil)) (pg_name (i := 7) scRight.nd rfl (Or.inl rfl))
      (pss_cons (ps_set (i := 8) scRight.nd rfl (Or.inr rfl) (pe_call GL (hr.mono (by decide)) (by rfl) DL.m DL.F.kp DL.b .nil pass0 (pa_cons (pv 0) (pa_cons (pv 1) (pa_cons pe_int pa_nil)))))
      (pss_cons (ps_if (pt_cmpR op_ne (pe_callB Lp.cr_reprI (by rfl) T.repr (by decide +kernel) (pa_cons (pe_meth (pv 5) W0.clT At.m At.g (hr.mono (by decide)) At.b .nil pass0 (pa_cons (pv 8) pa_nil)) pa_nil)) (pe_callB Lp.cr_reprI (by rfl) T.repr (by decide +kernel) (pa_cons (pe_call GR (hr.mono (by decide)) (by rfl) DR.m DR.F.kp DR.b .nil pass0 (pa_cons (Lp.pe_callp GWo (hr.mono (by decide)) (by rfl) DWo.m DWo.F.kp DWo.b (fun _ => rfl) (pa_cons (Lp.pe_lam (T := [(Pt, qLam)]) (Lp.lamS1_by (sc := defScope sRight) (a := "_law_some") (by decide +kernel)) TB rfl (List.mem_singleton.mpr rfl) (fun p hp _ => congrArg Prod.snd (List.mem_singleton.mp hp))) (pa_cons (pv 8) pa_nil))) (pa_cons (pv 2) pa_nil))) pa_nil)) (nomark _)) (pss_one (ps_ret pe_bl)) pss_nil)
      (pss_cons (ps_if (pt_cmpR op_ne (pe_callB Lp.cr_reprI (by rfl) T.repr (by decide +kernel) (pa_cons (pe_meth (pv 6) W0.clT At.m At.g (hr.mono (by decide)) At.b .nil pass0 (pa_cons (pv 8) pa_nil)) pa_nil)) (pe_callB Lp.cr_reprI (by rfl) T.repr (by decide +kernel) (pa_cons (pe_call GR (hr.mono (by decide)) (by rfl) DR.m DR.F.kp DR.b .nil pass0 (pa_cons (pe_call GSo (hr.mono (by decide)) (by rfl) DSo.m DSo.F.kp DSo.b .nil pass0 (pa_cons (pv 3) (pa_cons (pv 8) pa_nil))) (pa_cons (pv 2) pa_nil))) pa_nil)) (nomark _)) (pss_one (ps_ret pe_bl)) pss_nil)
      (pss_cons (ps_set (i := 9) scRight.nd rfl (Or.inl rfl) (pe_call GN (hr.mono (by decide)) (by rfl) DN.m DN.F.kp DN.b .nil pass0 (pa_cons (pv 3) (pa_cons (pv 8) pa_nil))))
      (pss_cons (ps_if (pt_cmpR (op_neD hr.units) (pe_lst (pa_cons (pe_meth (pe_call GSm (hr.mono (by decide)) (by rfl) DSm.m DSm.F.kp DSm.b .nil pass0 (pa_cons (pv 5) pa_nil)) W0.clT At.m At.g (hr.mono (by decide)) At.b .nil pass0 (pa_cons (pv 8) pa_nil)) (pa_cons (pe_meth (pe_call GWg (hr.mono (by decide)) (by rfl) DWg.m DWg.F.kp DWg.b .nil pass0 (pa_cons (pv 6) pa_nil)) W0.clT At.m At.g (hr.mono (by decide)) At.b .nil pass0 (pa_cons (pv 8) pa_nil)) pa_nil))) (pe_lst (pa_cons (pv 9) (pa_cons (pv 9) pa_nil))) (nomark _)) (pss_one (ps_ret pe_bl)) pss_nil)
      (pss_cons (ps_set (i := 10) scRight.nd rfl (Or.inl rfl) (pe_callB (cr_sortSS rfl) (by rfl) T.sorted (by decide +kernel) (pa_cons (pe_callTy (cr_setLs rfl) (by rfl) T.set (by decide +kernel) (pa_cons (pe_lc (own := [("_law_some", 11), ("_law_out", 12)]) (g := (gTup K 2 (gCons (gName 11) (gCons (gName 12) gNil)))) (tt := tYes)  rfl scRight.nd (pi_list (pe_call GPk (hr.mono (by decide)) (by rfl) DPk.m DPk.F.kp DPk.b .nil pass0 (pa_cons (pv 8) pa_nil))) (blkOk_by (own := [("_law_some", 11), ("_law_out", 12)]) (N := nRight) (sc := defScope sRight) (by decide +kernel)) (fun _ _ _ _ _ => (pg_tup rfl (pgs_cons (pg_name (i := 11) scRight.nd rfl (Or.inl rfl)) (pgs_cons (pg_name (i := 12) scRight.nd rfl (Or.inl rfl)) pgs_nil)))) (fun _ _ _ _ _ => pts_nil) (fun _ _ _ _ _ => (pv 11))) pa_nil)) pa_nil)))
      (pss_one (ps_if (pt_cmpR op_ne (pe_call GR (hr.mono (by decide)) (by rfl) DR.m DR.F.kp DR.b .nil pass0 (pa_cons (pe_callB (cr_sum rfl) (by rfl) T.sum (by decide +kernel) (pa_cons (pe_lc (own := [("_law_piece", 13)]) (g := (gName 13)) (tt := tYes) (te := tOp (rI CMul fun i j => .int (i * j)) (tMeth CT "at" (spAt CT) [] E0 (tVar 5) (tCons (tVar 13) tNil)) (tCall spSpread [] E0 (tCons (tVar 8) (tCons (tVar 13) tNil))))  rfl scRight.nd (pi_list (pv 10)) (blkOk_by (own := [("_law_piece", 13)]) (N := nRight) (sc := defScope sRight) (by decide +kernel)) (fun _ _ _ _ _ => (pg_name (i := 13) scRight.nd rfl (Or.inl rfl))) (fun _ _ _ _ _ => pts_nil) (fun _ _ _ _ _ => (pe_op op_mul (pe_meth (pv 5) W0.clT At.m At.g (hr.mono (by decide)) At.b .nil pass0 (pa_cons (pv 13) pa_nil)) (pe_call GSd (hr.mono (by decide)) (by rfl) DSd.m DSd.F.kp DSd.b .nil pass0 (pa_cons (pv 8) (pa_cons (pv 13) pa_nil)))))) pa_nil)) (pa_cons (pv 2) pa_nil))) (pv 9) (nomark _)) (pss_one (ps_ret pe_bl)) pss_nil)))))))))
    (pss_one (ps_ret pe_bl))))))), ?_⟩
    refine ⟨_, rfl, c, rfl, hc, fun sg H1 hsg hc1 b1 => ⟨_, rfl, c, rfl, hc1, fun p H2 hp hc2 b2 => ⟨_, _, rfl, ?_⟩⟩⟩
    have T2 := tabs_but hc1 b2 (tabs_but hc b1 hT)
    have b02 := ButN.of (b1.trans b2)
    clear b1 b2 hT hc1
    dsimp only [tSeq, gName]
    refine ⟨_, rfl, _, rfl, _, rfl, c, sg, p, rfl, hc2, hsg, hp, fun P1 t H3 hP1 et ept hc3 b3 => ?_⟩
    subst et
    subst ept
    have okt := hP1.ok
    have sml := hP1.sml
    have n9 : t.n ≤ 9 := Nat.le_trans sml.n3 (by decide)
    refine ⟨_, rfl, _, rfl, P1, t, rfl, hP1, fun x H4 s4 hx => ?_⟩
    refine ⟨_, rfl, x, t, rfl, hx, n9, fun y1 H5 s5 h5 => ⟨_, rfl, x, t, rfl, hx.same s5, n9, fun y2 H6 s6 h6 => ⟨(by show 2 ≤ sizeLine; decide), fun tp ntp => ⟨tp, _, rfl, SqT.of upd_same, rfl, _, _, rfl, _, _, rfl, rfl, ?_⟩⟩⟩⟩
    have s56 := s6.trans (same_upd (o := .tup [V.ref y1, V.ref y2]) ntp)
    have s46 := s5.trans s56
    have s36 := s4.trans s46
    have R1 := rdy_rais (.inr rfl) okt sml (h5.same s56)
    have R2 := rdy_rais (.inl rfl) okt sml (h6.same (same_upd (o := .tup [V.ref y1, V.ref y2]) ntp))
    have hP6 := hP1.same s36
    have hc6 := hc3.same s36
    have T6 := (tabs_but hc2 b3 T2).ext s36
    have b06 := (b02.trans (ButN.of b3)).trans (ButN.of (But.of s36))
    generalize upd H6 tp (.tup [V.ref y1, V.ref y2]) = H7 at R1 R2 hP6 hc6 T6 b06 ⊢
    clear s56 s46 s36 h5 h6 ntp s6 s5 s4 hx hP1 hc3 b3 T2 b02 hc2
    have oD := R1.at_.ok
    have oS := R2.at_.ok
    refine ⟨_, rfl, by decide, by decide, for_range (n := _) (fun i σ H8 => ∃ u7 u8 u9 u10 : Option V, σ = [some (.ref c), some (.str t.sg), some (pV t.p), some (.ref P1), some (.ref x), some (.ref y1), some (.ref y2), u7, u8, u9, u10, none, none, none] ∧ Cup H8 c ∧ ButN c H H8 ∧ LamX.Tabs [(Pt, qLam)] H8 ∧ Rdy CT H8 y1 (raisT (-1) t) ∧ Rdy CT H8 y2 (raisT 1 t) ∧ BareAt H8 P1 t) ⟨none, none, none, none, rfl, hc6, b06, T6, R1, R2, hP6⟩ ?_ ?_⟩
    · rintro k σ H8 hk ⟨u7, u8, u9, u10, rfl, hc8, b08, T8, R1, R2, hP8⟩
      clear hP6 hc6 T6 b06
      dsimp only [tSeq, gName]
      refine ⟨_, rfl, _, rfl, c, t.sg, 4, rfl, hc8, okt.sg, by decide, fun z H9 hz lz hc9 b9 => ?_⟩
      have R1 := R1.but hc8 b9
      have R2 := R2.but hc8 b9
      have hP9 := hP8.but hc8 b9
      have T9 := tabs_but hc8 b9 T8
      have b09 := b08.trans (ButN.of b9)
      clear hP8 T8 b08 b9 hc8
      have lz100 : z.length ≤ 100 := Nat.le_trans lz (by decide)
      dsimp only [gName]
      obtain ⟨d1, _, _, _, e1, _⟩ := id R1.at_
      refine ⟨_, rfl, y1, d1, _, rfl, e1, rfl, _, rfl, y1, _, z, rfl, R1.at_, R1.M, R1.n9, R1.few, hz, lz100, fun H10 s10 => ?_⟩
      have lz4 : (cds z).length ≤ 4 := lz
      have few := picks_few lz4
      have sh1 := (int_short (numR_bd (.inr rfl) okt sml hz lz oD)).1
      have sh2 := (int_short (numR_bd (.inl rfl) okt sml hz lz oS)).1
      refine ⟨_, rfl, sh1, ?_⟩
      refine ⟨T9.ext s10, fun H11 e11 T11 fl fo cl nf11 nf10 hl hco => ?_⟩
      refine ⟨_, rfl, fun L SA => ?_⟩
      have eF : (upd H11 fl (Lp.PinO fo)) fl = some (Lp.PinO fo) := upd_same
      have C := SA.at eF
      have LK := Lp.lam_ok (k := 2) (j := 11) (a := "_law_some") C hl (Lp.lamS1_by (sc := defScope sRight) (a := "_law_some") (by decide +kernel)) scRight.nd rfl (fun _ _ _ _ _ _ => rfl) (fun A' outer' s' H' hr' => pe_call GN (hr'.mono (by decide)) (by rfl) DN.m DN.F.kp DN.b .nil pass0 (pa_cons (pv 3) (pa_cons (pv 11) pa_nil)))
      have hco12 : (upd H11 fl (Lp.PinO fo)) cl = some (LamX.CodeO cl qLam) := same_upd nf11 _ _ hco
      have hP11 := (hP9.same s10).ext e11
      refine ⟨fl, (fl, fo) :: L, cl, _, _, z, fun s => numT t (mkS s), rfl, LK, ⟨Lp.pinned_cons SA.clear eF, Lp.pin_some SA.clear hco12⟩, lz, fun y H13 QQ s13 hy hQ => ?_, fun H13 s13 => ?_⟩
      · exact ⟨_, rfl, _, rfl, _, rfl, P1, t, y, rfl, hP11.same (keepN nf11 SA.clear s13), fun d hd => hz d (hy d hd), fun H14 s14 => hQ H14 s14⟩
      have s14 := (same_upd (o := Lp.PinO fo) nf11).trans (Lp.same_unp SA.clear s13)
      dsimp only
      generalize Lp.unp L H13 = H14 at s14 ⊢
      clear LK C eF SA hco12 hl hco
      have x914 := (LamX.ExtN.of s10).trans (e11.trans (LamX.ExtN.of s14))
      have T14 := T11.ext s14
      have R1 := R1.ext x914
      have R2 := R2.ext x914
      have hP14 := hP9.ext x914
      have hc14 := hc9.ext x914
      have b14 := b09.trans (ButN.ext x914)
      clear x914 s14 hP11 T11 e11 s10 e1 b09 hc9 hP9 T9
      refine ⟨_, rfl, _, t.p, rfl, okt.pr, ?_⟩
      rw [numT_own okt hz oD]
      refine ⟨_, rfl, sh1, rfl, _, rfl, ne_if ?_⟩
      obtain ⟨d2, _, _, _, e2, _⟩ := id R2.at_
      refine ⟨_, rfl, y2, d2, _, rfl, e2, rfl, _, rfl, y2, _, z, rfl, R2.at_, R2.M, R2.n9, R2.few, hz, lz100, fun H15 s15 => ?_⟩
      refine ⟨_, rfl, sh2, ?_⟩
      refine ⟨_, rfl, _, rfl, P1, t, z, rfl, hP14.same s15, hz, lz, fun H16 s16 => ?_⟩
      refine ⟨_, rfl, _, t.p, rfl, okt.pr, ?_⟩
      rw [numT_own okt hz oS]
      refine ⟨_, rfl, sh2, rfl, _, rfl, ne_if ?_⟩
      have s1416 := s15.trans s16
      refine ⟨_, rfl, _, rfl, P1, t, z, rfl, hP14.same s1416, hz, fun H17 s17 => ?_⟩
      have s1417 := s1416.trans s17
      dsimp only [gName]
      have R1 := R1.same s1417
      have R2 := R2.same s1417
      refine ⟨_, rfl, y1, _, rfl, R1.at_, n9, fun w1 H18 s18 h18 => ?_⟩
      have G1 := rdy_rais2 (.inl rfl) (.inr rfl) okt sml oD h18
      refine G1.go rfl hz lz100 fun H19 s19 => ?_
      rw [numT_there (by decide) okt hz oD h18.ok]
      have s1719 := s18.trans s19
      refine ⟨_, rfl, y2, _, rfl, R2.at_.same s1719, n9, fun w2 H20 s20 h20 => ?_⟩
      have G2 := rdy_rais2 (.inr rfl) (.inl rfl) okt sml oS h20
      refine G2.go rfl hz lz100 fun H21 s21 => ?_
      rw [numT_there (by decide) okt hz oS h20.ok]
      have s1721 := (s1719.trans s20).trans s21
      refine ⟨(by show 2 ≤ sizeLine; decide), fun M1 nM1 => ?_⟩
      have s22 := same_upd (o := .lst [V.int (numT t z), .int (numT t z)]) nM1
      have e22 : (upd H21 M1 (.lst [V.int (numT t z), .int (numT t z)])) M1 = some (.lst (intsV [numT t z, numT t z])) := upd_same
      generalize upd H21 M1 (.lst [V.int (numT t z), .int (numT t z)]) = H22 at s22 e22 ⊢
      have s1722 := s1721.trans s22
      refine ⟨_, rfl, _, rfl, (by show 2 ≤ sizeLine; decide), fun M2 nM2 => ?_⟩
      have s23 := same_upd (o := .lst [V.int (numT t z), .int (numT t z)]) nM2
      have e23 : (upd H22 M2 (.lst [V.int (numT t z), .int (numT t z)])) M2 = some (.lst (intsV [numT t z, numT t z])) := upd_same
      have e22 := s23 _ _ e22
      generalize upd H22 M2 (.lst [V.int (numT t z), .int (numT t z)]) = H23 at s23 e22 e23 ⊢
      have s1723 := s1722.trans s23
      refine ⟨.list (intsD [numT t z, numT t z]), .list (intsD [numT t z, numT t z]), .lst (SqL.of e22) (ints_dp _ _ _), .lst (SqL.of e23) (ints_dp _ _ _), ints_shapedL _, ints_shapedL _, _, rfl, ?_⟩
      have ev : PyData.eqv (.list (intsD [numT t z, numT t z])) (.list (intsD [numT t z, numT t z])) = true := by
        show PyData.eqvAll (intsD [numT t z, numT t z]) (intsD [numT t z, numT t z]) = true
        rw [ints_eqv]
        exact decide_eq_true rfl
      rw [ev]
      refine iteF ?_
      have R1 := R1.same s1723
      have R2 := R2.same s1723
      have s1423 := s1417.trans s1723
      have hP23 := hP14.same s1423
      have hc23 := hc14.same s1423
      have T23 := T14.ext s1423
      have b23 := b14.trans (ButN.of (But.of s1423))
      clear e22 e23 ev s23 s1723 s22 s1722 nM2 nM1 s1721 s1719 G1 G2 h18 h20 s18 s19 s20 s21 s1417 s1416 s15 s16 s17 e2 s1423 hP14 hc14 T14 b14
      refine ⟨_, rfl, z, rfl, lz, fun LP ps H24 s24 hL => ⟨LP, rfl, ⟨_, SqL.of hL.lst⟩, fun D nD => ?_⟩⟩
      have osub := over_pick hz
      have lsub : ∀ s ∈ Ty.picks (cds z), (mkS s.1).length ≤ 4 := fun s hs => by
        rw [mk_len]
        have := (Ty.picks_sub hs).1
        omega
      have nsum := fun ss => numT_sum (ss := ss) okt hz oD
      have cle := fun y => cnt_le y (Ty.picks (cds z))
      generalize hG : Ty.picks (cds z) = G at hL few osub lsub nsum cle
      refine Lc.lcPS (ys := (G.map fun s => mkS s.1).map V.str) hL nD (by rw [List.length_map, List.length_map, List.length_map]) (by rw [List.length_map]; exact Nat.lt_of_le_of_lt few (by decide)) (fun _ _ => rfl) ?_ ?_
      · intro i u y H25 hu hy s25 Q' q'
        have hi := (List.getElem?_eq_some_iff.mp hu).1
        rw [List.length_map] at hi
        rw [List.getElem?_map, List.getElem?_eq_getElem hi] at hu
        rw [List.getElem?_map, List.getElem?_map, List.getElem?_eq_getElem hi] at hy
        cases hu
        cases hy
        exact ⟨_, rfl, q' H25 (Same.refl _)⟩
      intro H25 s25 e25
      have lm := metS_len (G.map fun s => mkS s.1) []
      rw [List.length_map] at lm
      have lm2 : (metS [] (G.map fun s => mkS s.1)).length ≤ 16 := by
        have : ([] : List Str).length = 0 := rfl
        omega
      refine ⟨D, _, rfl, e25, Nat.lt_of_le_of_lt lm2 (by decide), fun A1 n1 => ?_⟩
      refine ⟨A1, _, rfl, upd_same, Nat.lt_of_le_of_lt lm2 (by decide), fun A2 ss n2 pm srt => ?_⟩
      have nds : ss.Nodup := pm.nodup_iff.mpr (metS_nodup _ _ List.nodup_nil)
      have mem : ∀ y, y ∈ ss ↔ y ∈ G.map fun s => mkS s.1 := fun y => by
        rw [pm.mem_iff, metS_mem]
        simp
      have lss : ss.length ≤ 16 := by rw [pm.length_eq]; exact lm2
      have n2 : (upd H25 A1 (SS w A1 (metS [] (G.map fun s : Ty.Pk => mkS s.1)))) A2 = none := n2
      have s26 := (same_upd (o := SS w A1 (metS [] (G.map fun s : Ty.Pk => mkS s.1))) n1).trans (same_upd (o := .lst (ss.map V.str)) n2)
      have e26 : (upd (upd H25 A1 (SS w A1 (metS [] (G.map fun s : Ty.Pk => mkS s.1)))) A2 (.lst (ss.map V.str))) A2 = some (.lst (ss.map V.str)) := upd_same
      dsimp only [gName]
      have s2326 := (s24.trans s25).trans s26
      have R1 := R1.same s2326
      have R2 := R2.same s2326
      have hP26 := hP23.same s2326
      have hc26 := hc23.same s2326
      have T26 := T23.ext s2326
      have b26 := b23.trans (ButN.of (But.of s2326))
      clear s2326 s26 hP23 hc23 T23 b23
      refine ⟨_, rfl, A2, rfl, ⟨_, SqL.of e26⟩, fun D2 nD2 => ?_⟩
      refine Lc.lcLS (ys := intsV (ss.map fun y => numT (raisT (-1) t) y * (Ty.cnt (cds y) G : Int))) (SqL.of e26) (fun H2 s => SqL.of (s _ _ e26)) nD2 (by rw [List.length_map, List.length_map, List.length_map]) (by rw [List.length_map]; exact Nat.lt_of_le_of_lt lss (by decide)) (fun _ => rfl) ?_ ?_
      · intro i u y H27 hu hy s27 Q' q'
        have hi := (List.getElem?_eq_some_iff.mp hu).1
        rw [List.length_map] at hi
        rw [List.getElem?_map, List.getElem?_eq_getElem hi] at hu
        rw [List.getElem?_map, List.getElem?_map, List.getElem?_eq_getElem hi] at hy
        cases hu
        cases hy
        obtain ⟨s0, hs0, es0⟩ := List.mem_map.mp ((mem _).mp (List.getElem_mem hi))
        have ov := osub s0 hs0
        have ll := lsub s0 hs0
        rw [es0] at ov ll
        have R1 := R1.same s27
        obtain ⟨d1, _, _, _, e1, _⟩ := id R1.at_
        refine ⟨_, rfl, y1, d1, _, rfl, e1, rfl, _, rfl, y1, _, ss[i], rfl, R1.at_, R1.M, R1.n9, R1.few, ov, Nat.le_trans ll (by decide), fun H28 s28 => ?_⟩
        refine ⟨_, rfl, _, rfl, z, ss[i], rfl, lz, ll, fun H29 s29 => ?_⟩
        rw [hG]
        have cl := cle (cds ss[i])
        exact ⟨_, _, rfl, rfl, .inr ⟨by omega, by omega⟩, q' H29 (s28.trans s29)⟩
      · intro H27 s27 e27
        refine ⟨D2, _, rfl, SqL.of e27, _, rfl, _, t.p, rfl, okt.pr, ?_⟩
        rw [nsum ss nds mem]
        refine ⟨_, rfl, rfl, _, rfl, ne_if ?_⟩
        exact ⟨_, _, _, _, rfl, hc26.same s27, b26.trans (ButN.of (But.of s27)), T26.ext s27, R1.same s27, R2.same s27, hP26.same s27⟩
    · rintro σ H8 ⟨u7, u8, u9, u10, rfl, hc8, b08, T8, _⟩
      exact q H8 b08 hc8 T8
end
end K16

set_option Elab.async false
set_option linter.all false
set_option maxRecDepth 100000
set_option maxHeartbeats 6400000
namespace K16
open PySem L2 Tx Tg Tm Da RZ
abbrev nLaw : List Str := ["_law_script", "_law_at"]
def spLaw (K : PySem.W.Frag) (Pt : Addr) : Sp := fun vs H Q _ => ∃ (a : Addr) (ns : List Int), vs = [.ref a] ∧ SqL K H a (ns.map V.int) ∧ ns.length ≤ 63 ∧ LamX.Tabs [(Pt, qLam)] H ∧ ∀ H', Q (.bl true) H'
theorem scLaw : FnScope nLaw ["_law_script"] (defScope sLaw) := ⟨rfl, rfl, rfl, by decide +kernel, rfl, by decide +kernel, by decide +kernel⟩
/-- a list of the script stays where all but the tables stays -/
theorem seq_ext {K : PySem.W.Frag} {H H' : Hp} {a : Addr} {xs : List V} (s : LamX.ExtN H H') (h : SqL K H a xs) : SqL K H' a xs := by
  rcases h with (e | ⟨o, e⟩) | r
  · exact .inl (.inl (s _ _ e fun ps z => nomatch z))
  · exact .inl (.inr ⟨o, s _ _ e fun ps z => nomatch z⟩)
  · exact .inr r
section
variable {P : Program} {w : World} {K : PySem.W.Frag} {mg : Str → Option Value} {base : Heap}
theorem ok_law {f fC fT Pt : Addr} {fd dC dT : FuncData} (F : Fun K "law" "law" sLaw f fd) (T : Txt K mg)
    (DC : Df K mg "_law_cup" sCup ["_law_script", "_law_at"] fC dC) (DT : Df K mg "_law_right" sRight ["_law_cup_here"] fT dT)
    (GC : FnOk P w K mg base CX0 1 fC dC ["_law_script", "_law_at"] (spCup K)) (GT : FnOk P w K mg base CX0 11 fT dT ["_law_cup_here"] (spRight Pt)) :
    FnOk P w K mg base CX0 12 f fd ["_law_script"] (spLaw K Pt) := by
  refine F.ok scLaw (fun vs H Q E h => ?_) (fun cdv A outer s H vs Q E hr h => ?_)
  · obtain ⟨a, ns, rfl, _⟩ := h
    rfl
  · obtain ⟨a, ns, rfl, hS, hlen, hT, q⟩ := h
    refine ⟨_, (pss_cons (ps_for PassesOwn.never rfl (pi_range1 rfl T.range (pa_cons (pe_callB (call_max2 rfl) (by rfl) T.max (by decide +kernel) (pa_cons pe_int (pa_cons (pe_callB (call_min2 rfl) (by rfl) T.min (by decide +kernel) (pa_cons pe_int (pa_cons (pe_callB call_len (by rfl) T.len PySem.boot_len (pa_cons (pv 0) pa_nil)) pa_nil))) pa_nil))) pa_nil)) (pg_name (i := 1) scLaw.nd rfl (Or.inl rfl))
      (pss_one (ps_if (pt_not (pt_val (pe_call GT (hr.mono (by decide)) (by rfl) DT.m DT.F.kp DT.b .nil pass0 (pa_cons (pe_call GC (hr.mono (by decide)) (by rfl) DC.m DC.F.kp DC.b .nil pass0 (pa_cons (pv 0) (pa_cons (pv 1) pa_nil))) pa_nil)))) (pss_one (ps_ret pe_bl)) pss_nil)))
    (pss_one (ps_ret pe_bl))), ?_⟩
    have bj : ∀ n : Int, 0 ≤ n → n ≤ 63 → (-(2 ^ 62) ≤ (if (if n < 8 then n else 8) > 1 then (if n < 8 then n else 8) else 1) ∧ (if (if n < 8 then n else 8) > 1 then (if n < 8 then n else 8) else 1) < 2 ^ 62) ∧ (if (if n < 8 then n else 8) > 1 then (if n < 8 then n else 8) else (1 : Int)).toNat ≤ 8 := by
      intro n h0 h1
      repeat' split
      all_goals omega
    obtain ⟨⟨bj1, bj2⟩, bj3⟩ := bj ns.length (by omega) (by omega)
    refine ⟨_, rfl, _, ns.length, rfl, .inl ⟨_, hS, by rw [List.length_map]⟩, _, _, rfl, _, _, rfl, _, rfl, bj1, bj2, for_range (n := _) (fun i σ H1 => ∃ u1 : Option V, σ = [some (.ref a), u1] ∧ SqL K H1 a (ns.map V.int) ∧ LamX.Tabs [(Pt, qLam)] H1)
      ⟨none, rfl, hS, hT⟩ ?_ ?_⟩
    · rintro k σ H1 hk ⟨u1, rfl, hS1, hT1⟩
      have hk3 : k < 8 := Nat.lt_of_lt_of_le hk bj3
      refine ⟨_, rfl, _, rfl, a, ns, k, congrArg (fun z => [V.ref a, V.int z]) (Int.zero_add _), hS1, hlen, by omega, fun c H2 nc s2 hc2 => ?_⟩
      refine ⟨c, rfl, hc2, hT1.ext s2, fun H3 b3 hc3 hT3 => ⟨_, rfl, iteF ?_⟩⟩
      refine ⟨_, rfl, ?_, hT3⟩
      refine seq_ext (H := H1) (fun b o e t => ?_) hS1
      exact b3 _ _ (ne_of_none e nc) (s2 _ _ e) t
    · rintro σ H1 ⟨u1, rfl, _⟩
      exact q _
end
end K16

set_option Elab.async false
set_option linter.all false
set_option maxRecDepth 100000
set_option maxHeartbeats 6400000
namespace K16
open PySem L2 PyProof.Rows Tx Tg Tm Da
theorem df_mk {K : PySem.W.Frag} {h : Heap} {mg : Str → Option Value} {x : Str} {st : Stmt} {ps : List Str} {f : Addr} {oc kV dc pm cd ct : Value} {od an : Option Addr} {sl : Array (Option Value)} (X : K.In h) (G : h.Ns mainGlobals mg)
    (a : PySem.W.nsIn K mainGlobals x = some (some (.ref f))) (l : K.lookup f = some ⟨oc, od, .func (PySem.W.fnOf x x (defArgs st) (defBody st) (defScope st) .none kV dc pm an cd ct), sl⟩)
    (c : PySem.W.codeIn K cd x = true) (k : PySem.W.keepIn K (.ref f) = true)
    (hb : ∀ (kV doc pm : Value) (an : Option Addr) (cdv ct : Value) (us : List Value), us.length = ps.length → bindArgs (PySem.W.fnOf x x (defArgs st) (defBody st) (defScope st) .none kV doc pm an cdv ct) ⟨us, []⟩ = pure (ps.zip us)) :
    Df K mg x st ps f (PySem.W.fnOf x x (defArgs st) (defBody st) (defScope st) .none kV dc pm an cd ct) :=
  have F := fun_mk (st := st) l c k
  ⟨F, PySem.W.mg_of X G a, F.binds hb⟩
theorem kit_self {K : PySem.W.Frag} {C : Addr} : PySem.W.kitOne K (.ref C) (.ref C) = some true := by
  unfold PySem.W.kitOne
  rw [if_pos (beq_self_eq_true _)]
theorem all_mk {l : PySem.W.OpenLaw} {w : World} {K : PySem.W.Frag} {h : Heap} {mg : Str → Option Value} {fa CM CT : Addr} (X : K.In h) (G : h.Ns mainGlobals mg) (hfa : mg "law" = some (.ref fa))
    (hx1 : ∃ n t, n = 10 ^ 200 ∧ mg "LEAST_TOO_LONG" = some (.int n t))
    {f1 : Addr} {od1 an1 : Option Addr} {sl1 : Array (Option Value)} {oc1 kV1 dc1 pm1 cd1 ct1 : Value}
    (a1 : PySem.W.nsIn K mainGlobals "is_integer" = some (some (.ref f1))) (l1 : K.lookup f1 = some ⟨oc1, od1, .func (PySem.W.fnOf "is_integer" "is_integer" (defArgs sInt) (defBody sInt) (defScope sInt) .none kV1 dc1 pm1 an1 cd1 ct1), sl1⟩) (c1 : PySem.W.codeIn K cd1 "is_integer" = true) (k1 : PySem.W.keepIn K (.ref f1) = true)
    {f2 : Addr} {od2 an2 : Option Addr} {sl2 : Array (Option Value)} {oc2 kV2 dc2 pm2 cd2 ct2 : Value}
    (a2 : PySem.W.nsIn K mainGlobals "is_letters" = some (some (.ref f2))) (l2 : K.lookup f2 = some ⟨oc2, od2, .func (PySem.W.fnOf "is_letters" "is_letters" (defArgs sLetters) (defBody sLetters) (defScope sLetters) .none kV2 dc2 pm2 an2 cd2 ct2), sl2⟩) (c2 : PySem.W.codeIn K cd2 "is_letters" = true) (k2 : PySem.W.keepIn K (.ref f2) = true)
    {f3 : Addr} {od3 an3 : Option Addr} {sl3 : Array (Option Value)} {oc3 kV3 dc3 pm3 cd3 ct3 : Value}
    (a3 : PySem.W.nsIn K mainGlobals "is_text" = some (some (.ref f3))) (l3 : K.lookup f3 = some ⟨oc3, od3, .func (PySem.W.fnOf "is_text" "is_text" (defArgs sText) (defBody sText) (defScope sText) .none kV3 dc3 pm3 an3 cd3 ct3), sl3⟩) (c3 : PySem.W.codeIn K cd3 "is_text" = true) (k3 : PySem.W.keepIn K (.ref f3) = true)
    {f4 : Addr} {od4 an4 : Option Addr} {sl4 : Array (Option Value)} {oc4 kV4 dc4 pm4 cd4 ct4 : Value}
    (a4 : PySem.W.nsIn K mainGlobals "is_prime" = some (some (.ref f4))) (l4 : K.lookup f4 = some ⟨oc4, od4, .func (PySem.W.fnOf "is_prime" "is_prime" (defArgs sPrimeQ) (defBody sPrimeQ) (defScope sPrimeQ) .none kV4 dc4 pm4 an4 cd4 ct4), sl4⟩) (c4 : PySem.W.codeIn K cd4 "is_prime" = true) (k4 : PySem.W.keepIn K (.ref f4) = true)
    {f5 : Addr} {od5 an5 : Option Addr} {sl5 : Array (Option Value)} {oc5 kV5 dc5 pm5 cd5 ct5 : Value}
    (a5 : PySem.W.nsIn K mainGlobals "check_letters" = some (some (.ref f5))) (l5 : K.lookup f5 = some ⟨oc5, od5, .func (PySem.W.fnOf "check_letters" "check_letters" (defArgs sCheck) (defBody sCheck) (defScope sCheck) .none kV5 dc5 pm5 an5 cd5 ct5), sl5⟩) (c5 : PySem.W.codeIn K cd5 "check_letters" = true) (k5 : PySem.W.keepIn K (.ref f5) = true)
    {f6 : Addr} {od6 an6 : Option Addr} {sl6 : Array (Option Value)} {oc6 kV6 dc6 pm6 cd6 ct6 : Value}
    (a6 : PySem.W.nsIn K mainGlobals "has_only" = some (some (.ref f6))) (l6 : K.lookup f6 = some ⟨oc6, od6, .func (PySem.W.fnOf "has_only" "has_only" (defArgs sHas) (defBody sHas) (defScope sHas) .none kV6 dc6 pm6 an6 cd6 ct6), sl6⟩) (c6 : PySem.W.codeIn K cd6 "has_only" = true) (k6 : PySem.W.keepIn K (.ref f6) = true)
    {f7 : Addr} {od7 an7 : Option Addr} {sl7 : Array (Option Value)} {oc7 kV7 dc7 pm7 cd7 ct7 : Value}
    (a7 : PySem.W.nsIn K mainGlobals "check_text" = some (some (.ref f7))) (l7 : K.lookup f7 = some ⟨oc7, od7, .func (PySem.W.fnOf "check_text" "check_text" (defArgs sCText) (defBody sCText) (defScope sCText) .none kV7 dc7 pm7 an7 cd7 ct7), sl7⟩) (c7 : PySem.W.codeIn K cd7 "check_text" = true) (k7 : PySem.W.keepIn K (.ref f7) = true)
    {f8 : Addr} {od8 an8 : Option Addr} {sl8 : Array (Option Value)} {oc8 kV8 dc8 pm8 cd8 ct8 : Value}
    (a8 : PySem.W.nsIn K mainGlobals "check_prime" = some (some (.ref f8))) (l8 : K.lookup f8 = some ⟨oc8, od8, .func (PySem.W.fnOf "check_prime" "check_prime" (defArgs sCPrime) (defBody sCPrime) (defScope sCPrime) .none kV8 dc8 pm8 an8 cd8 ct8), sl8⟩) (c8 : PySem.W.codeIn K cd8 "check_prime" = true) (k8 : PySem.W.keepIn K (.ref f8) = true)
    {f9 : Addr} {od9 an9 : Option Addr} {sl9 : Array (Option Value)} {oc9 kV9 dc9 pm9 cd9 ct9 : Value}
    (a9 : PySem.W.nsIn K mainGlobals "check_some_prime" = some (some (.ref f9))) (l9 : K.lookup f9 = some ⟨oc9, od9, .func (PySem.W.fnOf "check_some_prime" "check_some_prime" (defArgs sCSome) (defBody sCSome) (defScope sCSome) .none kV9 dc9 pm9 an9 cd9 ct9), sl9⟩) (c9 : PySem.W.codeIn K cd9 "check_some_prime" = true) (k9 : PySem.W.keepIn K (.ref f9) = true)
    {f10 : Addr} {od10 an10 : Option Addr} {sl10 : Array (Option Value)} {oc10 kV10 dc10 pm10 cd10 ct10 : Value}
    (a10 : PySem.W.nsIn K mainGlobals "rest_of" = some (some (.ref f10))) (l10 : K.lookup f10 = some ⟨oc10, od10, .func (PySem.W.fnOf "rest_of" "rest_of" (defArgs sRest) (defBody sRest) (defScope sRest) .none kV10 dc10 pm10 an10 cd10 ct10), sl10⟩) (c10 : PySem.W.codeIn K cd10 "rest_of" = true) (k10 : PySem.W.keepIn K (.ref f10) = true)
    {f11 : Addr} {od11 an11 : Option Addr} {sl11 : Array (Option Value)} {oc11 kV11 dc11 pm11 cd11 ct11 : Value}
    (a11 : PySem.W.nsIn K mainGlobals "dot" = some (some (.ref f11))) (l11 : K.lookup f11 = some ⟨oc11, od11, .func (PySem.W.fnOf "dot" "dot" (defArgs sDot) (defBody sDot) (defScope sDot) .none kV11 dc11 pm11 an11 cd11 ct11), sl11⟩) (c11 : PySem.W.codeIn K cd11 "dot" = true) (k11 : PySem.W.keepIn K (.ref f11) = true)
    {f12 : Addr} {od12 an12 : Option Addr} {sl12 : Array (Option Value)} {oc12 kV12 dc12 pm12 cd12 ct12 : Value}
    (a12 : PySem.W.nsIn K mainGlobals "rest_row" = some (some (.ref f12))) (l12 : K.lookup f12 = some ⟨oc12, od12, .func (PySem.W.fnOf "rest_row" "rest_row" (defArgs sRestRow) (defBody sRestRow) (defScope sRestRow) .none kV12 dc12 pm12 an12 cd12 ct12), sl12⟩) (c12 : PySem.W.codeIn K cd12 "rest_row" = true) (k12 : PySem.W.keepIn K (.ref f12) = true)
    {f13 : Addr} {od13 an13 : Option Addr} {sl13 : Array (Option Value)} {oc13 kV13 dc13 pm13 cd13 ct13 : Value}
    (a13 : PySem.W.nsIn K mainGlobals "rest_square" = some (some (.ref f13))) (l13 : K.lookup f13 = some ⟨oc13, od13, .func (PySem.W.fnOf "rest_square" "rest_square" (defArgs sRestSq) (defBody sRestSq) (defScope sRestSq) .none kV13 dc13 pm13 an13 cd13 ct13), sl13⟩) (c13 : PySem.W.codeIn K cd13 "rest_square" = true) (k13 : PySem.W.keepIn K (.ref f13) = true)
    {f14 : Addr} {od14 an14 : Option Addr} {sl14 : Array (Option Value)} {oc14 kV14 dc14 pm14 cd14 ct14 : Value}
    (a14 : PySem.W.nsIn K mainGlobals "turned_square" = some (some (.ref f14))) (l14 : K.lookup f14 = some ⟨oc14, od14, .func (PySem.W.fnOf "turned_square" "turned_square" (defArgs sTurned) (defBody sTurned) (defScope sTurned) .none kV14 dc14 pm14 an14 cd14 ct14), sl14⟩) (c14 : PySem.W.codeIn K cd14 "turned_square" = true) (k14 : PySem.W.keepIn K (.ref f14) = true)
    {f15 : Addr} {od15 an15 : Option Addr} {sl15 : Array (Option Value)} {oc15 kV15 dc15 pm15 cd15 ct15 : Value}
    (a15 : PySem.W.nsIn K mainGlobals "raised_square" = some (some (.ref f15))) (l15 : K.lookup f15 = some ⟨oc15, od15, .func (PySem.W.fnOf "raised_square" "raised_square" (defArgs sRaisedSq) (defBody sRaisedSq) (defScope sRaisedSq) .none kV15 dc15 pm15 an15 cd15 ct15), sl15⟩) (c15 : PySem.W.codeIn K cd15 "raised_square" = true) (k15 : PySem.W.keepIn K (.ref f15) = true)
    {f16 : Addr} {od16 an16 : Option Addr} {sl16 : Array (Option Value)} {oc16 kV16 dc16 pm16 cd16 ct16 : Value}
    (a16 : PySem.W.nsIn K mainGlobals "row_behind" = some (some (.ref f16))) (l16 : K.lookup f16 = some ⟨oc16, od16, .func (PySem.W.fnOf "row_behind" "row_behind" (defArgs sBehindR) (defBody sBehindR) (defScope sBehindR) .none kV16 dc16 pm16 an16 cd16 ct16), sl16⟩) (c16 : PySem.W.codeIn K cd16 "row_behind" = true) (k16 : PySem.W.keepIn K (.ref f16) = true)
    {f17 : Addr} {od17 an17 : Option Addr} {sl17 : Array (Option Value)} {oc17 kV17 dc17 pm17 cd17 ct17 : Value}
    (a17 : PySem.W.nsIn K mainGlobals "column_ahead" = some (some (.ref f17))) (l17 : K.lookup f17 = some ⟨oc17, od17, .func (PySem.W.fnOf "column_ahead" "column_ahead" (defArgs sAheadC) (defBody sAheadC) (defScope sAheadC) .none kV17 dc17 pm17 an17 cd17 ct17), sl17⟩) (c17 : PySem.W.codeIn K cd17 "column_ahead" = true) (k17 : PySem.W.keepIn K (.ref f17) = true)
    {f18 : Addr} {od18 an18 : Option Addr} {sl18 : Array (Option Value)} {oc18 kV18 dc18 pm18 cd18 ct18 : Value}
    (a18 : PySem.W.nsIn K mainGlobals "check_tally" = some (some (.ref f18))) (l18 : K.lookup f18 = some ⟨oc18, od18, .func (PySem.W.fnOf "check_tally" "check_tally" (defArgs sCTally) (defBody sCTally) (defScope sCTally) .none kV18 dc18 pm18 an18 cd18 ct18), sl18⟩) (c18 : PySem.W.codeIn K cd18 "check_tally" = true) (k18 : PySem.W.keepIn K (.ref f18) = true)
    {f19 : Addr} {od19 an19 : Option Addr} {sl19 : Array (Option Value)} {oc19 kV19 dc19 pm19 cd19 ct19 : Value}
    (a19 : PySem.W.nsIn K mainGlobals "is_row" = some (some (.ref f19))) (l19 : K.lookup f19 = some ⟨oc19, od19, .func (PySem.W.fnOf "is_row" "is_row" (defArgs sIsRow) (defBody sIsRow) (defScope sIsRow) .none kV19 dc19 pm19 an19 cd19 ct19), sl19⟩) (c19 : PySem.W.codeIn K cd19 "is_row" = true) (k19 : PySem.W.keepIn K (.ref f19) = true)
    {f20 : Addr} {od20 an20 : Option Addr} {sl20 : Array (Option Value)} {oc20 kV20 dc20 pm20 cd20 ct20 : Value}
    (a20 : PySem.W.nsIn K mainGlobals "is_square" = some (some (.ref f20))) (l20 : K.lookup f20 = some ⟨oc20, od20, .func (PySem.W.fnOf "is_square" "is_square" (defArgs sIsSq) (defBody sIsSq) (defScope sIsSq) .none kV20 dc20 pm20 an20 cd20 ct20), sl20⟩) (c20 : PySem.W.codeIn K cd20 "is_square" = true) (k20 : PySem.W.keepIn K (.ref f20) = true)
    {f21 : Addr} {od21 an21 : Option Addr} {sl21 : Array (Option Value)} {oc21 kV21 dc21 pm21 cd21 ct21 : Value}
    (a21 : PySem.W.nsIn K mainGlobals "are_moves" = some (some (.ref f21))) (l21 : K.lookup f21 = some ⟨oc21, od21, .func (PySem.W.fnOf "are_moves" "are_moves" (defArgs sAreMoves) (defBody sAreMoves) (defScope sAreMoves) .none kV21 dc21 pm21 an21 cd21 ct21), sl21⟩) (c21 : PySem.W.codeIn K cd21 "are_moves" = true) (k21 : PySem.W.keepIn K (.ref f21) = true)
    {f22 : Addr} {od22 an22 : Option Addr} {sl22 : Array (Option Value)} {oc22 kV22 dc22 pm22 cd22 ct22 : Value}
    (a22 : PySem.W.nsIn K mainGlobals "check_parts" = some (some (.ref f22))) (l22 : K.lookup f22 = some ⟨oc22, od22, .func (PySem.W.fnOf "check_parts" "check_parts" (defArgs sCheckParts) (defBody sCheckParts) (defScope sCheckParts) .none kV22 dc22 pm22 an22 cd22 ct22), sl22⟩) (c22 : PySem.W.codeIn K cd22 "check_parts" = true) (k22 : PySem.W.keepIn K (.ref f22) = true)
    {f23 : Addr} {od23 an23 : Option Addr} {sl23 : Array (Option Value)} {oc23 kV23 dc23 pm23 cd23 ct23 : Value}
    (a23 : PySem.W.nsIn K mainGlobals "weighed" = some (some (.ref f23))) (l23 : K.lookup f23 = some ⟨oc23, od23, .func (PySem.W.fnOf "weighed" "weighed" (defArgs sWeighed) (defBody sWeighed) (defScope sWeighed) .none kV23 dc23 pm23 an23 cd23 ct23), sl23⟩) (c23 : PySem.W.codeIn K cd23 "weighed" = true) (k23 : PySem.W.keepIn K (.ref f23) = true)
    {f24 : Addr} {od24 an24 : Option Addr} {sl24 : Array (Option Value)} {oc24 kV24 dc24 pm24 cd24 ct24 : Value}
    (a24 : PySem.W.nsIn K mainGlobals "summed" = some (some (.ref f24))) (l24 : K.lookup f24 = some ⟨oc24, od24, .func (PySem.W.fnOf "summed" "summed" (defArgs sSummed) (defBody sSummed) (defScope sSummed) .none kV24 dc24 pm24 an24 cd24 ct24), sl24⟩) (c24 : PySem.W.codeIn K cd24 "summed" = true) (k24 : PySem.W.keepIn K (.ref f24) = true)
    {f25 : Addr} {od25 an25 : Option Addr} {sl25 : Array (Option Value)} {oc25 kV25 dc25 pm25 cd25 ct25 : Value}
    (a25 : PySem.W.nsIn K mainGlobals "raised" = some (some (.ref f25))) (l25 : K.lookup f25 = some ⟨oc25, od25, .func (PySem.W.fnOf "raised" "raised" (defArgs sRaised) (defBody sRaised) (defScope sRaised) .none kV25 dc25 pm25 an25 cd25 ct25), sl25⟩) (c25 : PySem.W.codeIn K cd25 "raised" = true) (k25 : PySem.W.keepIn K (.ref f25) = true)
    {f26 : Addr} {od26 an26 : Option Addr} {sl26 : Array (Option Value)} {oc26 kV26 dc26 pm26 cd26 ct26 : Value}
    (a26 : PySem.W.nsIn K mainGlobals "_law_cup" = some (some (.ref f26))) (l26 : K.lookup f26 = some ⟨oc26, od26, .func (PySem.W.fnOf "_law_cup" "_law_cup" (defArgs sCup) (defBody sCup) (defScope sCup) .none kV26 dc26 pm26 an26 cd26 ct26), sl26⟩) (c26 : PySem.W.codeIn K cd26 "_law_cup" = true) (k26 : PySem.W.keepIn K (.ref f26) = true)
    {f27 : Addr} {od27 an27 : Option Addr} {sl27 : Array (Option Value)} {oc27 kV27 dc27 pm27 cd27 ct27 : Value}
    (a27 : PySem.W.nsIn K mainGlobals "_law_bit" = some (some (.ref f27))) (l27 : K.lookup f27 = some ⟨oc27, od27, .func (PySem.W.fnOf "_law_bit" "_law_bit" (defArgs sBit) (defBody sBit) (defScope sBit) .none kV27 dc27 pm27 an27 cd27 ct27), sl27⟩) (c27 : PySem.W.codeIn K cd27 "_law_bit" = true) (k27 : PySem.W.keepIn K (.ref f27) = true)
    {f28 : Addr} {od28 an28 : Option Addr} {sl28 : Array (Option Value)} {oc28 kV28 dc28 pm28 cd28 ct28 : Value}
    (a28 : PySem.W.nsIn K mainGlobals "_law_pick" = some (some (.ref f28))) (l28 : K.lookup f28 = some ⟨oc28, od28, .func (PySem.W.fnOf "_law_pick" "_law_pick" (defArgs sPick) (defBody sPick) (defScope sPick) .none kV28 dc28 pm28 an28 cd28 ct28), sl28⟩) (c28 : PySem.W.codeIn K cd28 "_law_pick" = true) (k28 : PySem.W.keepIn K (.ref f28) = true)
    {f29 : Addr} {od29 an29 : Option Addr} {sl29 : Array (Option Value)} {oc29 kV29 dc29 pm29 cd29 ct29 : Value}
    (a29 : PySem.W.nsIn K mainGlobals "_law_signs" = some (some (.ref f29))) (l29 : K.lookup f29 = some ⟨oc29, od29, .func (PySem.W.fnOf "_law_signs" "_law_signs" (defArgs sSigns) (defBody sSigns) (defScope sSigns) .none kV29 dc29 pm29 an29 cd29 ct29), sl29⟩) (c29 : PySem.W.codeIn K cd29 "_law_signs" = true) (k29 : PySem.W.keepIn K (.ref f29) = true)
    {f30 : Addr} {od30 an30 : Option Addr} {sl30 : Array (Option Value)} {oc30 kV30 dc30 pm30 cd30 ct30 : Value}
    (a30 : PySem.W.nsIn K mainGlobals "_law_kind" = some (some (.ref f30))) (l30 : K.lookup f30 = some ⟨oc30, od30, .func (PySem.W.fnOf "_law_kind" "_law_kind" (defArgs sKind) (defBody sKind) (defScope sKind) .none kV30 dc30 pm30 an30 cd30 ct30), sl30⟩) (c30 : PySem.W.codeIn K cd30 "_law_kind" = true) (k30 : PySem.W.keepIn K (.ref f30) = true)
    {f31 : Addr} {od31 an31 : Option Addr} {sl31 : Array (Option Value)} {oc31 kV31 dc31 pm31 cd31 ct31 : Value}
    (a31 : PySem.W.nsIn K mainGlobals "_law_rest" = some (some (.ref f31))) (l31 : K.lookup f31 = some ⟨oc31, od31, .func (PySem.W.fnOf "_law_rest" "_law_rest" (defArgs sLRest) (defBody sLRest) (defScope sLRest) .none kV31 dc31 pm31 an31 cd31 ct31), sl31⟩) (c31 : PySem.W.codeIn K cd31 "_law_rest" = true) (k31 : PySem.W.keepIn K (.ref f31) = true)
    {f32 : Addr} {od32 an32 : Option Addr} {sl32 : Array (Option Value)} {oc32 kV32 dc32 pm32 cd32 ct32 : Value}
    (a32 : PySem.W.nsIn K mainGlobals "_law_line" = some (some (.ref f32))) (l32 : K.lookup f32 = some ⟨oc32, od32, .func (PySem.W.fnOf "_law_line" "_law_line" (defArgs sLine) (defBody sLine) (defScope sLine) .none kV32 dc32 pm32 an32 cd32 ct32), sl32⟩) (c32 : PySem.W.codeIn K cd32 "_law_line" = true) (k32 : PySem.W.keepIn K (.ref f32) = true)
    {f33 : Addr} {od33 an33 : Option Addr} {sl33 : Array (Option Value)} {oc33 kV33 dc33 pm33 cd33 ct33 : Value}
    (a33 : PySem.W.nsIn K mainGlobals "_law_spread" = some (some (.ref f33))) (l33 : K.lookup f33 = some ⟨oc33, od33, .func (PySem.W.fnOf "_law_spread" "_law_spread" (defArgs sSpread) (defBody sSpread) (defScope sSpread) .none kV33 dc33 pm33 an33 cd33 ct33), sl33⟩) (c33 : PySem.W.codeIn K cd33 "_law_spread" = true) (k33 : PySem.W.keepIn K (.ref f33) = true)
    {f34 : Addr} {od34 an34 : Option Addr} {sl34 : Array (Option Value)} {oc34 kV34 dc34 pm34 cd34 ct34 : Value}
    (a34 : PySem.W.nsIn K mainGlobals "_law_few" = some (some (.ref f34))) (l34 : K.lookup f34 = some ⟨oc34, od34, .func (PySem.W.fnOf "_law_few" "_law_few" (defArgs sFew) (defBody sFew) (defScope sFew) .none kV34 dc34 pm34 an34 cd34 ct34), sl34⟩) (c34 : PySem.W.codeIn K cd34 "_law_few" = true) (k34 : PySem.W.keepIn K (.ref f34) = true)
    {f35 : Addr} {od35 an35 : Option Addr} {sl35 : Array (Option Value)} {oc35 kV35 dc35 pm35 cd35 ct35 : Value}
    (a35 : PySem.W.nsIn K mainGlobals "_law_bare" = some (some (.ref f35))) (l35 : K.lookup f35 = some ⟨oc35, od35, .func (PySem.W.fnOf "_law_bare" "_law_bare" (defArgs sBare) (defBody sBare) (defScope sBare) .none kV35 dc35 pm35 an35 cd35 ct35), sl35⟩) (c35 : PySem.W.codeIn K cd35 "_law_bare" = true) (k35 : PySem.W.keepIn K (.ref f35) = true)
    {f36 : Addr} {od36 an36 : Option Addr} {sl36 : Array (Option Value)} {oc36 kV36 dc36 pm36 cd36 ct36 : Value}
    (a36 : PySem.W.nsIn K mainGlobals "_law_made_tally" = some (some (.ref f36))) (l36 : K.lookup f36 = some ⟨oc36, od36, .func (PySem.W.fnOf "_law_made_tally" "_law_made_tally" (defArgs sMadeT) (defBody sMadeT) (defScope sMadeT) .none kV36 dc36 pm36 an36 cd36 ct36), sl36⟩) (c36 : PySem.W.codeIn K cd36 "_law_made_tally" = true) (k36 : PySem.W.keepIn K (.ref f36) = true)
    {f37 : Addr} {od37 an37 : Option Addr} {sl37 : Array (Option Value)} {oc37 kV37 dc37 pm37 cd37 ct37 : Value}
    (a37 : PySem.W.nsIn K mainGlobals "_law_picks" = some (some (.ref f37))) (l37 : K.lookup f37 = some ⟨oc37, od37, .func (PySem.W.fnOf "_law_picks" "_law_picks" (defArgs sPicks) (defBody sPicks) (defScope sPicks) .none kV37 dc37 pm37 an37 cd37 ct37), sl37⟩) (c37 : PySem.W.codeIn K cd37 "_law_picks" = true) (k37 : PySem.W.keepIn K (.ref f37) = true)
    {f38 : Addr} {od38 an38 : Option Addr} {sl38 : Array (Option Value)} {oc38 kV38 dc38 pm38 cd38 ct38 : Value}
    (a38 : PySem.W.nsIn K mainGlobals "_law_weight_of" = some (some (.ref f38))) (l38 : K.lookup f38 = some ⟨oc38, od38, .func (PySem.W.fnOf "_law_weight_of" "_law_weight_of" (defArgs sWeightOf) (defBody sWeightOf) (defScope sWeightOf) .none kV38 dc38 pm38 an38 cd38 ct38), sl38⟩) (c38 : PySem.W.codeIn K cd38 "_law_weight_of" = true) (k38 : PySem.W.keepIn K (.ref f38) = true)
    {f39 : Addr} {od39 an39 : Option Addr} {sl39 : Array (Option Value)} {oc39 kV39 dc39 pm39 cd39 ct39 : Value}
    (a39 : PySem.W.nsIn K mainGlobals "_law_num_of" = some (some (.ref f39))) (l39 : K.lookup f39 = some ⟨oc39, od39, .func (PySem.W.fnOf "_law_num_of" "_law_num_of" (defArgs sNumOf) (defBody sNumOf) (defScope sNumOf) .none kV39 dc39 pm39 an39 cd39 ct39), sl39⟩) (c39 : PySem.W.codeIn K cd39 "_law_num_of" = true) (k39 : PySem.W.keepIn K (.ref f39) = true)
    {f40 : Addr} {od40 an40 : Option Addr} {sl40 : Array (Option Value)} {oc40 kV40 dc40 pm40 cd40 ct40 : Value}
    (a40 : PySem.W.nsIn K mainGlobals "_law_sum_of_picks" = some (some (.ref f40))) (l40 : K.lookup f40 = some ⟨oc40, od40, .func (PySem.W.fnOf "_law_sum_of_picks" "_law_sum_of_picks" (defArgs sSumOf) (defBody sSumOf) (defScope sSumOf) .none kV40 dc40 pm40 an40 cd40 ct40), sl40⟩) (c40 : PySem.W.codeIn K cd40 "_law_sum_of_picks" = true) (k40 : PySem.W.keepIn K (.ref f40) = true)
    {f41 : Addr} {od41 an41 : Option Addr} {sl41 : Array (Option Value)} {oc41 kV41 dc41 pm41 cd41 ct41 : Value}
    (a41 : PySem.W.nsIn K mainGlobals "_law_right" = some (some (.ref f41))) (l41 : K.lookup f41 = some ⟨oc41, od41, .func (PySem.W.fnOf "_law_right" "_law_right" (defArgs sRight) (defBody sRight) (defScope sRight) .none kV41 dc41 pm41 an41 cd41 ct41), sl41⟩) (c41 : PySem.W.codeIn K cd41 "_law_right" = true) (k41 : PySem.W.keepIn K (.ref f41) = true)
    {f42 : Addr} {od42 an42 : Option Addr} {sl42 : Array (Option Value)} {oc42 kV42 dc42 pm42 cd42 ct42 : Value}
    (a42 : PySem.W.nsIn K mainGlobals "law" = some (some (.ref f42))) (l42 : K.lookup f42 = some ⟨oc42, od42, .func (PySem.W.fnOf "law" "law" (defArgs sLaw) (defBody sLaw) (defScope sLaw) .none kV42 dc42 pm42 an42 cd42 ct42), sl42⟩) (c42 : PySem.W.codeIn K cd42 "law" = true) (k42 : PySem.W.keepIn K (.ref f42) = true)
    (aXM : PySem.W.nsIn K mainGlobals "Made" = some (some (.ref CM)))
    (aXT : PySem.W.nsIn K mainGlobals "Tally" = some (some (.ref CT)))
    {fMi : Addr} {odMi anMi : Option Addr} {slMi : Array (Option Value)} {ocMi kVMi dcMi pmMi cdMi ctMi : Value}
    (aMi : PySem.W.findIn K (.ref CM) "__init__" = some (some (.ref fMi))) (iMi : PySem.W.isFn K (.ref fMi) = true) (lMi : K.lookup fMi = some ⟨ocMi, odMi, .func (PySem.W.fnOf "__init__" "Made.__init__" (defArgs sMadeInit) (defBody sMadeInit) (defScope sMadeInit) .none kVMi dcMi pmMi anMi cdMi ctMi), slMi⟩) (cMi : PySem.W.codeIn K cdMi "Made.__init__" = true) (kMi : PySem.W.keepIn K (.ref fMi) = true)
    {fTi : Addr} {odTi anTi : Option Addr} {slTi : Array (Option Value)} {ocTi kVTi dcTi pmTi cdTi ctTi : Value}
    (aTi : PySem.W.findIn K (.ref CT) "__init__" = some (some (.ref fTi))) (iTi : PySem.W.isFn K (.ref fTi) = true) (lTi : K.lookup fTi = some ⟨ocTi, odTi, .func (PySem.W.fnOf "__init__" "Tally.__init__" (defArgs sTInit) (defBody sTInit) (defScope sTInit) .none kVTi dcTi pmTi anTi cdTi ctTi), slTi⟩) (cTi : PySem.W.codeIn K cdTi "Tally.__init__" = true) (kTi : PySem.W.keepIn K (.ref fTi) = true)
    {fAt : Addr} {odAt anAt : Option Addr} {slAt : Array (Option Value)} {ocAt kVAt dcAt pmAt cdAt ctAt : Value}
    (aAt : PySem.W.findIn K (.ref CT) "at" = some (some (.ref fAt))) (iAt : PySem.W.isFn K (.ref fAt) = true) (lAt : K.lookup fAt = some ⟨ocAt, odAt, .func (PySem.W.fnOf "at" "Tally.at" (defArgs sTAt) (defBody sTAt) (defScope sTAt) .none kVAt dcAt pmAt anAt cdAt ctAt), slAt⟩) (cAt : PySem.W.codeIn K cdAt "Tally.at" = true) (kAt : PySem.W.keepIn K (.ref fAt) = true)
    {fPL : Addr} {odPL anPL : Option Addr} {slPL : Array (Option Value)} {ocPL kVPL dcPL pmPL cdPL ctPL : Value}
    {pPL : Addr} {restPL : List Value} (aPL : PySem.W.findIn K (.ref CT) "letters" = some (some (.ref pPL))) (gPL' : PySem.W.specialIn K (.ref pPL) "__get__" = some (some (.builtin "property.__get__"))) (tPL : PySem.W.takesIn K (.ref pPL) = some true) (rPL : PySem.W.recIn K pPL "property" = some (.ref fPL :: restPL)) (lPL : K.lookup fPL = some ⟨ocPL, odPL, .func (PySem.W.fnOf "letters" "Tally.letters" (defArgs sPrL) (defBody sPrL) (defScope sPrL) .none kVPL dcPL pmPL anPL cdPL ctPL), slPL⟩) (cPL : PySem.W.codeIn K cdPL "Tally.letters" = true) (kPL : PySem.W.keepIn K (.ref fPL) = true)
    {fPF : Addr} {odPF anPF : Option Addr} {slPF : Array (Option Value)} {ocPF kVPF dcPF pmPF cdPF ctPF : Value}
    {pPF : Addr} {restPF : List Value} (aPF : PySem.W.findIn K (.ref CT) "first" = some (some (.ref pPF))) (gPF' : PySem.W.specialIn K (.ref pPF) "__get__" = some (some (.builtin "property.__get__"))) (tPF : PySem.W.takesIn K (.ref pPF) = some true) (rPF : PySem.W.recIn K pPF "property" = some (.ref fPF :: restPF)) (lPF : K.lookup fPF = some ⟨ocPF, odPF, .func (PySem.W.fnOf "first" "Tally.first" (defArgs sPrF) (defBody sPrF) (defScope sPrF) .none kVPF dcPF pmPF anPF cdPF ctPF), slPF⟩) (cPF : PySem.W.codeIn K cdPF "Tally.first" = true) (kPF : PySem.W.keepIn K (.ref fPF) = true)
    {fPM : Addr} {odPM anPM : Option Addr} {slPM : Array (Option Value)} {ocPM kVPM dcPM pmPM cdPM ctPM : Value}
    {pPM : Addr} {restPM : List Value} (aPM : PySem.W.findIn K (.ref CT) "moves" = some (some (.ref pPM))) (gPM' : PySem.W.specialIn K (.ref pPM) "__get__" = some (some (.builtin "property.__get__"))) (tPM : PySem.W.takesIn K (.ref pPM) = some true) (rPM : PySem.W.recIn K pPM "property" = some (.ref fPM :: restPM)) (lPM : K.lookup fPM = some ⟨ocPM, odPM, .func (PySem.W.fnOf "moves" "Tally.moves" (defArgs sPrM) (defBody sPrM) (defScope sPrM) .none kVPM dcPM pmPM anPM cdPM ctPM), slPM⟩) (cPM : PySem.W.codeIn K cdPM "Tally.moves" = true) (kPM : PySem.W.keepIn K (.ref fPM) = true)
    {fPZ : Addr} {odPZ anPZ : Option Addr} {slPZ : Array (Option Value)} {ocPZ kVPZ dcPZ pmPZ cdPZ ctPZ : Value}
    {pPZ : Addr} {restPZ : List Value} (aPZ : PySem.W.findIn K (.ref CT) "last" = some (some (.ref pPZ))) (gPZ' : PySem.W.specialIn K (.ref pPZ) "__get__" = some (some (.builtin "property.__get__"))) (tPZ : PySem.W.takesIn K (.ref pPZ) = some true) (rPZ : PySem.W.recIn K pPZ "property" = some (.ref fPZ :: restPZ)) (lPZ : K.lookup fPZ = some ⟨ocPZ, odPZ, .func (PySem.W.fnOf "last" "Tally.last" (defArgs sPrZ) (defBody sPrZ) (defScope sPrZ) .none kVPZ dcPZ pmPZ anPZ cdPZ ctPZ), slPZ⟩) (cPZ : PySem.W.codeIn K cdPZ "Tally.last" = true) (kPZ : PySem.W.keepIn K (.ref fPZ) = true)
    {fPP : Addr} {odPP anPP : Option Addr} {slPP : Array (Option Value)} {ocPP kVPP dcPP pmPP cdPP ctPP : Value}
    {pPP : Addr} {restPP : List Value} (aPP : PySem.W.findIn K (.ref CT) "prime" = some (some (.ref pPP))) (gPP' : PySem.W.specialIn K (.ref pPP) "__get__" = some (some (.builtin "property.__get__"))) (tPP : PySem.W.takesIn K (.ref pPP) = some true) (rPP : PySem.W.recIn K pPP "property" = some (.ref fPP :: restPP)) (lPP : K.lookup fPP = some ⟨ocPP, odPP, .func (PySem.W.fnOf "prime" "Tally.prime" (defArgs sPrP) (defBody sPrP) (defScope sPrP) .none kVPP dcPP pmPP anPP cdPP ctPP), slPP⟩) (cPP : PySem.W.codeIn K cdPP "Tally.prime" = true) (kPP : PySem.W.keepIn K (.ref fPP) = true)
    (pgXM : PySem.W.plainGet K CM Str.empty = true) (hdXM : PySem.W.hasDictIn K CM = true) (poXM : PySem.W.plainOver K CM = true) (saXM : PySem.W.findIn K (.ref CM) "__setattr__" = some (some (.builtin "object.__setattr__"))) (mkXM : PySem.W.makesIn K CM = true) (kcXM : PySem.W.keepIn K (.ref CM) = true)
    (haXM : PySem.W.findIn K (.ref CM) "__class__" = some (some (.builtin "object.__class__"))) (hmXM : PySem.W.mroIn K CM (.type "object") = some true)
    (pgXT : PySem.W.plainGet K CT Str.empty = true) (hdXT : PySem.W.hasDictIn K CT = true) (poXT : PySem.W.plainOver K CT = true) (saXT : PySem.W.findIn K (.ref CT) "__setattr__" = some (some (.builtin "object.__setattr__"))) (mkXT : PySem.W.makesIn K CT = true) (kcXT : PySem.W.keepIn K (.ref CT) = true)
    (haXT : PySem.W.findIn K (.ref CT) "__class__" = some (some (.builtin "object.__class__"))) (hmXT : PySem.W.mroIn K CT (.type "object") = some true)
    (qHn : PySem.W.specialIn K (.builtin "object.__class__") "__get__" = some (some (.builtin "getset_descriptor.__get__"))) (qHt : PySem.W.takesIn K (.builtin "object.__class__") = some true)
    (nC : PySem.W.findIn K (.ref CM) "content" = some none)
    (nL : PySem.W.findIn K (.ref CT) "_letters" = some none)
    (nF : PySem.W.findIn K (.ref CT) "_first" = some none)
    (nM : PySem.W.findIn K (.ref CT) "_moves" = some none)
    (nZ : PySem.W.findIn K (.ref CT) "_last" = some none)
    (nP : PySem.W.findIn K (.ref CT) "_prime" = some none)
    {pp cR PR : Addr} {oK : Value} {dK : Option Addr} {vsC : Array Value} {slC : Array (Option Value)} {u1 u2 u3 u4 : Tok} {dd : Option Addr} {nn : Nat} {ps : Array (Option Value)}
    (aP : PySem.W.nsIn K mainGlobals "PRIMES" = some (some (.ref pp)))
    (lP : K.lookup pp = some ⟨.type "tuple", dd, .seq #[.int 2 u1, .int 3 u2, .int 5 u3, .int 7 u4] nn, ps⟩)
    (qTM : PySem.W.kitOne K (.type "tuple") (.ref CM) = some false)
    (qC : cd41 = .ref cR)
    (qL : K.lookup cR = some ⟨oK, dK, .fields vsC, slC⟩)
    (qV : (vsC[11]? : Option Value) = some (.ref PR))
    (qNo : K.lookup PR = none)
    (z1 : PySem.W.nsIn K mainGlobals "isinstance" = some none)
    (z2 : PySem.W.nsIn K mainGlobals "int" = some none)
    (z3 : PySem.W.nsIn K mainGlobals "str" = some none)
    (z4 : PySem.W.nsIn K mainGlobals "bool" = some none)
    (z5 : PySem.W.nsIn K mainGlobals "abs" = some none)
    (z6 : PySem.W.nsIn K mainGlobals "len" = some none)
    (z7 : PySem.W.nsIn K mainGlobals "list" = some none)
    (z8 : PySem.W.nsIn K mainGlobals "set" = some none)
    (z9 : PySem.W.nsIn K mainGlobals "sorted" = some none)
    (z10 : PySem.W.nsIn K mainGlobals "repr" = some none)
    (z11 : PySem.W.nsIn K mainGlobals "range" = some none)
    (z12 : PySem.W.nsIn K mainGlobals "max" = some none)
    (z13 : PySem.W.nsIn K mainGlobals "min" = some none)
    (z14 : PySem.W.nsIn K mainGlobals "all" = some none)
    (z15 : PySem.W.nsIn K mainGlobals "tuple" = some none)
    (z16 : PySem.W.nsIn K mainGlobals "dict" = some none)
    (z17 : PySem.W.nsIn K mainGlobals "zip" = some none)
    (z18 : PySem.W.nsIn K mainGlobals "sum" = some none)
    (z19 : PySem.W.nsIn K mainGlobals "enumerate" = some none)
    {t1 : Tok} (v1 : PySem.W.nsIn K mainGlobals "ALPHABET" = some (some (.str alpha t1)))
    {t2 : Tok} (v2 : PySem.W.nsIn K mainGlobals "MAX_LETTERS" = some (some (.int 3 t2)))
    {t3 : Tok} (v3 : PySem.W.nsIn K mainGlobals "MAX_TEXT" = some (some (.int 4000 t3)))
    {t4 : Tok} (v4 : PySem.W.nsIn K mainGlobals "MAX_WIDTH" = some (some (.int 60 t4))) :
    ∃ (fd : FuncData) (c Pt : Addr) (sp : Sp), PySem.W.tabIn K "_law_right" = some (c, Pt) ∧ K.lookup Pt = none ∧ (∀ (s : Shared) (v : Value), BindsTo s fd ⟨[v], []⟩ [("_law_script", v)]) ∧
      (∀ (H : Hp) (a : Addr) (ns : List Int), ns.length ≤ 63 → H Pt = some (.tbl #[]) → SqL K H a (ns.map V.int) → sp [.ref a] H (fun v _ => v = .bl true) fun _ _ _ => False) ∧
      ∀ base : Heap, K.In base → base.Ns mainGlobals mg → LamX.TabB base mg c Pt → FnOk l.prog w K mg base CX0 12 fa fd ["_law_script"] sp := by
  have e := hfa.symm.trans (PySem.W.mg_of X G a42)
  cases e
  obtain ⟨n1, t01, en1, hx1⟩ := hx1
  subst en1
  have T : Txt K mg := ⟨PySem.W.mg_none_of X G z1, PySem.W.mg_none_of X G z2, PySem.W.mg_none_of X G z3, PySem.W.mg_none_of X G z4, PySem.W.mg_none_of X G z5, PySem.W.mg_none_of X G z6, PySem.W.mg_none_of X G z7, PySem.W.mg_none_of X G z8, PySem.W.mg_none_of X G z9, PySem.W.mg_none_of X G z10, PySem.W.mg_none_of X G z11, PySem.W.mg_none_of X G z12, PySem.W.mg_none_of X G z13, PySem.W.mg_none_of X G z14, PySem.W.mg_none_of X G z15, PySem.W.mg_none_of X G z16, PySem.W.mg_none_of X G z17, ⟨_, hx1⟩, ⟨_, PySem.W.mg_of X G v1⟩, ⟨_, PySem.W.mg_of X G v2⟩, ⟨_, PySem.W.mg_of X G v3⟩, ⟨_, PySem.W.mg_of X G v4⟩, PySem.W.mg_none_of X G z18, ⟨pp, PySem.W.mg_of X G aP, fun H => .inr ⟨_, _, _, lP, rfl, rfl, (by show 4 ≤ sizeLine; decide), .cons ⟨_, rfl⟩ (.cons ⟨_, rfl⟩ (.cons ⟨_, rfl⟩ (.cons ⟨_, rfl⟩ .nil)))⟩⟩, PySem.W.mg_none_of X G z19⟩
  have D1 : Df K mg "is_integer" sInt ["value"] f1 _ := df_mk X G a1 l1 c1 k1 fun _ _ _ _ _ _ us hl => match us, hl with | [_], _ => rfl
  have D2 : Df K mg "is_letters" sLetters ["value"] f2 _ := df_mk X G a2 l2 c2 k2 fun _ _ _ _ _ _ us hl => match us, hl with | [_], _ => rfl
  have D3 : Df K mg "is_text" sText ["letters", "value"] f3 _ := df_mk X G a3 l3 c3 k3 fun _ _ _ _ _ _ us hl => match us, hl with | [_, _], _ => rfl
  have D4 : Df K mg "is_prime" sPrimeQ ["value"] f4 _ := df_mk X G a4 l4 c4 k4 fun _ _ _ _ _ _ us hl => match us, hl with | [_], _ => rfl
  have D5 : Df K mg "check_letters" sCheck ["value"] f5 _ := df_mk X G a5 l5 c5 k5 fun _ _ _ _ _ _ us hl => match us, hl with | [_], _ => rfl
  have D6 : Df K mg "has_only" sHas ["value", "signs", "most"] f6 _ := df_mk X G a6 l6 c6 k6 fun _ _ _ _ _ _ us hl => match us, hl with | [_, _, _], _ => rfl
  have D7 : Df K mg "check_text" sCText ["letters", "value"] f7 _ := df_mk X G a7 l7 c7 k7 fun _ _ _ _ _ _ us hl => match us, hl with | [_, _], _ => rfl
  have D8 : Df K mg "check_prime" sCPrime ["value"] f8 _ := df_mk X G a8 l8 c8 k8 fun _ _ _ _ _ _ us hl => match us, hl with | [_], _ => rfl
  have D9 : Df K mg "check_some_prime" sCSome ["value"] f9 _ := df_mk X G a9 l9 c9 k9 fun _ _ _ _ _ _ us hl => match us, hl with | [_], _ => rfl
  have D10 : Df K mg "rest_of" sRest ["number", "prime"] f10 _ := df_mk X G a10 l10 c10 k10 fun _ _ _ _ _ _ us hl => match us, hl with | [_, _], _ => rfl
  have D11 : Df K mg "dot" sDot ["one", "other"] f11 _ := df_mk X G a11 l11 c11 k11 fun _ _ _ _ _ _ us hl => match us, hl with | [_, _], _ => rfl
  have D12 : Df K mg "rest_row" sRestRow ["row", "prime"] f12 _ := df_mk X G a12 l12 c12 k12 fun _ _ _ _ _ _ us hl => match us, hl with | [_, _], _ => rfl
  have D13 : Df K mg "rest_square" sRestSq ["square", "prime"] f13 _ := df_mk X G a13 l13 c13 k13 fun _ _ _ _ _ _ us hl => match us, hl with | [_, _], _ => rfl
  have D14 : Df K mg "turned_square" sTurned ["square"] f14 _ := df_mk X G a14 l14 c14 k14 fun _ _ _ _ _ _ us hl => match us, hl with | [_], _ => rfl
  have D15 : Df K mg "raised_square" sRaisedSq ["square", "number"] f15 _ := df_mk X G a15 l15 c15 k15 fun _ _ _ _ _ _ us hl => match us, hl with | [_, _], _ => rfl
  have D16 : Df K mg "row_behind" sBehindR ["row", "moves", "text", "prime"] f16 _ := df_mk X G a16 l16 c16 k16 fun _ _ _ _ _ _ us hl => match us, hl with | [_, _, _, _], _ => rfl
  have D17 : Df K mg "column_ahead" sAheadC ["column", "moves", "text", "prime"] f17 _ := df_mk X G a17 l17 c17 k17 fun _ _ _ _ _ _ us hl => match us, hl with | [_, _, _, _], _ => rfl
  have D18 : Df K mg "check_tally" sCTally ["value"] f18 _ := df_mk X G a18 l18 c18 k18 fun _ _ _ _ _ _ us hl => match us, hl with | [_], _ => rfl
  have D19 : Df K mg "is_row" sIsRow ["value", "width"] f19 _ := df_mk X G a19 l19 c19 k19 fun _ _ _ _ _ _ us hl => match us, hl with | [_, _], _ => rfl
  have D20 : Df K mg "is_square" sIsSq ["value", "width"] f20 _ := df_mk X G a20 l20 c20 k20 fun _ _ _ _ _ _ us hl => match us, hl with | [_, _], _ => rfl
  have D21 : Df K mg "are_moves" sAreMoves ["letters", "value", "width"] f21 _ := df_mk X G a21 l21 c21 k21 fun _ _ _ _ _ _ us hl => match us, hl with | [_, _, _], _ => rfl
  have D22 : Df K mg "check_parts" sCheckParts ["letters", "first", "moves", "last"] f22 _ := df_mk X G a22 l22 c22 k22 fun _ _ _ _ _ _ us hl => match us, hl with | [_, _, _, _], _ => rfl
  have D23 : Df K mg "weighed" sWeighed ["tally"] f23 _ := df_mk X G a23 l23 c23 k23 fun _ _ _ _ _ _ us hl => match us, hl with | [_], _ => rfl
  have D24 : Df K mg "summed" sSummed ["tally"] f24 _ := df_mk X G a24 l24 c24 k24 fun _ _ _ _ _ _ us hl => match us, hl with | [_], _ => rfl
  have D25 : Df K mg "raised" sRaised ["tally", "number"] f25 _ := df_mk X G a25 l25 c25 k25 fun _ _ _ _ _ _ us hl => match us, hl with | [_, _], _ => rfl
  have D26 : Df K mg "_law_cup" sCup ["_law_script", "_law_at"] f26 _ := df_mk X G a26 l26 c26 k26 fun _ _ _ _ _ _ us hl => match us, hl with | [_, _], _ => rfl
  have D27 : Df K mg "_law_bit" sBit ["_law_cup_here", "_law_much"] f27 _ := df_mk X G a27 l27 c27 k27 fun _ _ _ _ _ _ us hl => match us, hl with | [_, _], _ => rfl
  have D28 : Df K mg "_law_pick" sPick ["_law_cup_here", "_law_items"] f28 _ := df_mk X G a28 l28 c28 k28 fun _ _ _ _ _ _ us hl => match us, hl with | [_, _], _ => rfl
  have D29 : Df K mg "_law_signs" sSigns ["_law_cup_here"] f29 _ := df_mk X G a29 l29 c29 k29 fun _ _ _ _ _ _ us hl => match us, hl with | [_], _ => rfl
  have D30 : Df K mg "_law_kind" sKind ["_law_cup_here"] f30 _ := df_mk X G a30 l30 c30 k30 fun _ _ _ _ _ _ us hl => match us, hl with | [_], _ => rfl
  have D31 : Df K mg "_law_rest" sLRest ["_law_much", "_law_kind_here"] f31 _ := df_mk X G a31 l31 c31 k31 fun _ _ _ _ _ _ us hl => match us, hl with | [_, _], _ => rfl
  have D32 : Df K mg "_law_line" sLine ["_law_cup_here", "_law_signs_here", "_law_most"] f32 _ := df_mk X G a32 l32 c32 k32 fun _ _ _ _ _ _ us hl => match us, hl with | [_, _, _], _ => rfl
  have D33 : Df K mg "_law_spread" sSpread ["_law_line_here", "_law_piece"] f33 _ := df_mk X G a33 l33 c33 k33 fun _ _ _ _ _ _ us hl => match us, hl with | [_, _], _ => rfl
  have D34 : Df K mg "_law_few" sFew ["_law_cup_here", "_law_kind_here"] f34 _ := df_mk X G a34 l34 c34 k34 fun _ _ _ _ _ _ us hl => match us, hl with | [_, _], _ => rfl
  have D35 : Df K mg "_law_bare" sBare ["_law_cup_here", "_law_signs_here", "_law_most", "_law_kind_here"] f35 _ := df_mk X G a35 l35 c35 k35 fun _ _ _ _ _ _ us hl => match us, hl with | [_, _, _, _], _ => rfl
  have D36 : Df K mg "_law_made_tally" sMadeT ["_law_signs_here", "_law_bare_here"] f36 _ := df_mk X G a36 l36 c36 k36 fun _ _ _ _ _ _ us hl => match us, hl with | [_, _], _ => rfl
  have D37 : Df K mg "_law_picks" sPicks ["_law_line_here"] f37 _ := df_mk X G a37 l37 c37 k37 fun _ _ _ _ _ _ us hl => match us, hl with | [_], _ => rfl
  have D38 : Df K mg "_law_weight_of" sWeightOf ["_law_call", "_law_line_here"] f38 _ := df_mk X G a38 l38 c38 k38 fun _ _ _ _ _ _ us hl => match us, hl with | [_, _], _ => rfl
  have D39 : Df K mg "_law_num_of" sNumOf ["_law_bare_here", "_law_line_here"] f39 _ := df_mk X G a39 l39 c39 k39 fun _ _ _ _ _ _ us hl => match us, hl with | [_, _], _ => rfl
  have D40 : Df K mg "_law_sum_of_picks" sSumOf ["_law_bare_here", "_law_line_here"] f40 _ := df_mk X G a40 l40 c40 k40 fun _ _ _ _ _ _ us hl => match us, hl with | [_, _], _ => rfl
  have D41 : Df K mg "_law_right" sRight ["_law_cup_here"] f41 _ := df_mk X G a41 l41 c41 k41 fun _ _ _ _ _ _ us hl => match us, hl with | [_], _ => rfl
  have D42 : Df K mg "law" sLaw ["_law_script"] fa _ := df_mk X G a42 l42 c42 k42 fun _ _ _ _ _ _ us hl => match us, hl with | [_], _ => rfl
  have FMi := fun_mk (st := sMadeInit) lMi cMi kMi
  have bMi := FMi.binds (ps := ["self", "content"]) fun _ _ _ _ _ _ us hl => match us, hl with | [_, _], _ => rfl
  have FTi := fun_mk (st := sTInit) lTi cTi kTi
  have FAt := fun_mk (st := sTAt) lAt cAt kAt
  have bAt := FAt.binds (ps := ["self", "text"]) fun _ _ _ _ _ _ us hl => match us, hl with | [_, _], _ => rfl
  have FPL := fun_mk (st := sPrL) lPL cPL kPL
  have bPL := FPL.binds (ps := ["self"]) fun _ _ _ _ _ _ us hl => match us, hl with | [_], _ => rfl
  have FPF := fun_mk (st := sPrF) lPF cPF kPF
  have bPF := FPF.binds (ps := ["self"]) fun _ _ _ _ _ _ us hl => match us, hl with | [_], _ => rfl
  have FPM := fun_mk (st := sPrM) lPM cPM kPM
  have bPM := FPM.binds (ps := ["self"]) fun _ _ _ _ _ _ us hl => match us, hl with | [_], _ => rfl
  have FPZ := fun_mk (st := sPrZ) lPZ cPZ kPZ
  have bPZ := FPZ.binds (ps := ["self"]) fun _ _ _ _ _ _ us hl => match us, hl with | [_], _ => rfl
  have FPP := fun_mk (st := sPrP) lPP cPP kPP
  have bPP := FPP.binds (ps := ["self"]) fun _ _ _ _ _ _ us hl => match us, hl with | [_], _ => rfl
  have clXM : Cls K CM := ⟨pgXM, hdXM, poXM, saXM⟩
  have clXT : Cls K CT := ⟨pgXT, hdXT, poXT, saXT⟩
  have qTab := Lp.tab_mk a41 l41 qC qL qV
  have W : WT K mg CM CT := ⟨PySem.W.mg_of X G aXM, PySem.W.mg_of X G aXT, clXM, nC, clXT, nL, nF, nM, nZ, nP, kit_self, qTM, kit_self, fun H a dx fs e => .base (.ins e clXM haXM qHn qHt hmXM), fun H a dx fs e => .base (.ins e clXT haXT qHn qHt hmXT)⟩
  have kT : KBn K (PySem.W.fnOf "__init__" "Tally.__init__" (defArgs sTInit) (defBody sTInit) (defScope sTInit) .none kVTi dcTi pmTi anTi cdTi ctTi) psTI 5 ["prime"] app2 app2 := ⟨fun s us ws _ h1 h2 => match us, ws, h1, h2 with
    | [_, _, _, _, _], [_], _, _ => .of_eq rfl, fun r1 r2 => r1.append r2⟩
  refine ⟨PySem.W.fnOf "law" "law" (defArgs sLaw) (defBody sLaw) (defScope sLaw) .none kV42 dc42 pm42 an42 cd42 ct42, cR, PR, spLaw K PR, qTab, qNo, fun s v => .of_eq rfl, fun H a ns hl hH hS => ⟨a, ns, rfl, hS, hl, fun p hp => by rw [List.mem_singleton.mp hp]; exact LamX.TabS.nil hH, fun _ => rfl⟩, fun base _ _ TB => ?_⟩
  have LO : Low K mg _ _ _ _ _ _ _ _ _ _ := ⟨D1, D6, D2, D5, D3⟩
  have B : LowT K mg _ _ _ _ _ _ _ _ _ _ _ _ _ _ _ _ _ _ _ _ _ _ _ _ := ⟨LO, D7, D10, D11, D14, D12, D16, D17⟩
  have Z : MkT l.prog w K mg base CM CT fMi fTi _ _ := ⟨W, ⟨mkXM, aMi, iMi, kcXM⟩, ok_madeinit FMi W, bMi, ⟨mkXT, aTi, iTi, kcXT⟩, ok_tinit FTi T W D6 D2 D5 D1 D4 D8 D9 D10 D12 D13 D19 D20 D21 D22, ok_tinitM FTi T W D6 D2 D5 D1 D4 D8 D9 D10 D12 D13 D19 D20 D21 D22, kT⟩
  have R : Prs l.prog w K mg base CT _ _ _ _ _ _ _ _ _ _ _ _ _ _ _ := ⟨⟨ok_prl FPL W, bPL, ⟨aPL, gPL', tPL, restPL, rPL⟩⟩, ⟨ok_prf FPF W, bPF, ⟨aPF, gPF', tPF, restPF, rPF⟩⟩, ⟨ok_prm FPM T W, bPM, ⟨aPM, gPM', tPM, restPM, rPM⟩⟩, ⟨ok_prz FPZ W, bPZ, ⟨aPZ, gPZ', tPZ, restPZ, rPZ⟩⟩, ⟨ok_prp FPP W, bPP, ⟨aPP, gPP', tPP, restPP, rPP⟩⟩⟩
  have GRd := ok_raised D25.F T Z R D15
  have U : Up l.prog w K mg base CM CT _ _ _ _ _ _ _ _ _ _ _ _ _ _ _ _ _ _ _ _ _ _ _ _ _ _ _ _ := ⟨W, ⟨ok_at FAt T W B, bAt, ⟨aAt, iAt, kAt⟩⟩, D29, D30, D31, D32, D35, D36, D39, D23, D24, D37, D38, D40, D33,
    ok_signs D29.F T D27 D28, ok_kind D30.F T D27 D28, ok_lrest D31.F T, ok_line D32.F T D27 D28,
    ok_bare D35.F T D27 D28 D31 D34, ok_madeT D36.F Z, ok_num D39.F T D31,
    ok_weighed D23.F T W D18 D25 GRd, ok_summed D24.F T W D18 D25 GRd, ok_picks D37.F T, ok_weight D38.F T D37,
    ok_sumof D40.F T D37 D39 (ok_num D39.F T D31), ok_spread D33.F T⟩
  exact ok_law D42.F T D26 D41 (ok_cup D26.F T) (ok_right (Lp.FunC.of a41 l41 c41 qTab) TB T U)
theorem fin {l : PySem.W.OpenLaw} {q : Program} {loose : List Str} {XP : (Str → Option Value) → Heap → Prop} {YP : World → Heap → Prop} {d : DefRec} {K : Params → PySem.W.Frag} (hn : l.most = some 63) (hdf : d.params.defaults = [])
    (hrec : ((PyProof.Rows.recsOf q).find? fun e => e.name == ("_law_right" : Str)).isSome = true) (hY : ∀ (w : World) (h : Heap), YP w h → (K w.params).In h)
    (F : ∀ (w : World) (mg : Str → Option Value) (fa : Addr) (h : Heap), (K w.params).In h → h.Ns mainGlobals mg → mg d.name = some (.ref fa) → XP mg h →
      ∃ (fd : FuncData) (c Pt : Addr) (sp : Sp), PySem.W.tabIn (K w.params) "_law_right" = some (c, Pt) ∧ (K w.params).lookup Pt = none ∧ (∀ (s : Shared) (v : Value), BindsTo s fd ⟨[v], []⟩ [("_law_script", v)]) ∧
        (∀ (H : Hp) (a : Addr) (ns : List Int), ns.length ≤ 63 → H Pt = some (.tbl #[]) → SqL (K w.params) H a (ns.map V.int) → sp [.ref a] H (fun v _ => v = .bl true) fun _ _ _ => False) ∧
        ∀ base : Heap, (K w.params).In base → base.Ns mainGlobals mg → LamX.TabB base mg c Pt → FnOk l.prog w (K w.params) mg base CX0 12 fa fd ["_law_script"] sp) :
    PySem.W.WalkO q loose XP YP l.row.toRowW d [] (fun f vs => PySem.call f vs) :=
  Lp.walkT (n := 63) (k := 12) (x := "_law_script") (y := "_law_right") (cx := fun _ => CX0) hn (by decide) hdf ⟨rfl, by decide, by decide⟩ hY hrec F fun _ _ _ _ _ z => z
end K16

set_option Elab.async false
set_option maxRecDepth 100000
open PySem PySem.W PyProof.Rows
set_option maxRecDepth 100000 in
set_option maxHeartbeats 0 in
theorem PySem.Challenge.cw_whatcounts_k17_whole_weights_of_tallies_holds : PySem.Challenge.rw_whatcounts_k17_whole_weights_of_tallies.Holds := by
  w_on; o_law; k_head; (case hw => w_witness2)
  k_fill
  refine K16.fin (l := PySem.Challenge.rw_whatcounts_k17_whole_weights_of_tallies) rfl rfl (by first | rfl | decide +kernel) (fun w h Y => PySem.W.km_in_of Y) ?F
  case F =>
    intro w mg fa h KX G hmg hx
    have hx1 : ∃ n t, n = 10 ^ 200 ∧ mg "LEAST_TOO_LONG" = some (.int n t) := by
      first
      | (obtain ⟨v, e, r⟩ := hx.2.val _ (List.Mem.head _); cases r; exact ⟨_, _, by decide +kernel, e⟩)
      | (obtain ⟨v, e, r⟩ := hx.2.val _ (List.Mem.tail _ (List.Mem.head _)); cases r; exact ⟨_, _, by decide +kernel, e⟩)
      | (obtain ⟨v, e, r⟩ := hx.2.val _ (List.Mem.tail _ (List.Mem.tail _ (List.Mem.head _))); cases r; exact ⟨_, _, by decide +kernel, e⟩)
      | (obtain ⟨v, e, r⟩ := hx.2.val _ (List.Mem.tail _ (List.Mem.tail _ (List.Mem.tail _ (List.Mem.head _)))); cases r; exact ⟨_, _, by decide +kernel, e⟩)
      | (obtain ⟨v, e, r⟩ := hx.2.val _ (List.Mem.tail _ (List.Mem.tail _ (List.Mem.tail _ (List.Mem.tail _ (List.Mem.head _))))); cases r; exact ⟨_, _, by decide +kernel, e⟩)
      | (obtain ⟨v, e, r⟩ := hx.2.val _ (List.Mem.tail _ (List.Mem.tail _ (List.Mem.tail _ (List.Mem.tail _ (List.Mem.tail _ (List.Mem.head _)))))); cases r; exact ⟨_, _, by decide +kernel, e⟩)
      | (obtain ⟨v, e, r⟩ := hx.2.val _ (List.Mem.tail _ (List.Mem.tail _ (List.Mem.tail _ (List.Mem.tail _ (List.Mem.tail _ (List.Mem.tail _ (List.Mem.head _))))))); cases r; exact ⟨_, _, by decide +kernel, e⟩)
      | (obtain ⟨v, e, r⟩ := hx.2.val _ (List.Mem.tail _ (List.Mem.tail _ (List.Mem.tail _ (List.Mem.tail _ (List.Mem.tail _ (List.Mem.tail _ (List.Mem.tail _ (List.Mem.head _)))))))); cases r; exact ⟨_, _, by decide +kernel, e⟩)
    refine' K16.all_mk KX G hmg hx1 ?a1 ?l1 ?c1 ?k1 ?a2 ?l2 ?c2 ?k2 ?a3 ?l3 ?c3 ?k3 ?a4 ?l4 ?c4 ?k4 ?a5 ?l5 ?c5 ?k5 ?a6 ?l6 ?c6 ?k6 ?a7 ?l7 ?c7 ?k7 ?a8 ?l8 ?c8 ?k8 ?a9 ?l9 ?c9 ?k9 ?a10 ?l10 ?c10 ?k10 ?a11 ?l11 ?c11 ?k11 ?a12 ?l12 ?c12 ?k12 ?a13 ?l13 ?c13 ?k13 ?a14 ?l14 ?c14 ?k14 ?a15 ?l15 ?c15 ?k15 ?a16 ?l16 ?c16 ?k16 ?a17 ?l17 ?c17 ?k17 ?a18 ?l18 ?c18 ?k18 ?a19 ?l19 ?c19 ?k19 ?a20 ?l20 ?c20 ?k20 ?a21 ?l21 ?c21 ?k21 ?a22 ?l22 ?c22 ?k22 ?a23 ?l23 ?c23 ?k23 ?a24 ?l24 ?c24 ?k24 ?a25 ?l25 ?c25 ?k25 ?a26 ?l26 ?c26 ?k26 ?a27 ?l27 ?c27 ?k27 ?a28 ?l28 ?c28 ?k28 ?a29 ?l29 ?c29 ?k29 ?a30 ?l30 ?c30 ?k30 ?a31 ?l31 ?c31 ?k31 ?a32 ?l32 ?c32 ?k32 ?a33 ?l33 ?c33 ?k33 ?a34 ?l34 ?c34 ?k34 ?a35 ?l35 ?c35 ?k35 ?a36 ?l36 ?c36 ?k36 ?a37 ?l37 ?c37 ?k37 ?a38 ?l38 ?c38 ?k38 ?a39 ?l39 ?c39 ?k39 ?a40 ?l40 ?c40 ?k40 ?a41 ?l41 ?c41 ?k41 ?a42 ?l42 ?c42 ?k42 ?aXM ?aXT ?aMi ?iMi ?lMi ?cMi ?kMi ?aTi ?iTi ?lTi ?cTi ?kTi ?aAt ?iAt ?lAt ?cAt ?kAt ?aPL ?gPL' ?tPL ?rPL ?lPL ?cPL ?kPL ?aPF ?gPF' ?tPF ?rPF ?lPF ?cPF ?kPF ?aPM ?gPM' ?tPM ?rPM ?lPM ?cPM ?kPM ?aPZ ?gPZ' ?tPZ ?rPZ ?lPZ ?cPZ ?kPZ ?aPP ?gPP' ?tPP ?rPP ?lPP ?cPP ?kPP ?pgXM ?hdXM ?poXM ?saXM ?mkXM ?kcXM ?haXM ?hmXM ?pgXT ?hdXT ?poXT ?saXT ?mkXT ?kcXT ?haXT ?hmXT ?qHn ?qHt ?nC ?nL ?nF ?nM ?nZ ?nP ?aP ?lP ?qTM ?qC ?qL ?qV ?qNo ?z1 ?z2 ?z3 ?z4 ?z5 ?z6 ?z7 ?z8 ?z9 ?z10 ?z11 ?z12 ?z13 ?z14 ?z15 ?z16 ?z17 ?z18 ?z19 ?v1 ?v2 ?v3 ?v4
    (case a1 => k_is)
    (case l1 => k_is)
    (case c1 => k_is)
    (case k1 => k_is)
    (case a2 => k_is)
    (case l2 => k_is)
    (case c2 => k_is)
    (case k2 => k_is)
    (case a3 => k_is)
    (case l3 => k_is)
    (case c3 => k_is)
    (case k3 => k_is)
    (case a4 => k_is)
    (case l4 => k_is)
    (case c4 => k_is)
    (case k4 => k_is)
    (case a5 => k_is)
    (case l5 => k_is)
    (case c5 => k_is)
    (case k5 => k_is)
    (case a6 => k_is)
    (case l6 => k_is)
    (case c6 => k_is)
    (case k6 => k_is)
    (case a7 => k_is)
    (case l7 => k_is)
    (case c7 => k_is)
    (case k7 => k_is)
    (case a8 => k_is)
    (case l8 => k_is)
    (case c8 => k_is)
    (case k8 => k_is)
    (case a9 => k_is)
    (case l9 => k_is)
    (case c9 => k_is)
    (case k9 => k_is)
    (case a10 => k_is)
    (case l10 => k_is)
    (case c10 => k_is)
    (case k10 => k_is)
    (case a11 => k_is)
    (case l11 => k_is)
    (case c11 => k_is)
    (case k11 => k_is)
    (case a12 => k_is)
    (case l12 => k_is)
    (case c12 => k_is)
    (case k12 => k_is)
    (case a13 => k_is)
    (case l13 => k_is)
    (case c13 => k_is)
    (case k13 => k_is)
    (case a14 => k_is)
    (case l14 => k_is)
    (case c14 => k_is)
    (case k14 => k_is)
    (case a15 => k_is)
    (case l15 => k_is)
    (case c15 => k_is)
    (case k15 => k_is)
    (case a16 => k_is)
    (case l16 => k_is)
    (case c16 => k_is)
    (case k16 => k_is)
    (case a17 => k_is)
    (case l17 => k_is)
    (case c17 => k_is)
    (case k17 => k_is)
    (case a18 => k_is)
    (case l18 => k_is)
    (case c18 => k_is)
    (case k18 => k_is)
    (case a19 => k_is)
    (case l19 => k_is)
    (case c19 => k_is)
    (case k19 => k_is)
    (case a20 => k_is)
    (case l20 => k_is)
    (case c20 => k_is)
    (case k20 => k_is)
    (case a21 => k_is)
    (case l21 => k_is)
    (case c21 => k_is)
    (case k21 => k_is)
    (case a22 => k_is)
    (case l22 => k_is)
    (case c22 => k_is)
    (case k22 => k_is)
    (case a23 => k_is)
    (case l23 => k_is)
    (case c23 => k_is)
    (case k23 => k_is)
    (case a24 => k_is)
    (case l24 => k_is)
    (case c24 => k_is)
    (case k24 => k_is)
    (case a25 => k_is)
    (case l25 => k_is)
    (case c25 => k_is)
    (case k25 => k_is)
    (case a26 => k_is)
    (case l26 => k_is)
    (case c26 => k_is)
    (case k26 => k_is)
    (case a27 => k_is)
    (case l27 => k_is)
    (case c27 => k_is)
    (case k27 => k_is)
    (case a28 => k_is)
    (case l28 => k_is)
    (case c28 => k_is)
    (case k28 => k_is)
    (case a29 => k_is)
    (case l29 => k_is)
    (case c29 => k_is)
    (case k29 => k_is)
    (case a30 => k_is)
    (case l30 => k_is)
    (case c30 => k_is)
    (case k30 => k_is)
    (case a31 => k_is)
    (case l31 => k_is)
    (case c31 => k_is)
    (case k31 => k_is)
    (case a32 => k_is)
    (case l32 => k_is)
    (case c32 => k_is)
    (case k32 => k_is)
    (case a33 => k_is)
    (case l33 => k_is)
    (case c33 => k_is)
    (case k33 => k_is)
    (case a34 => k_is)
    (case l34 => k_is)
    (case c34 => k_is)
    (case k34 => k_is)
    (case a35 => k_is)
    (case l35 => k_is)
    (case c35 => k_is)
    (case k35 => k_is)
    (case a36 => k_is)
    (case l36 => k_is)
    (case c36 => k_is)
    (case k36 => k_is)
    (case a37 => k_is)
    (case l37 => k_is)
    (case c37 => k_is)
    (case k37 => k_is)
    (case a38 => k_is)
    (case l38 => k_is)
    (case c38 => k_is)
    (case k38 => k_is)
    (case a39 => k_is)
    (case l39 => k_is)
    (case c39 => k_is)
    (case k39 => k_is)
    (case a40 => k_is)
    (case l40 => k_is)
    (case c40 => k_is)
    (case k40 => k_is)
    (case a41 => k_is)
    (case l41 => k_is)
    (case c41 => k_is)
    (case k41 => k_is)
    (case a42 => k_is)
    (case l42 => k_is)
    (case c42 => k_is)
    (case k42 => k_is)
    (case aXM => k_is)
    (case aXT => k_is)
    (case aMi => k_is)
    (case iMi => k_is)
    (case lMi => k_is)
    (case cMi => k_is)
    (case kMi => k_is)
    (case aTi => k_is)
    (case iTi => k_is)
    (case lTi => k_is)
    (case cTi => k_is)
    (case kTi => k_is)
    (case aAt => k_is)
    (case iAt => k_is)
    (case lAt => k_is)
    (case cAt => k_is)
    (case kAt => k_is)
    (case aPL => k_is)
    (case gPL' => k_is)
    (case tPL => k_is)
    (case rPL => k_is)
    (case lPL => k_is)
    (case cPL => k_is)
    (case kPL => k_is)
    (case aPF => k_is)
    (case gPF' => k_is)
    (case tPF => k_is)
    (case rPF => k_is)
    (case lPF => k_is)
    (case cPF => k_is)
    (case kPF => k_is)
    (case aPM => k_is)
    (case gPM' => k_is)
    (case tPM => k_is)
    (case rPM => k_is)
    (case lPM => k_is)
    (case cPM => k_is)
    (case kPM => k_is)
    (case aPZ => k_is)
    (case gPZ' => k_is)
    (case tPZ => k_is)
    (case rPZ => k_is)
    (case lPZ => k_is)
    (case cPZ => k_is)
    (case kPZ => k_is)
    (case aPP => k_is)
    (case gPP' => k_is)
    (case tPP => k_is)
    (case rPP => k_is)
    (case lPP => k_is)
    (case cPP => k_is)
    (case kPP => k_is)
    (case pgXM => k_is)
    (case hdXM => k_is)
    (case poXM => k_is)
    (case saXM => k_is)
    (case mkXM => k_is)
    (case kcXM => k_is)
    (case haXM => k_is)
    (case hmXM => k_is)
    (case pgXT => k_is)
    (case hdXT => k_is)
    (case poXT => k_is)
    (case saXT => k_is)
    (case mkXT => k_is)
    (case kcXT => k_is)
    (case haXT => k_is)
    (case hmXT => k_is)
    (case qHn => k_is)
    (case qHt => k_is)
    (case nC => k_is)
    (case nL => k_is)
    (case nF => k_is)
    (case nM => k_is)
    (case nZ => k_is)
    (case nP => k_is)
    (case aP => k_is)
    (case lP => k_is)
    (case qTM => first | k_is | kit_is)
    (case qC => exact rfl)
    (case qL => k_is)
    (case qV => first | exact rfl | k_is)
    (case qNo => first | kernel_rfl | exact rfl | decide +kernel)
    (case z1 => k_is)
    (case z2 => k_is)
    (case z3 => k_is)
    (case z4 => k_is)
    (case z5 => k_is)
    (case z6 => k_is)
    (case z7 => k_is)
    (case z8 => k_is)
    (case z9 => k_is)
    (case z10 => k_is)
    (case z11 => k_is)
    (case z12 => k_is)
    (case z13 => k_is)
    (case z14 => k_is)
    (case z15 => k_is)
    (case z16 => k_is)
    (case z17 => k_is)
    (case z18 => k_is)
    (case z19 => k_is)
    (case v1 => k_is)
    (case v2 => k_is)
    (case v3 => k_is)
    (case v4 => k_is)

