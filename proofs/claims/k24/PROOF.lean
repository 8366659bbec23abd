import PyProof.Rows.All
import Wide.All
import OpenK.AllK
import Wide.FinOn
import HandS.ForMost
import HandS.IsInst
import HandS.Wide
import HandS.Strs
import HandS.SetTxt0
import HandS.Set
import HandS.SetTxtIn
import HandS.Exc
import HandS.TryOnly
import HandS.ExcOwn
import HandS.WordsExc
import PyProof.ReprReads
import PyProof.Rows.StrCut
import KE.KEqNest
import HandS.StrMore
import HandS.TupAny
import HandS.Conv
import HandS.Iter
import HandS.Defaults
import HandS.DictComp
import HandS.Style
import HandS.Zip
import KE.SortLaws
import HandS.More
import PyProof.ReprLen
import KE.KOpsOwn
import PyProof.InstNe
import KE.KCallOwn
import KE.KOwnIter
import OpenK.KMeth
import HandS.Property
import HandS.FStr
import HandS.RaiseMore
import HandS.ListItems
import HandS.TupMul
import PySem.Challenge.RW_whatcounts_k24_readers_told
set_option Elab.async false
set_option linter.all false
set_option maxRecDepth 100000
set_option maxHeartbeats 3200000
/-! sets of texts: made of a text, sorted -/
namespace Tx
open PySem PySem.Spec PyProof.Rows L2

/-- the text that an entry holds -/
def tx (e : Int × Value) : Str := match e.2 with
  | .str y _ => y
  | _ => Str.empty
/-- an entry of a set of texts -/
def Ent (w : World) (e : Int × Value) : Prop := ∃ y u, e.2 = Value.str y u ∧ e.1 = hashStr w y

/-- at a stands a set whose members are the texts ys, in some order -/
def At (w : World) (h : Heap) (a : Addr) (ys : List Str) : Prop :=
  ∃ (o : Obj) (es : Array (Int × Value)) (ep : Nat) (t : SetTable), h.get? a = some o ∧ o.ExactSet ∧ o.data = .set es ep t ∧
    (∀ e ∈ es.toList, Ent w e) ∧ (es.toList.map tx).Perm ys ∧ es.size < scanBound ∧ t.fits es.size = true ∧
    Ris t.place.toList ∧ (w.params.followText "set-order" = true ∨ t.led = true)

section
variable {P : Program} {w : World} {h h' : Heap} {a : Addr} {ys : List Str}
theorem At.stays (R : At w h a ys) (k : ∀ o, h.get? a = some o → h'.get? a = some o) : At w h' a ys :=
  let ⟨o, es, ep, t, ho, r⟩ := R
  ⟨o, es, ep, t, k o ho, r⟩
theorem Ent.elems {l : List (Int × Value)} (g : ∀ e ∈ l, Ent w e) : ElemsOf (strKind P w) l := by
  intro e he
  obtain ⟨y, u, q1, q2⟩ := g e he
  refine ⟨⟨y, ?_, q2⟩, ?_⟩
  · rw [q1]
    exact Froz.is_str y u
  · rw [q1]
    rfl
theorem Ent.is {e : Int × Value} (g : Ent w e) (k : Str) : (strKind P w).is k e.2 = true ↔ tx e = k := by
  obtain ⟨y, u, q1, _⟩ := g
  unfold tx
  rw [q1]
  constructor
  · intro q
    exact ((strKind P w).inj (.str y u) k y q (Froz.is_str y u)).symm
  · intro q
    subst q
    exact Froz.is_str _ u
theorem Ent.mem {l : List (Int × Value)} (g : ∀ e ∈ l, Ent w e) (k : Str) : k ∈ l.map tx ↔ ∃ e ∈ l, (strKind P w).is k e.2 = true := by
  rw [List.mem_map]
  exact ⟨fun ⟨e, he, q⟩ => ⟨e, he, ((g e he).is k).mpr q⟩, fun ⟨e, he, q⟩ => ⟨e, he, ((g e he).is k).mp q⟩⟩
end

section
variable {P : Program} {w : World} {A : Around} {E : Value → Shared → Prop} {s : Shared} {a : Addr} {ys : List Str}
theorem add_tail {g : Bool → Sem Unit} (hg : ∀ (b : Bool) (z : Shared) (R : Unit → Shared → Prop), R () z → wpAny (model P w) A (g b) R E z)
    {o : Obj} {es : Array (Int × Value)} {ep : Nat} {t : SetTable} (ho : s.heap.get? a = some o) (hx : o.ExactSet) (hd : o.data = .set es ep t)
    {es1 : Array (Int × Value)} {t2 : SetTable} (g1 : ∀ e ∈ es1.toList, Ent w e) (m1 : (es1.toList.map tx).Perm ys)
    (hb1 : es1.size < scanBound) (hf2 : t2.fits es1.size = true) (hr : Ris t2.place.toList) (hl : w.params.followText "set-order" = true ∨ t2.led = true)
    {was : Bool} {R : Option Bool → Shared → Prop}
    (hR : ∀ h', Heap.SameBut a s.heap h' → At w h' a ys → R (some true) { s with heap := h' }) :
    wpAny (model P w) A (do
        storeSet a es1 t2
        if (!was && t2.tooFull) = true then do
            g (relayAll t2 es1 (SetTable.grown es1.size)).2.2
            storeSet a (relayAll t2 es1 (SetTable.grown es1.size)).1 (relayAll t2 es1 (SetTable.grown es1.size)).2.1
            pure (some true)
          else pure (some true)) R E s := by
  refine wpAny_bind (wpAny_storeSet_of ho hd ?_ (fits_of_scanBound hb1))
  have q1 := store_at (es' := es1) (t' := t2) ho hd
  have sb := Heap.SameBut.update s.heap a (Obj.putSet es1 t2)
  split
  · have p3 := relayAll_perm t2 es1 (SetTable.grown es1.size)
    have f3 := relayAll_fits t2 es1 (SetTable.grown es1.size)
    have r3 := relayAll_ris t2 es1 (SetTable.grown es1.size)
    have l3 := relayAll_led t2 es1 (SetTable.grown es1.size)
    generalize relayAll t2 es1 (SetTable.grown es1.size) = Z at p3 f3 r3 l3 ⊢
    obtain ⟨es2, t3, gave⟩ := Z
    dsimp only at p3 f3 r3 l3 ⊢
    have z2 : es2.size = es1.size := by
      have := p3.length_eq
      rw [Array.length_toList, Array.length_toList] at this
      exact this
    refine wpAny_bind (hg _ _ _ ?_)
    refine wpAny_bind (wpAny_storeSet_of q1 rfl ?_ (fits_of_scanBound (by rw [z2]; exact hb1)))
    have q2 := store_at (es' := es2) (t' := t3) q1 rfl
    refine wpAny_pure (hR _ (sb.trans (Heap.SameBut.update _ a _)) ?_)
    exact ⟨_, es2, _, t3, q2, hx, rfl, fun e he => g1 e (p3.mem_iff.mp he), (p3.map tx).trans m1, by rw [z2]; exact hb1, f3, r3, hl.imp id fun z => l3.trans z⟩
  · exact wpAny_pure (hR _ sb ⟨_, es1, _, t2, q1, hx, rfl, g1, m1, hb1, hf2, hr, hl⟩)

theorem add_hashed {k : Str} {u : Tok} {Q : Bool → Shared → Prop} (R : At w s.heap a ys) (room : ys.length + 1 < scanBound)
    (hQ : ∀ h', Heap.SameBut a s.heap h' → At w h' a (if k ∈ ys then ys else k :: ys) → Q (!decide (k ∈ ys)) { s with heap := h' }) :
    wpAny (model P w) A (setAddHashed a (.str k u) (hashStr w k)) Q E s := by
  obtain ⟨o, es, ep, t, ho, hx, hd, g, pm, hb, hf, hr, hl⟩ := R
  have hkey : (strKind P w).is k (.str k u) = true := Froz.is_str k u
  have hel : ElemsOf (strKind P w) es.toList := Ent.elems g
  have hz : es.size = ys.length := by
    have := pm.length_eq
    rw [List.length_map, Array.length_toList] at this
    exact this
  unfold setAddHashed setAddHashedIn
  refine wpAny_holding (wpAny_bind (wpAny_setState_of ho hd hf ?_))
  dsimp only
  rw [byScan_of (x := Value.str k u) rfl hb hel]
  simp only [↓reduceIte]
  unfold setAddByScan
  refine wpAny_bind ?_
  refine wpAny_bind (wpAny_rule ?_)
  refine wpAny_bind (wpAny_setScan_of (knd := strKind P w) (k := k) hkey ho hd hf hel ?_)
  cases hfi : List.findIdx? (fun e => (strKind P w).is k e.2) es.toList with
  | some j =>
    dsimp only
    obtain ⟨hj, pj, _⟩ := List.findIdx?_eq_some_iff_getElem.mp hfi
    have hk : k ∈ ys := pm.mem_iff.mp ((Ent.mem (P := P) g k).mpr ⟨es.toList[j], List.getElem_mem hj, pj⟩)
    refine wpAny_pure (wpAny_pure ?_)
    have q := hQ s.heap (Heap.SameBut.refl a s.heap) (by rw [if_pos hk]; exact ⟨o, es, ep, t, ho, hx, hd, g, pm, hb, hf, hr, hl⟩)
    rw [decide_eq_true hk] at q
    exact q
  | none =>
    dsimp only
    have hk : k ∉ ys := fun z => by
      obtain ⟨e, he, q⟩ := (Ent.mem (P := P) g k).mp (pm.mem_iff.mpr z)
      have c := List.findIdx?_eq_none_iff.mp hfi e he
      rw [q] at c
      cases c
    have hgw : ∀ (b : Bool) {z : Shared} {R : Unit → Shared → Prop}, R () z → wpAny (model P w) A (match b with | true => rule "set.scan.the-table-gave-way" | false => pure ()) R E z := by
      intro b z R q
      cases b
      · exact wpAny_pure q
      · exact wpAny_rule q
    have p1 := layNew_perm t es (hashStr w k) (.str k u)
    have f1 := layNew_fits t es (hashStr w k) (.str k u)
    have r1 := layNew_ris t es (hashStr w k) (.str k u) hr
    have l1 := layNew_led t es (hashStr w k) (.str k u)
    generalize layNew t es (hashStr w k) (.str k u) = Z at p1 f1 r1 l1 ⊢
    obtain ⟨es1, t1, was, gave⟩ := Z
    dsimp only at p1 f1 r1 l1 ⊢
    rw [Array.toList_push] at p1
    have pc : es1.toList.Perm ((hashStr w k, Value.str k u) :: es.toList) := p1.trans (List.perm_append_singleton _ _)
    have pk : (es1.toList.map tx).Perm (k :: ys) := (pc.map tx).trans (List.Perm.cons k pm)
    have g1 : ∀ e ∈ es1.toList, Ent w e := by
      intro e he
      cases List.mem_cons.mp (pc.mem_iff.mp he) with
      | inl z => exact ⟨k, u, by rw [z], by rw [z]⟩
      | inr z => exact g e z
    have hb1 : es1.size < scanBound := by
      have e1 : es1.size = ys.length + 1 := by
        have := pk.length_eq
        rw [List.length_map, Array.length_toList] at this
        exact this
      rw [e1]
      exact room
    have hld : w.params.followText "set-order" = true ∨ t1.led = true := hl.imp id fun z => l1.trans z
    have fin : ∀ h', Heap.SameBut a s.heap h' → At w h' a (k :: ys) → Q true { s with heap := h' } := by
      intro h' sb r
      have q := hQ h' sb (by rw [if_neg hk]; exact r)
      rw [decide_eq_false hk] at q
      exact q
    refine wpAny_bind (hgw _ ?_)
    split
    · refine wpAny_bind ?_
      rw [hashByValue_scannable 8 (x := Value.str k u) rfl]
      refine wpAny_pure ?_
      refine add_tail (ys := k :: ys) ?_ ho hx hd g1 pk hb1 ?_ ?_ ?_ ?_
      · intro b z R q
        cases b
        · exact wpAny_pure q
        · exact wpAny_rule q
      · first | (split <;> first | exact f1 | exact SetTable.fits_plain_off f1) | exact f1
      · first | (split <;> exact r1) | exact r1
      · first | (split <;> exact hld) | exact hld
      · intro h' sb r
        dsimp only
        exact wpAny_pure (fin h' sb r)
    · refine wpAny_bind (wpAny_pure ?_)
      simp only [↓reduceIte]
      refine add_tail (ys := k :: ys) ?_ ho hx hd g1 pk hb1 f1 r1 hld ?_
      · intro b z R q
        cases b
        · exact wpAny_pure q
        · exact wpAny_rule q
      · intro h' sb r
        dsimp only
        exact wpAny_pure (fin h' sb r)
end

/-! ### the signs of a text, each once -/
abbrev one (c : Nat) : Str := ⟨#[c]⟩
theorem one_inj {c d : Nat} (h : one c = one d) : c = d := by
  have q : [c] = [d] := congrArg (fun y : Str => y.cps.toList) h
  exact (List.cons.inj q).1
/-- the members behind the first signs -/
def met : List Nat → List Nat → List Nat
  | acc, [] => acc
  | acc, c :: r => met (if c ∈ acc then acc else c :: acc) r
theorem met_len (l : List Nat) : ∀ acc : List Nat, (met acc l).length ≤ acc.length + l.length := by
  induction l with
  | nil => intro acc; exact Nat.le_refl _
  | cons c r ih =>
    intro acc
    have h := ih (if c ∈ acc then acc else c :: acc)
    show (met (if c ∈ acc then acc else c :: acc) r).length ≤ acc.length + (r.length + 1)
    split at h <;> rename_i hc
    · rw [if_pos hc]; omega
    · rw [if_neg hc]
      rw [List.length_cons] at h
      omega
theorem met_mem (l : List Nat) : ∀ (acc : List Nat) (c : Nat), c ∈ met acc l ↔ c ∈ acc ∨ c ∈ l := by
  induction l with
  | nil => intro acc c; simp [met]
  | cons d r ih =>
    intro acc c
    show c ∈ met (if d ∈ acc then acc else d :: acc) r ↔ _
    rw [ih]
    by_cases hd : d ∈ acc
    · rw [if_pos hd, List.mem_cons]
      constructor
      · rintro (q | q)
        · exact .inl q
        · exact .inr (.inr q)
      · rintro (q | q | q)
        · exact .inl q
        · exact .inl (q ▸ hd)
        · exact .inr q
    · rw [if_neg hd, List.mem_cons, List.mem_cons]
      constructor
      · rintro ((q | q) | q)
        · exact .inr (.inl q)
        · exact .inl q
        · exact .inr (.inr q)
      · rintro (q | q | q)
        · exact .inl (.inr q)
        · exact .inl (.inl q)
        · exact .inr q
theorem met_nodup (l : List Nat) : ∀ acc : List Nat, acc.Nodup → (met acc l).Nodup := by
  induction l with
  | nil => intro acc h; exact h
  | cons d r ih =>
    intro acc h
    refine ih _ ?_
    by_cases hd : d ∈ acc
    · rw [if_pos hd]; exact h
    · rw [if_neg hd]; exact List.nodup_cons.mpr ⟨hd, h⟩
theorem met_mono (l : List Nat) : ∀ (acc : List Nat), acc.length ≤ (met acc l).length := by
  induction l with
  | nil => intro acc; exact Nat.le_refl _
  | cons d r ih =>
    intro acc
    refine Nat.le_trans ?_ (ih _)
    by_cases hd : d ∈ acc
    · rw [if_pos hd]; exact Nat.le_refl _
    · rw [if_neg hd]; exact Nat.le_succ _
theorem mem_one {c : Nat} {l : List Nat} : one c ∈ l.map one ↔ c ∈ l := by
  rw [List.mem_map]
  exact ⟨fun ⟨d, hd, q⟩ => one_inj q ▸ hd, fun q => ⟨c, q, rfl⟩⟩

section
variable {P : Program} {w : World} {A : Around} {R : Result → Shared → Prop} {I : Addr} {fp wr : List Addr} {St : Nat → Heap → Prop} {x : Str}
/-- the making: sign by sign into the set at S -/
theorem loop (W : Walks P w A.in1 I fp wr x.cps.size (SignAt x) St) (S : Addr) (hS : S ∉ fp) (hfew : (met [] x.cps.toList).length + 1 < scanBound) :
    ∀ (r : List Nat) (i : Nat) (acc : List Nat) (s : Shared), x.cps.toList.drop i = r → i ≤ x.cps.size → met acc r = met [] x.cps.toList → St i s.heap → At w s.heap S (acc.map one) →
      (∀ h' tk, (∀ b o, b ≠ S → b ∉ wr → s.heap.get? b = some o → h'.get? b = some o) → At w h' S ((met [] x.cps.toList).map one) → R (.ok (.ret .none)) { s with heap := h', toks := tk }) →
      codeAny (model P w) A (.builtin "set.update.loop" ⟨[.ref S, .ref I], []⟩) R s := by
  have hSw : S ∉ wr := fun z => hS (W.sub _ z)
  intro r
  induction r with
  | nil =>
    intro i acc s hr hi hm hst hat hR
    have hin : i = x.cps.size := by
      have := List.drop_eq_nil_iff.mp hr
      rw [Array.length_toList] at this
      omega
    subst hin
    refine codeAny_builtin PyProof.Rows.F.entry_set_update_loop ?_
    rw [Around.under_plainId PyProof.Rows.F.plain_set_update_loop _]
    show wpAny _ A.in1 (pyNext (.ref I) >>= _) _ _ s
    refine wpAny_bind (W.done s _ _ hst fun h' tk k => ?_)
    show wpAny _ A.in1 (ret Value.none) _ _ _
    refine wpAny_pure (hR h' tk (fun b o _ hb e => k b o hb e) ?_)
    have e : acc = met [] x.cps.toList := hm
    rw [← e]
    exact hat.stays fun o e => k S o hSw e
  | cons c r ih =>
    intro i acc s hr hi hm hst hat hR
    obtain ⟨hx, hr2⟩ := Froz.at_of hr
    have hlt : i < x.cps.size := by
      rcases Nat.lt_or_ge i x.cps.size with z | z
      · exact z
      · rw [Array.getElem?_eq_none z] at hx
        cases hx
    refine codeAny_builtin PyProof.Rows.F.entry_set_update_loop ?_
    rw [Around.under_plainId PyProof.Rows.F.plain_set_update_loop _]
    show wpAny _ A.in1 (pyNext (.ref I) >>= _) _ _ s
    refine wpAny_bind (W.item i s _ _ hlt hst fun v h1 tk1 hv hst1 k1 => ?_)
    obtain ⟨d, u, hd, rfl⟩ := hv
    have ed : d = c := Option.some.inj (hd.symm.trans hx)
    subst ed
    have hat1 : At w h1 S (acc.map one) := hat.stays fun o e => k1 S o hSw e
    show wpAny _ A.in1 (holding [Value.str (one d) u] (setAdd S (.str (one d) u)) >>= _) _ _ _
    refine wpAny_bind (wpAny_holding ?_)
    unfold setAdd
    refine wpAny_holding ?_
    refine wpAny_bind ((strKind P w).pyHash (k := one d) (Froz.is_str _ _) ?_)
    have hlen : (acc.map one).length + 1 < scanBound := by
      rw [List.length_map]
      have := met_mono (d :: r) acc
      rw [hm] at this
      omega
    refine add_hashed (ys := acc.map one) (s := { s with heap := h1, toks := tk1 + 1 }) hat1 hlen fun h2 sb hat2 => ?_
    have e2 : (if one d ∈ acc.map one then acc.map one else one d :: acc.map one) = (if d ∈ acc then acc else d :: acc).map one := by
      by_cases z : d ∈ acc
      · rw [if_pos z, if_pos (mem_one.mpr z)]
      · rw [if_neg z, if_neg (fun q => z (mem_one.mp q))]
        rfl
    rw [e2] at hat2
    have k2 : ∀ b o, b ≠ S → h1.get? b = some o → h2.get? b = some o := fun b o hb e => (sb.2 b hb).trans e
    refine wpAny_pure ⟨plainId_quiet PyProof.Rows.F.plain_set_update_loop _, ih (i + 1) _ _ hr2 hlt hm (W.frame _ _ _ hst1 fun b hb o e => k2 b o (fun z => hS (z ▸ hb)) e) hat2 fun h3 tk3 k3 hat3 => ?_⟩
    exact hR h3 tk3 (fun b o hb hw e => k3 b o hb hw (k2 b o hb (k1 b o hw e))) hat3
end
end Tx

set_option Elab.async false
set_option linter.all false
set_option maxRecDepth 100000
set_option maxHeartbeats 3200000
/-! sets of texts: set(a text), sorted(it), as calls -/
namespace Tx
open PySem PySem.Spec PyProof.Rows L2

section
variable {P : Program} {w : World} {A : Around} {E : Value → Shared → Prop} {s : Shared}
theorem fresh_at (w : World) (h : Heap) (led : Bool) (hl : w.params.followText "set-order" = true ∨ led = true) :
    At w (h.push { cls := .type "set", dict := none, data := .set #[] 0 (.fresh 0 0 led) }) h.objs.size ([] : List Str) :=
  ⟨_, #[], 0, .fresh 0 0 led, Heap.get?_push_size _ rfl, ⟨rfl, rfl, rfl⟩, rfl, (fun e he => by simp at he), by simp, by decide, by rfl, List.Pairwise.nil, hl⟩

/-- a new set, as set.__new__ lays it -/
theorem new_set (v : Value) {R : Value → Shared → Prop}
    (h : R (.ref s.heap.objs.size) { s with heap := s.heap.push { cls := .type "set", dict := none, data := .set #[] 0 (.fresh 0 0 (!w.params.followText "set-order")) } }) :
    codeAny (model P w) A (.call (.builtin "set.__new__") ⟨[.type "set", v], []⟩) (wants R E) s := by
  refine codeAny_of_tree ?_
  show wpAny _ A.in1 (do
    checkBuiltinCall "set.__new__" ⟨[.type "set", v], []⟩
    again (.builtin "set.__new__" ⟨[.type "set", v], []⟩)) _ _ s
  refine wpAny_bind (wpAny_of_eq (F.newCall_set_1 v) (wpAny_pure ⟨plainId_quiet F.plain_set_new _, codeAny_builtin F.entry_set_new ?_⟩))
  rw [Around.under_plainId F.plain_set_new _]
  unfold Builtin.«set.__new__»
  unfold Builtin.Frozenset.newClass
  have hsub := sub_set_self
  obtain ⟨hp, g, d, tk, os⟩ := s
  dsimp only
  wp_walk
  refine wpAny_askSetting (wpAny_pure ?_)
  dsimp only
  simp only [newObj]
  exact wpAny_bind (wpAny_alloc (wpAny_pure (wpAny_pure h)))

theorem call_set_text {x : Str} {t : Tok} {Q : Value → Shared → Prop} (hh : A.handled = none) (hfew : (met [] x.cps.toList).length + 1 < scanBound)
    (h : ∀ (h' : Heap) (tk : Nat), At w h' s.heap.objs.size ((met [] x.cps.toList).map one) → (∀ b o, s.heap.get? b = some o → h'.get? b = some o) → Q (.ref s.heap.objs.size) { s with heap := h', toks := tk }) :
    wpAny (model P w) A (call (.type "set") [.str x t]) Q E s := by
  obtain ⟨c, tl, hmro⟩ := PySem.F.called_set.mro
  have hmade := PySem.F.called_set.made
  have hsub := PySem.F.called_set.sub
  refine wpAny_call (codeAny_of_tree ?_)
  show wpAny _ _ (callAny (.type "set") _) _ _ _
  refine wpAny_pure ⟨Code.quiet_builtin _ (by decide +kernel), codeAny_builtin PySem.F.entry_type_call ?_⟩
  rw [Around.under_plain (weight_type_call_type "set" [.str x t] []) rfl]
  have h1 := PySem.F.called_set.notType
  have h2 := PySem.F.called_set.canCreate
  have hct := PySem.F.typeCall_set_1 (.str x t)
  repeat (any_goals (first | assumption | wp_step))
  refine codeAny_mono (new_set (P := P) (w := w) (E := E) (.str x t) (R := fun obj z => ∃ led : Bool, (w.params.followText "set-order" = true ∨ led = true) ∧ obj = .ref s.heap.objs.size ∧ z = { s with heap := s.heap.push { cls := .type "set", dict := none, data := .set #[] 0 (.fresh 0 0 led) } }) ⟨_, ?_, rfl, rfl⟩) fun r z hr => ?_
  · cases w.params.followText "set-order"
    · exact .inr rfl
    · exact .inl rfl
  cases r with
  | error e => exact hr
  | ok fl =>
    cases fl with
    | ret obj =>
      obtain ⟨led, hled, rfl, rfl⟩ := hr
      have hS : (s.heap.push { cls := .type "set", dict := none, data := .set #[] 0 (.fresh 0 0 led) }).get? s.heap.objs.size = some { cls := .type "set", dict := none, data := .set #[] 0 (.fresh 0 0 led) } := Heap.get?_push_size _ rfl
      have hT : Shared.TypeIs { s with heap := s.heap.push { cls := .type "set", dict := none, data := .set #[] 0 (.fresh 0 0 led) } } (.ref s.heap.objs.size) "set" := ⟨_, hS, rfl⟩
      have hli := PySem.F.called_set.init.lookup
      have hbi := PySem.F.called_set.init.bind (.ref s.heap.objs.size)
      repeat (any_goals (first | assumption | wp_step))
      refine codeAny_mono (codeAny_call_builtin (R := wants (fun r z => r = .none ∧ ∃ h' tk, z = { s with heap := h', toks := tk } ∧ At w h' s.heap.objs.size ((met [] x.cps.toList).map one) ∧
          (∀ b o, s.heap.get? b = some o → h'.get? b = some o)) E) PySem.F.called_set.init.plain PySem.F.entry_set_init (check_set_init_1 hT ?_)) fun r₂ s₂ hr₂ => ?_
      · unfold Builtin.«set.__init__» noKeywords Builtin.Frozenset.updateFrom
        generalize hPI : pyIter = PI
        generalize hAS : Builtin.Frozenset.isAnySet = AS
        wp_walk
        subst hPI
        subst hAS
        refine L2.Fz.anySet ?_
        simp only [Bool.false_eq_true, ↓reduceIte]
        refine wpAny_bind (wpAny_typeOf (typeIs_str _ _ _) ?_)
        have hsd : (Value.type "str" == Value.type "dict") = false := by decide
        simp only [hsd, Bool.false_eq_true, ↓reduceIte]
        refine wpAny_bind (wpAny_pyIter_str fun o St W hst => ?_)
        refine wpAny_bind (wpAny_runValue ?_)
        have hne : s.heap.objs.size ∉ [(s.heap.push { cls := .type "set", dict := none, data := .set #[] 0 (.fresh 0 0 led) }).objs.size] := by
          rw [Heap.size_push, List.mem_singleton]
          exact Nat.ne_of_lt (Nat.lt_succ_self _)
        refine loop (W _ (by simp [hh])) s.heap.objs.size hne hfew _ 0 [] _ (by rfl) (Nat.zero_le _) rfl hst ?_ ?_
        · exact (fresh_at w s.heap led hled).stays fun o e => Heap.get?_push_of_some _ e
        · intro h' tk k hat
          refine wpAny_pure ?_
          show wpAny _ _ (ret Value.none) _ _ _
          refine wpAny_pure ⟨rfl, h', tk, rfl, hat, fun b o e => ?_⟩
          have hb := Heap.lt_size e
          refine k b o (Nat.ne_of_lt hb) ?_ (Heap.get?_push_of_some _ (Heap.get?_push_of_some _ e))
          rw [Heap.size_push, List.mem_singleton]
          exact Nat.ne_of_lt (Nat.lt_succ_of_lt hb)
      · cases r₂ with
        | error e => exact hr₂
        | ok fl₂ =>
          cases fl₂ with
          | ret r =>
            obtain ⟨rfl, h', tk, rfl, hS', hk'⟩ := hr₂
            repeat (any_goals (first | assumption | wp_step))
            exact h _ _ hS' hk'
          | _ => exact hr₂.elim
    | _ => exact hr.elim

/-! ### sorted(a set of one-sign texts) -/
theorem vals_strs {vs : List Value} : ∀ {es : List (Int × Value)}, (∀ e ∈ es, Ent w e) → vs.Perm (es.map (·.2)) → StrsAre vs (vs.map strOf) ∧ (vs.map strOf).Perm (es.map tx) := by
  intro es g p
  refine ⟨strsAre_map vs fun v hv => ?_, ?_⟩
  · obtain ⟨e, he, q⟩ := List.mem_map.mp (p.mem_iff.mp hv)
    obtain ⟨y, u, q1, _⟩ := g e he
    exact ⟨y, u, by rw [← q]; exact q1⟩
  · have q := p.map strOf
    rw [List.map_map] at q
    have e : es.map (strOf ∘ (·.2)) = es.map tx := List.map_congr_left fun e he => by
      obtain ⟨y, u, q1, _⟩ := g e he
      show strOf e.2 = tx e
      unfold tx
      rw [q1]
      rfl
    rw [e] at q
    exact q
theorem pairwise_of_sortedS : ∀ (l : List Str), sortedS l = true → l.Pairwise (fun a b => ltCps b.cps.toList a.cps.toList = false) := by
  have trans : ∀ a b c : List Nat, ltCps b a = false → ltCps c b = false → ltCps c a = false := by
    intro a b c h1 h2
    rw [ltCps_eq] at h1 h2 ⊢
    have h1' := of_decide_eq_false h1
    have h2' := of_decide_eq_false h2
    refine decide_eq_false fun z => ?_
    have n1 : a ≤ b := List.not_lt.mp h1'
    have n2 : b ≤ c := List.not_lt.mp h2'
    exact absurd z (List.not_lt.mpr (List.le_trans n1 n2))
  have all : ∀ (l : List Str) (p : Str), risingS p l = true → (p :: l).Pairwise (fun a b => ltCps b.cps.toList a.cps.toList = false) := by
    intro l
    induction l with
    | nil => intro p _; exact List.pairwise_singleton _ _
    | cons x r ih =>
      intro p h
      have h' : (!ltCps x.cps.toList p.cps.toList && risingS x r) = true := h
      rw [Bool.and_eq_true, Bool.not_eq_true'] at h'
      have q := ih x h'.2
      refine List.pairwise_cons.mpr ⟨fun y hy => ?_, q⟩
      rcases List.mem_cons.mp hy with z | z
      · rw [z]; exact h'.1
      · exact trans _ _ _ h'.1 ((List.pairwise_cons.mp q).1 y z)
  intro l h
  cases l with
  | nil => exact List.Pairwise.nil
  | cons x r => exact all r x h
theorem lt_one {c d : Nat} (h : ltCps (one d).cps.toList (one c).cps.toList = false) : c ≤ d := by
  rw [ltCps_eq] at h
  have q := of_decide_eq_false h
  rcases Nat.lt_or_ge d c with z | z
  · exact absurd (show [d] < [c] from List.cons_lt_cons_iff.mpr (.inl z)) q
  · exact z
/-- sorted one-sign texts, each once, are a rising row of signs -/
theorem rising {ss : List Str} {acc : List Nat} (p : ss.Perm (acc.map one)) (hs : sortedS ss = true) (hn : acc.Nodup) : ∃ ns : List Nat, ss = ns.map one ∧ ns.Perm acc ∧ ns.Pairwise (· < ·) := by
  have back : ∀ l : List Nat, (l.map one).map (fun y => y.cps.toList.headD 0) = l := by
    intro l
    rw [List.map_map]
    exact (List.map_congr_left fun c _ => rfl).trans (List.map_id l)
  have e : ss = (ss.map (fun y => y.cps.toList.headD 0)).map one := by
    rw [List.map_map]
    refine ((List.map_congr_left fun y hy => ?_).trans (List.map_id ss)).symm
    obtain ⟨c, _, q⟩ := List.mem_map.mp (p.mem_iff.mp hy)
    subst q
    rfl
  have pm : (ss.map (fun y => y.cps.toList.headD 0)).Perm acc := by
    have q := p.map (fun y => y.cps.toList.headD 0)
    rw [back] at q
    exact q
  refine ⟨_, e, pm, ?_⟩
  generalize ss.map (fun y => y.cps.toList.headD 0) = ns at e pm ⊢
  subst e
  have h1 := List.pairwise_map.mp (pairwise_of_sortedS _ hs)
  have h2 : ns.Nodup := pm.nodup_iff.mpr hn
  have h3 : ns.Pairwise (· ≠ ·) := h2
  refine List.Pairwise.imp₂ (fun x y a b => ?_) h1 h3
  have c := lt_one a
  omega

theorem sorted_text {a : Addr} {acc : List Nat} {Q : Value → Shared → Prop} (R : At w s.heap a (acc.map one)) (hn : acc.Nodup) (hh : A.handled = none) (h64 : acc.length < 64)
    (hQ : ∀ z p (out : Array Value) (c : Nat) (ns : List Nat), (∀ b o, s.heap.get? b = some o → z.heap.get? b = some o) → z.gens = s.gens → z.os = s.os → s.heap.objs.size ≤ p →
      z.heap.get? p = some (seqObj "list" out c) → StrsAre out.toList (ns.map one) → ns.Pairwise (· < ·) → ns.Perm acc → Q (.ref p) z) :
    wpAny (model P w) A (call (.builtin "sorted") [.ref a]) Q E s := by
  obtain ⟨o, es, ep, t, ho, hx, hd, g, pm, hb, hf, hr, hl⟩ := R
  refine Calls.call_function_entry kind_sorted plain_sorted entry_sorted (args_sorted1 _) ?_
  unfold Builtin.«sorted»
  refine wpAny_bind (m := checkCount "sorted" 1 1 _) (wpAny_pure ?_)
  refine wpAny_bind (collect_set (A := A.in1) hh ⟨o, ho, hx.1, hd⟩ hf hb hr hl fun s1 vs k1 hz g1 o1 pv => ?_)
  obtain ⟨hS, ps⟩ := vals_strs (w := w) g pv
  have ps2 := ps.trans pm
  have hvl : vs.length < 64 := by
    have q := ps2.length_eq
    rw [List.length_map, List.length_map] at q
    rw [q]; exact h64
  refine wpAny_bind (wpAny_newList ?_ (by rw [sizeLine_eq]; omega))
  have hoL : (s1.heap.push (seqObj "list" vs.toArray 0)).get? s1.heap.objs.size = some (seqObj "list" vs.toArray 0) := Heap.get?_push_size _ rfl
  refine wpAny_bind (wpAny_holding (wpAny_call_entry slot_list_sort ⟨_, hoL, rfl⟩ entry_list_sort
    (list_sort_treeK strKind_oneLt hoL hS.keysOf (fun v₁ v₂ rest e => keyKind_strs (by rw [← e]; exact hS)) hvl fun st' hp hs => ⟨_, rfl, ?_⟩) (args_list_sort _)))
  obtain ⟨ss, b1, b2, b3⟩ := sorted_out_str hS hp hs
  obtain ⟨ns, e, pn, ris⟩ := rising (b2.trans ps2) b3 hn
  subst e
  obtain ⟨c, hc⟩ := sortedHeap_at (vs := vs) (out := (arrOf st').map (·.2)) hoL
  refine wpAny_pure ⟨_, rfl, hQ _ s1.heap.objs.size _ c ns (fun b u e => ?_) g1 o1 hz hc b1 ris pn⟩
  have q := k1 b u e
  have hlt := Heap.lt_size q
  show (sortedHeap (s1.heap.push (seqObj "list" vs.toArray 0)) s1.heap.objs.size vs _).get? b = some u
  rw [sortedHeap_old (Nat.ne_of_lt hlt) (by rw [size_push']; exact Nat.lt_succ_of_lt hlt)]
  exact Heap.get?_push_of_some _ q
end
end Tx

set_option Elab.async false
set_option linter.all false
set_option maxRecDepth 100000
set_option maxHeartbeats 3200000
/-! defs that show data by repr: what is known of a call's guards goes along -/
namespace Tg
open PySem PySem.Spec PyProof.Rows L2

/-- nothing is being shown where the call stands -/
abbrev Still (A : Around) : Prop := A.guards = some []

/-- a def's promise, kept where nothing is being shown -/
structure Kept (P : Program) (w : World) (K : PySem.W.Frag) (mg : Str → Option Value) (base : Heap) (cx : CXT) (k : Nat) (f : Addr) (fd : FuncData) (ps : List Str) (sp : Sp) : Prop where
  long : ∀ xs H Q E, sp xs H Q E → xs.length = ps.length
  goes : ∀ (A : Around) (out : List Env) (s : Shared) (H : Hp) (args : Args) (us : List Value) (xs : List V) (Q : VK) (E : XK), Room k A → Still A → Env0 P w K mg base A out s H →
    BindsTo s fd args (ps.zip us) → Vals xs us → sp xs H Q E → codeAny (model P w) A (.call (.ref f) args) (CR cx out P w H s Q E) s

section
variable {P : Program} {w : World} {K : PySem.W.Frag} {mg : Str → Option Value} {base : Heap}
theorem Kept.ok {cx : CXT} {k : Nat} {f : Addr} {name qual : Str} {params : Arguments} {body : List Stmt} {scope : Scope} {dV kV doc pm cdv ct oc : Value} {an od : Option Addr}
    {osl : Array (Option Value)} {N ps : List Str} {sp : Sp}
    (look : K.lookup f = some ⟨oc, od, .func (PySem.W.fnOf name qual params body scope dV kV doc pm an cdv ct), osl⟩)
    (code : PySem.W.codeIn K cdv qual = true) (S : FnScope N ps scope) (long : ∀ xs H Q E, sp xs H Q E → xs.length = ps.length)
    (inner : ∀ (A : Around) (out : List Env) (s : Shared) (H : Hp) (xs : List V) (Q : VK) (E : XK), Room k (A.deeper (envOfC qual scope s.heap.objs.size f cdv)) →
      Still (A.deeper (envOfC qual scope s.heap.objs.size f cdv)) → sp xs H Q E →
      ∃ t, PSs (cxOf cx P w K mg base N qual scope f cdv A out s H E) body t ∧ t { nx := fun _ H2 => Q .non H2, rt := Q } (start N xs) H) :
    Kept P w K mg base cx (k + 1) f (PySem.W.fnOf name qual params body scope dV kV doc pm an cdv ct) ps sp where
  long := long
  goes := by
    intro A out s H args us xs Q E room still e0 bound rel hsp
    have hl := long _ _ _ _ hsp
    have inK : K.In s.heap := e0.mod.kin.keeps fun b o e => (e0.bs b o e).1
    have limit : s.heap.NoLimit := e0.mod.nolimit.keeps fun b o e => (e0.bs b o e).1
    have kinds : ∀ y ∈ ps.zip us, scope.names.lookup y.1 = some .local ∨
        (scope.names.lookup y.1 = some .cell ∧ ((cellsFrom (s.heap.objs.size + 1) scope.names []).lookup y.1).isSome = true) := by
      rintro ⟨n, v⟩ hy
      cases S.par n (List.of_mem_zip hy).1 with
      | inl q => exact .inl q
      | inr q => exact .inr ⟨q, PySem.W.cellsFrom_some _ _ _ (.inl q)⟩
    refine codeAny_call_function room.depth (inK _ _ look) rfl S.co S.gen rfl (PySem.W.codeRec_of inK code) (bound _ _ _ _ ?_)
    refine wpAny_newFunctionEnv_cells S.kind kinds fun env he z x => ?_
    subst he
    refine ⟨limit.keeps x.toInCall.keep, codeAny_func ?_⟩
    obtain ⟨t, ht, hq⟩ := inner A out s H xs Q E (room.deeper _) still hsp
    have J0 : Inv (cxOf cx P w K mg base N qual scope f cdv A out s H E) [] (start N xs) H z := inv_start S room.hd e0 hl rel x
    refine wpAny_mono (ht.run [] z (start N xs) H _ J0 hq) (fun fl z' hs => ?_) fun e z' hs => hs
    have close : ∀ {σ' : L2.St} {H2 : Hp} {v : V} {u : Value}, Inv (cxOf cx P w K mg base N qual scope f cdv A out s H E) [] σ' H2 z' → RelV v u → Q v H2 → CE out P w H s Q u z' := by
      intro σ' H2 v u J rv q
      exact ⟨v, H2, J.os, J.bare, J.base, J.hok, rv, q⟩
    cases fl with
    | ret u =>
      obtain ⟨v, σ', H2, J, rv, q⟩ := hs
      exact close J rv q
    | next =>
      obtain ⟨σ', H2, J, q⟩ := hs
      exact close (v := V.non) (u := Value.none) J rfl q
    | brk =>
      obtain ⟨_, _, _, q⟩ := hs
      exact q.elim
    | cont =>
      obtain ⟨_, _, _, q⟩ := hs
      exact q.elim

/-- for a def of the text that lets nothing out -/
theorem Kept.fn {x qual : Str} {st : Stmt} {f : Addr} {fd : FuncData} {N ps : List Str} {k : Nat} {sp : Sp} (F : Fun K x qual st f fd) (S : FnScope N ps (defScope st))
    (long : ∀ xs H Q E, sp xs H Q E → xs.length = ps.length)
    (inner : ∀ (cdv : Value) (A : Around) (out : List Env) (s : Shared) (H : Hp) (xs : List V) (Q : VK) (E : XK), Room k (A.deeper (envOfC qual (defScope st) s.heap.objs.size f cdv)) →
      Still (A.deeper (envOfC qual (defScope st) s.heap.objs.size f cdv)) → sp xs H Q E →
      ∃ t, PSs (cxOf CX0 P w K mg base N qual (defScope st) f cdv A out s H E).nox (defBody st) t ∧ t { nx := fun _ H2 => Q .non H2, rt := Q } (start N xs) H) :
    Kept P w K mg base CX0 (k + 1) f fd ps sp := by
  obtain ⟨oc, od, kV, doc, pm, an, cdv, ct, osl, e, look, code⟩ := F.ex
  subst e
  refine Kept.ok look code S long fun A out s H xs Q E room still hsp => ?_
  obtain ⟨t, h, q⟩ := inner cdv A out s H xs Q E room still hsp
  exact ⟨t, h.nox, q⟩
end

section
variable {X : Cx} {cx : CXT} {k : Nat} {f : Addr} {fd : FuncData} {ps : List Str} {sp : Sp} {dvs : List V} {ds : List Value} {E : XK} {x : Str} {p pos : Pos} {e : Expr} {es : List Expr} {t : TA}
theorem Kept.runs {pins : List (Addr × Obj)} {σ : L2.St} {H : Hp} {s : Shared} {Q : VK} {us : List Value} {xs : List V} (F : Kept X.prog X.w X.K X.mg X.base cx k f fd ps sp) (room : Room k X.A) (still : Still X.A)
    (hb : Binds X.K fd ps ds) (hd : Vals dvs ds) (hx : Passes cx X E) (I : Inv X pins σ H s) (r : Vals xs us) (h : sp (xs ++ dvs) H Q E) :
    wpAny (model X.prog X.w) X.A (call (.ref f) us) (EP X pins σ Q) X.xe s := by
  have r2 : Vals (xs ++ dvs) (us ++ ds) := r.append hd
  have hl : (us ++ ds).length = ps.length := r2.length.symm.trans (F.long _ _ _ _ h)
  refine wpAny_call (codeAny_mono (F.goes X.A X.stack s H ⟨us, []⟩ (us ++ ds) (xs ++ dvs) Q E room still I.env0 (hb s us I.kIn hl) r2 h) fun r z hq => ?_)
  match r, hq with
  | .error e, hq => exact hx pins σ H s e z I hq
  | .ok (.ret u), hq => exact I.after hq
  | .ok .next, hq => exact False.elim hq
  | .ok .brk, hq => exact False.elim hq
  | .ok .cont, hq => exact False.elim hq
/-- f(e, ..) of such a def -/
theorem pe_callG (F : Kept X.prog X.w X.K X.mg X.base cx k f fd ps sp) (room : Room k X.A) (still : Still X.A) (hg : Gl X x) (hm : X.mg x = some (.ref f)) (hk : PySem.W.keepIn X.K (.ref f) = true)
    (hb : Binds X.K fd ps ds) (hd : Vals dvs ds) (hx : Passes cx X E) (ha : PA X (e :: es) t) (hdb : (x == ("__debug__" : Str)) = false := by decide)
    (he : starEach (e :: es) X.env = (false, eval e X.env) :: starEach es X.env := by rfl) (hpl : (backTo pos (starEach es X.env)).any (·.1) = false := by rfl) :
    PE X (.Call (.Name x p) (e :: es) [] pos) (tCall sp dvs E t) := by
  constructor
  intro pins s σ H Q I h
  refine wpAny_Call_Name_kw (ld_glob I hg hm ?_ hdb)
  refine PySem.W.callWith_K (h₀ := X.base) I.ok.mod.kin hk ?_ he hpl
  exact thn (ha.run pos pins s σ H _ I h) fun us z ⟨xs, H1, J, r, q⟩ => ⟨J.kIn, F.runs room still hb hd hx J r q⟩

/-- data as it stands in the abstract heap: none, bools, ints, texts, lists, tuples, and dicts of texts and ints -/
inductive Data (K : PySem.W.Frag) (H : Hp) : V → PyData → Prop
  | flat {v : V} {d : PyData} (h : Dp K H v d) (n : d.hasDict = false) : Data K H v d
  | dict {a : Addr} {kvs : List (Str × Int)} (h : H a = some (.dK (kvs.map fun p => (Sum.inr p.1, V.int p.2)))) : Data K H (.ref a) (.dict (kvs.map fun p => (.str p.1, .int p.2)))

theorem keys_flat (h : Heap) : ∀ (kvs : List (Str × Int)) (es : List DictEntry) (vs : List (Key × Value)), Pairs (mixKind X.prog X.w) es vs → KV (kvs.map fun p => (Sum.inr p.1, V.int p.2)) vs →
    ReadsAll h (es.map (·.key)) ((kvs.map fun p => ((PyData.str p.1, PyData.int p.2) : PyData × PyData)).map (·.1)) [] ∧ ReadsAll h (es.map (·.val)) ((kvs.map fun p => ((PyData.str p.1, PyData.int p.2) : PyData × PyData)).map (·.2)) [] := by
  intro kvs
  induction kvs with
  | nil =>
    intro es vs hp rel
    cases rel
    cases hp
    exact ⟨.nil, .nil⟩
  | cons p kvs ih =>
    intro es vs hp rel
    cases rel with
    | @cons _ kv _ vs' r1 r2 =>
      cases hp with
      | @cons e _ es' _ hk hv hp' =>
        obtain ⟨q1, q2⟩ := ih _ _ hp' r2
        obtain ⟨k0, v0⟩ := kv
        obtain ⟨r3, r4⟩ := r1
        dsimp only at r3 r4 hk hv
        subst r3
        obtain ⟨t, r4⟩ := r4
        rcases keyIs_shape (show keyIs (Sum.inr p.1 : Key) e.key = true from hk) with ⟨i, t', z, _⟩ | ⟨x, t', z, e'⟩
        · cases z
        · cases z
          refine ⟨?_, ?_⟩
          · show ReadsAll h (e.key :: _) (PyData.str p.1 :: _) ([] ++ [])
            rw [e']
            exact .cons (.str _ _) q1
          · show ReadsAll h (e.val :: _) (PyData.int p.2 :: _) ([] ++ [])
            rw [hv, r4]
            exact .cons (.int _ _) q2
theorem Data.reads {pins : List (Addr × Obj)} {σ : L2.St} {H : Hp} {s : Shared} (I : Inv X pins σ H s) {v : V} {u : Value} {d : PyData} (h : Data X.K H v d) (r : RelV v u) :
    ∃ as, Reads s.heap u d as ∧ (d.hasDict = true → sysModules ∉ as) := by
  cases h with
  | flat h n =>
    obtain ⟨as, q⟩ := Dp.reads I d v u h r
    exact ⟨as, q, fun z => by rw [n] at z; cases z⟩
  | @dict a kvs h =>
    cases r
    obtain ⟨hz, hs, vs, rel, o, es, ep, ho, hx, hd, _, hp, _⟩ := I.hok a _ h
    obtain ⟨q1, q2⟩ := keys_flat (X := X) s.heap kvs _ _ hp rel
    refine ⟨_, Reads.dict ho hx.1 hd q1 q2, fun _ z => ?_⟩
    simp only [List.append_nil, List.mem_singleton] at z
    rw [z] at hs
    simp at hs

/-- repr(x) -/
def rShow (K : PySem.W.Frag) : List V → Hp → VK → Prop := fun xs H Q => ∃ (x : V) (d : PyData), xs = [x] ∧ Data K H x d ∧ d.showable = true ∧ d.depth < 60 ∧ d.shown.length ≤ sizeLine ∧ Q (.str d.shown) H
theorem call_show (still : Still X.A) (hu : X.A.units + 64 < cLine) : CallR X (.builtin "repr") (rShow X.K) := by
  intro pins s σ H xs us Q I r h
  obtain ⟨x, d, rfl, hd, h1, h3, h4, q⟩ := h
  obtain ⟨u, rfl, r1⟩ : ∃ u, us = [u] ∧ RelV x u := by
    cases r with
    | cons a b => cases b; exact ⟨_, rfl, a⟩
  obtain ⟨as, rd, hsm⟩ := Data.reads I hd r1
  cases rd with
  | none => exact P.repr_of_none ⟨.str (PyData.shown .none), H, I.tok _, ⟨_, rfl⟩, q⟩
  | bool b => exact P.repr_of_bool ⟨.str (PyData.shown (.bool b)), H, I.tok _, ⟨_, rfl⟩, q⟩
  | int i t => exact P.repr_of_int (of_decide_eq_true h1) ⟨.str (PyData.shown (.int i)), H, I.tok _, ⟨_, rfl⟩, q⟩
  | str z t => exact P.repr_of_str ⟨.str (PyData.shown (.str z)), H, I.tok _, ⟨_, rfl⟩, q⟩ h4
  | list a1 a2 a3 a4 => exact repr_of_reads' (Reads.list a1 a2 a3 a4) h1 hsm still (by omega) (fun _ _ e => e) (fun h' u tk hk => ⟨.str (PyData.shown _), H, I.kept (t' := tk) hk, ⟨_, rfl⟩, q⟩) h4
  | tuple a1 a2 a3 a4 => exact repr_of_reads' (Reads.tuple a1 a2 a3 a4) h1 hsm still (by omega) (fun _ _ e => e) (fun h' u tk hk => ⟨.str (PyData.shown _), H, I.kept (t' := tk) hk, ⟨_, rfl⟩, q⟩) h4
  | dict a1 a2 a3 a4 a5 => exact repr_of_reads' (Reads.dict a1 a2 a3 a4 a5) h1 hsm still (by omega) (fun _ _ e => e) (fun h' u tk hk => ⟨.str (PyData.shown _), H, I.kept (t' := tk) hk, ⟨_, rfl⟩, q⟩) h4
end

/-! ### the head: the law's call, nothing being shown -/
section
variable {P : Program} {w : World} {K : PySem.W.Frag} {mg mb : Str → Option Value} {cx : CXT} {k : Nat} {fa a : Addr} {fd : FuncData} {x : Str} {sp : Sp} {s₁ : Shared} {vs : List Value} {ns : List Int}
/-- from one abstract heap in which at most the script stands -/
theorem law_core (KX : K.In s₁.heap) (hns : s₁.heap.Ns mainGlobals mg) (hb : s₁.heap.Ns builtinsNs mb) (hbb : ∀ x : Str, x ≠ "__name__" → mb x = bootBuiltins x) (hlim : s₁.heap.NoLimit) (hg : s₁.gens = #[])
    (ha : s₁.heap.get? a = some { cls := .type "list", data := .seq vs.toArray }) (room : Room k callerA)
    (F : ∀ base : Heap, K.In base → base.Ns mainGlobals mg → Kept P w K mg base cx k fa fd [x] sp) (hbind : ∀ (s : Shared) (u : Value), BindsTo s fd ⟨[u], []⟩ [(x, u)])
    (hcx : ∀ H e z, cx [] H s₁ (fun _ _ _ => False) e z → False)
    (H : Hp) (only : Only H) (want : sp [.ref a] H (fun v _ => v = .bl true) fun _ _ _ => False) (hok : HOk P w H s₁.heap) (at_a : ∀ b, H b ≠ none → b = a) (notK : H a ≠ none → K.lookup a = none) :
    codeAny (model P w) callerA (.call (.ref fa) ⟨[.ref a], []⟩) (fun r z => r = .ok (.ret (.bool true)) ∧ OldK s₁.heap z.heap ∧ z.os = s₁.os ∧ AllBare z.gens) s₁ := by
  have under : ∀ {b : Addr} {o : Obj}, s₁.heap.get? b = some o → H b = none → (hidT s₁.heap H).get? b = some o := fun e n => hidT_get e n
  have away : ∀ {b : Addr}, (b = a → False) → H b = none := by
    intro b n
    cases q : H b with
    | none => rfl
    | some u => exact (n (at_a b (by rw [q]; simp))).elim
  have noDict : ∀ {b : Addr} {o : Obj} {es : Array DictEntry} {ep : Nat}, s₁.heap.get? b = some o → o.data = .dict es ep → H b = none := by
    intro b o es ep e d
    refine away fun z => ?_
    subst z
    rw [ha] at e
    cases e
    cases d
  have names : ∀ {b : Addr} {m : Str → Option Value}, s₁.heap.Ns b m → (hidT s₁.heap H).Ns b m := by
    rintro b m ⟨o, es, ep, e, d, r⟩
    exact ⟨o, es, ep, under e (noDict e d), d, r⟩
  have inB : K.In (hidT s₁.heap H) := by
    intro b o e
    refine under (KX b o e) ?_
    cases q : H b with
    | none => rfl
    | some u =>
      have z := at_a b (by rw [q]; simp)
      subst z
      have n := notK (by rw [q]; simp)
      rw [n] at e
      cases e
  have md : Mod K mg (hidT s₁.heap H) := ⟨inB, names hns, ⟨mb, names hb, hbb⟩, let ⟨mc, h1, h2⟩ := hlim; ⟨mc, names h1, h2⟩⟩
  have e0 : Env0 P w K mg (hidT s₁.heap H) callerA [] s₁ H := by
    refine ⟨rfl, md, fun b o e => of_hidT e, Nat.le_of_eq (hidT_size _ _), trivial, fun b hb => ?_, hok, .of_eq hg⟩
    exact absurd (show b ∈ ([] : List Addr) from hb) (by simp)
  refine codeAny_mono ((F _ inB (names hns)).goes callerA [] s₁ H ⟨[.ref a], []⟩ [.ref a] [.ref a] _ _ room rfl e0 (hbind s₁ (.ref a)) (.cons rfl .nil) want) fun r z h => ?_
  match r, h with
  | .error e, h => exact (hcx H e z h).elim
  | .ok .next, h => exact False.elim h
  | .ok .brk, h => exact False.elim h
  | .ok .cont, h => exact False.elim h
  | .ok (.ret u), h =>
    obtain ⟨v, H2, os, bare, un, hok2, r2, q⟩ := h
    have q' : v = .bl true := q
    subst q'
    obtain rfl : u = Value.bool true := r2
    refine ⟨rfl, OldK.of_keep fun b o e => ?_, os, bare⟩
    cases q : H b with
    | none =>
      refine un.keep b o e q (fun y => ?_) (by simp)
      exact absurd (show b ∈ ([] : List Addr) from y) (by simp)
    | some u =>
      rcases only b with y | ⟨ob, xs, y⟩
      · rw [q] at y
        cases y
      · have y2 := un.frzs b ob _ y
        obtain ⟨e1, _⟩ := hok b _ y
        obtain ⟨e2, _⟩ := hok2 b _ y2
        rw [e] at e1
        cases e1
        exact e2

theorem law_call (KX : K.In s₁.heap) (hns : s₁.heap.Ns mainGlobals mg) (hb : s₁.heap.Ns builtinsNs mb) (hbb : ∀ x : Str, x ≠ "__name__" → mb x = bootBuiltins x) (hlim : s₁.heap.NoLimit) (hg : s₁.gens = #[])
    (ha : s₁.heap.get? a = some { cls := .type "list", data := .seq vs.toArray }) (hi : IntsAre vs ns) (hl : ns.length ≤ sizeLine) (room : Room k callerA)
    (F : ∀ base : Heap, K.In base → base.Ns mainGlobals mg → Kept P w K mg base cx k fa fd [x] sp) (hbind : ∀ (s : Shared) (u : Value), BindsTo s fd ⟨[u], []⟩ [(x, u)])
    (hsp : ∀ H : Hp, Only H → SqL K H a (ns.map V.int) → sp [.ref a] H (fun v _ => v = .bl true) fun _ _ _ => False)
    (hcx : ∀ H e z, cx [] H s₁ (fun _ _ _ => False) e z → False) :
    codeAny (model P w) callerA (.call (.ref fa) ⟨[.ref a], []⟩) (fun r z => r = .ok (.ret (.bool true)) ∧ OldK s₁.heap z.heap ∧ z.os = s₁.os ∧ AllBare z.gens) s₁ := by
  have rel := vals_ints hi
  have len := hi.length
  have core := law_core KX hns hb hbb hlim hg ha room F hbind hcx
  cases hk : K.lookup a with
  | some o =>
    have e := KX a o hk
    rw [ha] at e
    cases e
    have only : Only (fun _ => none) := fun _ => .inl rfl
    refine core (fun _ => none) only (hsp _ only ?_) (fun b u z => nomatch (show (none : Option HO) = some u from z)) (fun b z => absurd rfl z) fun z => absurd rfl z
    exact .inr ⟨_, vs.toArray, _, hk, rfl, rfl, rfl, by rw [List.size_toArray, len]; exact hl, by simpa using rel⟩
  | none =>
    have only : Only (fun b => if b = a then some (.frz { cls := .type "list", data := .seq vs.toArray } (.lst (ns.map V.int))) else none) := by
      intro b
      by_cases z : b = a
      · exact .inr ⟨_, _, if_pos z⟩
      · exact .inl (if_neg z)
    refine core _ only (hsp _ only ?_) (fun b u z => ?_) (fun b z => ?_) fun _ => hk
    · exact .inl (.inr ⟨{ cls := .type "list", data := .seq vs.toArray }, if_pos rfl⟩)
    · by_cases y : b = a
      · have z' := (if_pos y).symm.trans z
        cases z'
        subst y
        exact ⟨ha, by rw [List.length_map]; exact hl, vs, _, rel, ha⟩
      · have z' := (if_neg y).symm.trans z
        cases z'
    · by_cases y : b = a
      · exact y
      · exact absurd (if_neg y) z
end

/-- the goal that the head leaves -/
theorem walk {l : PySem.W.OpenLaw} {n k : Nat} {q : Program} {loose : List Str} {XP : (Str → Option Value) → Heap → Prop} {YP : World → Heap → Prop} {d : DefRec} {K : Params → PySem.W.Frag} {cx : World → CXT} {sp : World → Sp} {x : Str}
    (hn : l.most = some n) (hn2 : n ≤ sizeLine) (hdf : d.params.defaults = []) (room : Room k callerA) (hY : ∀ (w : World) (h : Heap), YP w h → (K w.params).In h)
    (F : ∀ (w : World) (mg : Str → Option Value) (fa : Addr) (h : Heap), (K w.params).In h → h.Ns mainGlobals mg → mg d.name = some (.ref fa) → XP mg h →
      ∃ fd : FuncData, (∀ (s : Shared) (u : Value), BindsTo s fd ⟨[u], []⟩ [(x, u)]) ∧
        ∀ base : Heap, (K w.params).In base → base.Ns mainGlobals mg → Kept l.prog w (K w.params) mg base (cx w) k fa fd [x] (sp w))
    (hsp : ∀ (w : World) (H : Hp) (a : Addr) (ns : List Int), ns.length ≤ n → Only H → SqL (K w.params) H a (ns.map V.int) → sp w [.ref a] H (fun v _ => v = .bl true) fun _ _ _ => False)
    (hcx : ∀ (w : World) (H : Hp) (s : Shared) (e : Value) (z : Shared), cx w [] H s (fun _ _ _ => False) e z → False) :
    PySem.W.WalkO q loose XP YP l.row.toRowW d [] (fun f vs => PySem.call f vs) := by
  refine Att.attach_call hn hdf ?_
  intro w s₀ s₁ mg mb fa o pm cd doc a vs ns G Y ho hd hcd hmg hobj hints hlen hg
  have KX := hY w _ Y
  obtain ⟨fd, hb, hF⟩ := F w mg fa _ KX G.T.g hmg G.X
  exact law_call KX G.T.g G.T.b G.T.builtins G.T.nolimit hg hobj hints (Nat.le_trans hlen hn2) room hF hb (fun H hO hS => hsp w H a ns hlen hO hS) fun H e z => hcx w H s₁ e z
end Tg

set_option Elab.async false
set_option linter.all false
set_option maxRecDepth 100000
set_option maxHeartbeats 3200000
/-! set(a text), sorted(it), list(a text), as rules -/
namespace Tx
open PySem PySem.Spec PyProof.Rows L2

/-- the signs of a text, each once, rising -/
def ups (l : List Nat) : List Nat := (met [] l).mergeSort (fun a b => decide (a ≤ b))
theorem ups_perm (l : List Nat) : (ups l).Perm (met [] l) := List.mergeSort_perm _ _
theorem ups_mem (l : List Nat) (c : Nat) : c ∈ ups l ↔ c ∈ l := by
  rw [(ups_perm l).mem_iff, met_mem]
  simp
theorem ups_nodup (l : List Nat) : (ups l).Nodup := (ups_perm l).nodup_iff.mpr (met_nodup l [] List.nodup_nil)
theorem ups_up (l : List Nat) : (ups l).Pairwise (· < ·) := by
  have h1 : (ups l).Pairwise (fun a b => decide (a ≤ b) = true) :=
    List.pairwise_mergeSort (le := fun a b : Nat => decide (a ≤ b)) (fun a b c h1 h2 => by
      have h1' := of_decide_eq_true h1
      have h2' := of_decide_eq_true h2
      exact decide_eq_true (Nat.le_trans h1' h2')) (fun a b => by
      rcases Nat.le_total a b with z | z
      · simp [z]
      · simp [z]) (met [] l)
  have h2 : (ups l).Pairwise (· ≠ ·) := ups_nodup l
  refine List.Pairwise.imp₂ (fun x y a b => ?_) h1 h2
  have a' := of_decide_eq_true a
  omega
theorem up_eq : ∀ {l m : List Nat}, l.Pairwise (· < ·) → m.Pairwise (· < ·) → (∀ c, c ∈ l ↔ c ∈ m) → l = m
  | [], [], _, _, _ => rfl
  | [], y :: m, _, _, h => by have := (h y).mpr List.mem_cons_self; simp at this
  | x :: l, [], _, _, h => by have := (h x).mp List.mem_cons_self; simp at this
  | x :: l, y :: m, h1, h2, h => by
    obtain ⟨a1, a2⟩ := List.pairwise_cons.mp h1
    obtain ⟨b1, b2⟩ := List.pairwise_cons.mp h2
    have e : x = y := by
      rcases List.mem_cons.mp ((h x).mp List.mem_cons_self) with z | z
      · exact z
      · rcases List.mem_cons.mp ((h y).mpr List.mem_cons_self) with u | u
        · exact u.symm
        · have := a1 y u
          have := b1 x z
          omega
    subst e
    rw [up_eq a2 b2 fun c => ?_]
    constructor
    · intro q
      rcases List.mem_cons.mp ((h c).mp (List.mem_cons_of_mem _ q)) with z | z
      · subst z
        exact absurd (a1 _ q) (Nat.lt_irrefl _)
      · exact z
    · intro q
      rcases List.mem_cons.mp ((h c).mpr (List.mem_cons_of_mem _ q)) with z | z
      · subst z
        exact absurd (b1 _ q) (Nat.lt_irrefl _)
      · exact z
theorem ups_of {l ns : List Nat} (h : ns.Pairwise (· < ·)) (p : ns.Perm (met [] l)) : ns = ups l :=
  up_eq h (ups_up l) fun c => by rw [p.mem_iff, ups_mem, met_mem]; simp

/-- one-sign texts as values -/
abbrev ones (l : List Nat) : List V := l.map fun c => V.str (one c)
theorem ones_map (l : List Nat) : ones l = (l.map one).map V.str := by rw [List.map_map]; rfl

/-- the set of texts at a -/
def TO (w : World) (a : Addr) (acc : List Nat) : HO := .ext fun h => At w h a (acc.map one)
section
variable {X : Cx}
theorem to_new {w : World} {P : Program} {H : Hp} {h : Heap} {a : Addr} {acc : List Nat} (R : At w h a (acc.map one)) : ObjOk P w H h a (TO w a acc) :=
  ⟨R, let ⟨o, _, _, _, ho, _⟩ := R; ⟨o, ho⟩, fun _ _ p k => At.stays p k⟩
/-- set(s), s a text of few different signs -/
def rSetTx (w : World) : List V → Hp → VK → Prop := fun xs H Q => ∃ z : Str, xs = [.str z] ∧ (met [] z.cps.toList).length < 64 ∧ ∀ p, H p = none → Q (.ref p) (upd H p (TO w p (met [] z.cps.toList)))
theorem cr_setTx (hc : X.calm = true) : CallR X (.type "set") (rSetTx X.w) := by
  intro pins s σ H xs us Q I r h
  obtain ⟨z, rfl, hf, q⟩ := h
  obtain ⟨t, rfl⟩ : ∃ t, us = [Value.str z t] := by
    cases r with
    | cons a b =>
      cases b
      obtain ⟨t, rfl⟩ := a
      exact ⟨t, rfl⟩
  have hb : (met [] z.cps.toList).length + 1 < scanBound := by
    have : (64 : Nat) + 1 < scanBound := by decide
    omega
  refine call_set_text (P := X.prog) (w := X.w) (I.ok.hd hc) hb fun h' tk R k => ?_
  exact ⟨.ref _, upd H s.heap.objs.size (TO X.w s.heap.objs.size (met [] z.cps.toList)), I.laid (t' := tk) k (Nat.le_refl _) (to_new R), rfl, q _ (I.hok.fresh (Nat.le_refl _))⟩
/-- sorted(a set of texts) -/
def rSortTx (w : World) : List V → Hp → VK → Prop := fun xs H Q => ∃ (a : Addr) (l : List Nat), xs = [.ref a] ∧ H a = some (TO w a (met [] l)) ∧ (met [] l).length < 64 ∧ ∀ p, H p = none → Q (.ref p) (upd H p (.lst (ones (ups l))))
theorem cr_sortTx (hc : X.calm = true) : CallR X (.builtin "sorted") (rSortTx X.w) := by
  intro pins s σ H vs us Q I r h
  obtain ⟨a, l, rfl, ha, h64, q⟩ := h
  have R : At X.w s.heap a ((met [] l).map one) := (I.hok a _ ha).1
  rw [Vals.ref1 r]
  refine sorted_text (P := X.prog) R (met_nodup l [] List.nodup_nil) (I.ok.hd hc) h64 fun z p out c ns k g o hp hg hS up pm => ?_
  obtain rfl := ups_of up pm
  have hlen : (ones (ups l)).length ≤ sizeLine := by
    rw [List.length_map, pm.length_eq, sizeLine_eq]
    omega
  have hn : H p = none := I.hok.fresh hp
  have hv : Vals (ones (ups l)) out.toList := by rw [ones_map]; exact vals_of_strs hS
  have J : Inv X pins σ (upd H p (.lst (ones (ups l)))) { s with heap := z.heap, gens := z.gens, drawn := z.drawn, toks := z.toks } :=
    I.call (ch := []) (Un.laid k hp hn) (I.hok.laid k hp ⟨hlen, out.toList, c, hv, hg⟩) (by rw [g]; exact I.bare) (fun _ y => nomatch y)
  have e : z = { s with heap := z.heap, gens := z.gens, drawn := z.drawn, toks := z.toks } := by
    cases z
    cases s
    cases o
    rfl
  rw [e]
  exact ⟨.ref p, _, J, rfl, q p hn⟩
/-- list(s), s a text -/
def rListTx : List V → Hp → VK → Prop := fun xs H Q => ∃ z : Str, xs = [.str z] ∧ z.length ≤ sizeLine ∧ ∀ p, H p = none → Q (.ref p) (upd H p (.lst (ones z.cps.toList)))
theorem signs_vals {z : Str} {acc : Array Value} (h : ItemsOf (SignAt z) acc z.cps.size) : Vals (ones z.cps.toList) acc.toList := by
  have all : ∀ (l : List Nat) (us : List Value), us.length = l.length → (∀ (j : Nat) (v : Value), us[j]? = some v → ∃ (c : Nat) (u : Tok), l[j]? = some c ∧ v = Value.str (one c) u) → Vals (ones l) us := by
    intro l
    induction l with
    | nil =>
      intro us hl _
      cases us with
      | nil => exact .nil
      | cons u us => simp at hl
    | cons c l ih =>
      intro us hl hg
      cases us with
      | nil => simp at hl
      | cons u us =>
        obtain ⟨d, t, h1, h2⟩ := hg 0 u rfl
        have e : c = d := Option.some.inj h1
        subst e
        refine .cons ⟨t, h2⟩ (ih us (by simpa using hl) fun j v hv => ?_)
        exact hg (j + 1) v hv
  refine all _ _ (by rw [Array.length_toList, Array.length_toList]; exact h.1) fun j v hv => ?_
  rw [Array.getElem?_toList] at hv
  obtain ⟨c, u, h1, h2⟩ := h.2 j v hv
  exact ⟨c, u, by rw [Array.getElem?_toList]; exact h1, h2⟩
theorem cr_listTx (hc : X.calm = true) : CallR X (.type "list") rListTx := by
  intro pins s σ H xs us Q I r h
  obtain ⟨z, rfl, hl, q⟩ := h
  cases r with
  | cons a b =>
    cases b
    obtain ⟨t, rfl⟩ := a
    refine call_list_str (I.ok.hd hc) z t (hn := hl) fun h' tk acc c k hg hi => ?_
    have hz : (ones z.cps.toList).length ≤ sizeLine := by
      rw [List.length_map, Array.length_toList]
      exact hl
    exact ⟨.ref _, upd H s.heap.objs.size (.lst (ones z.cps.toList)), I.laid (t' := tk) k (Nat.le_refl _) ⟨hz, acc.toList, c, signs_vals hi, by simpa using hg⟩, rfl, q _ (I.hok.fresh (Nat.le_refl _))⟩
/-- a ** b, the result below 2 ^ 27 bits -/
theorem op_powW : OpR X (binaryOp .Pow) (rI (fun i j => 0 ≤ j ∧ (Builtin.Int.intBits i : Int) * j ≤ 2 ^ 27) fun i j => .int (i ^ j.toNat)) := opI fun _ _ _ _ _ _ _ hc q => pow_int hc.1 hc.2 q
end
end Tx

set_option Elab.async false
set_option linter.all false
set_option maxRecDepth 100000
set_option maxHeartbeats 3200000
/-! what the judges are worth, over plain data -/
namespace Tm
open PySem PySem.Spec PySem.Builtin PySem.Builtin.Str PyProof.Rows L2 Tx

abbrev cds (z : Str) : List Nat := z.cps.toList
theorem cds_ext {y z : Str} (h : cds y = cds z) : y = z := by
  cases y with
  | mk a =>
    cases z with
    | mk b =>
      have e : a = b := Array.toList_inj.mp h
      rw [e]
theorem cds_len (z : Str) : (cds z).length = z.length := by
  show z.cps.toList.length = z.cps.size
  rw [Array.length_toList]
/-- every sign of z is one of sg -/
def only (z sg : Str) : Bool := (cds z).all fun c => decide (c ∈ cds sg)
theorem only_iff {z sg : Str} : only z sg = true ↔ ∀ c ∈ cds z, c ∈ cds sg := by
  unfold only
  rw [List.all_eq_true]
  exact ⟨fun h c hc => of_decide_eq_true (h c hc), fun h c hc => decide_eq_true (h c hc)⟩
theorem getD_mem {z : Str} {k : Nat} (h : k < z.length) : z.cps.getD k 0 ∈ cds z := by
  have h' : k < z.cps.size := h
  have e : z.cps.getD k 0 = z.cps[k] := by simp [Array.getD, h']
  rw [e]
  exact Array.getElem_mem_toList h'
theorem mem_getD {z : Str} {c : Nat} (h : c ∈ cds z) : ∃ k, k < z.length ∧ z.cps.getD k 0 = c := by
  obtain ⟨k, hk, e⟩ := List.getElem_of_mem h
  have hk' : k < z.cps.size := by rw [Array.length_toList] at hk; exact hk
  refine ⟨k, hk', ?_⟩
  rw [← e]
  simp [Array.getD, hk']
theorem goes_iff {sg : Str} {c : Nat} : sg.cps.contains c = true ↔ c ∈ cds sg := by
  rw [Array.contains_iff_mem, Array.mem_toList_iff]
/-- strip with all the signs of sg leaves nothing exactly if there is no other sign -/
theorem strip_only (z sg : Str) : decide (Txt.stripChars z sg = Str.empty) = only z sg := by
  unfold Txt.stripChars
  rw [stripBy_eq]
  obtain ⟨a1, a2, a3⟩ := lo_facts sg.cps.contains z
  obtain ⟨b1, b2, b3, b4⟩ := hi_facts sg.cps.contains z _ a1
  generalize stripLo sg.cps.contains true z = lo at a1 a2 a3 b1 b2 b3 b4 ⊢
  generalize stripHi sg.cps.contains true z lo = hi at b1 b2 b3 b4 ⊢
  have key : strSub z lo hi = Str.empty ↔ lo = hi := by
    constructor
    · intro h
      have e : (z.cps.extract lo hi).size = 0 := by
        have := congrArg (fun y : Str => y.cps.size) h
        exact this
      rw [Array.size_extract] at e
      have hb : hi ≤ z.cps.size := b2
      omega
    · intro h
      subst h
      refine cds_ext ?_
      show (z.cps.extract lo lo).toList = (Str.empty).cps.toList
      rw [Array.extract_empty_of_stop_le_start (Nat.le_refl _)]
      rfl
  by_cases h : only z sg = true
  · rw [h]
    refine decide_eq_true (key.mpr ?_)
    have all := only_iff.mp h
    rcases Nat.lt_or_ge lo z.length with hl | hl
    · exfalso
      rcases a3 with e | e
      · omega
      · have := goes_iff.mpr (all _ (getD_mem hl))
        rw [e] at this
        cases this
    · have c2 : hi ≤ z.length := b2
      omega
  · have h' : only z sg = false := by simpa using h
    rw [h']
    refine decide_eq_false fun q => h (only_iff.mpr fun c hc => ?_)
    have e := key.mp q
    obtain ⟨k, hk, rfl⟩ := mem_getD hc
    rcases Nat.lt_or_ge k lo with u | u
    · exact goes_iff.mp (a2 k u)
    · exact goes_iff.mp (b3 k (by omega) hk)

/-! ### the judges -/
def big : Int := 10 ^ 200
def isInt : PyData → Bool
  | .int n => decide (n.natAbs < 10 ^ 200)
  | _ => false
def has (sg : Str) (most : Nat) : PyData → Bool
  | .str z => decide (z.length ≤ most) && only z sg
  | _ => false
def alpha : Str := "abcdefghijklmnopqrstuvwxyz"
def name : PyData → Bool
  | .str z => decide (z.length ≤ 8) && only z alpha && decide (z ≠ Str.empty)
  | _ => false
def rise (z : Str) : Bool := decide (cds z = ups (cds z))
def letters : PyData → Bool
  | .str z => decide (z.length ≤ 3) && only z alpha && decide (z ≠ Str.empty) && rise z
  | _ => false
def prime : PyData → Bool
  | .int n => decide (n = 2 ∨ n = 3 ∨ n = 5 ∨ n = 7)
  | _ => false
def lows (z : Str) : Bool := (cds z).all fun c => decide (97 ≤ c) && decide (c ≤ 122)
def small (most : Nat) : PyData → Bool
  | .str z => decide (1 ≤ z.length) && decide (z.length ≤ most) && lows z
  | _ => false
theorem alpha_iff (c : Nat) : c ∈ cds alpha ↔ 97 ≤ c ∧ c ≤ 122 := by
  have e : cds alpha = (List.range 26).map (· + 97) := by decide +kernel
  rw [e, List.mem_map]
  constructor
  · rintro ⟨k, hk, rfl⟩
    have := List.mem_range.mp hk
    omega
  · rintro ⟨h1, h2⟩
    exact ⟨c - 97, List.mem_range.mpr (by omega), by omega⟩
theorem only_alpha (z : Str) : only z alpha = lows z := by
  unfold only lows
  congr 1
  funext c
  by_cases h : c ∈ cds alpha
  · have := (alpha_iff c).mp h
    simp [h, this.1, this.2]
  · have h2 : ¬ (97 ≤ c ∧ c ≤ 122) := fun q => h ((alpha_iff c).mpr q)
    rw [decide_eq_false h, ← Bool.decide_and, decide_eq_false h2]
theorem nonempty_iff (z : Str) : z ≠ Str.empty ↔ 1 ≤ z.length := by
  constructor
  · intro h
    rcases Nat.eq_zero_or_pos z.length with e | e
    · exfalso
      apply h
      apply cds_ext
      have : (cds z).length = 0 := by rw [cds_len]; exact e
      rw [List.length_eq_zero_iff.mp this]
      rfl
    · exact e
  · intro h e
    subst e
    exact absurd h (by decide)
theorem name_small (d : PyData) : name d = small 8 d := by
  cases d with
  | str z =>
    show (decide (z.length ≤ 8) && only z alpha && decide (z ≠ Str.empty)) = (decide (1 ≤ z.length) && decide (z.length ≤ 8) && lows z)
    rw [only_alpha, decide_eq_decide.mpr (nonempty_iff z)]
    cases decide (z.length ≤ 8) <;> cases lows z <;> cases decide (1 ≤ z.length) <;> rfl
  | _ => rfl
theorem letters_small (d : PyData) : letters d = (small 3 d && (match d with | .str z => rise z | _ => false)) := by
  cases d with
  | str z =>
    show (decide (z.length ≤ 3) && only z alpha && decide (z ≠ Str.empty) && rise z) = (decide (1 ≤ z.length) && decide (z.length ≤ 3) && lows z && rise z)
    rw [only_alpha, decide_eq_decide.mpr (nonempty_iff z)]
    cases decide (z.length ≤ 3) <;> cases lows z <;> cases decide (1 ≤ z.length) <;> cases rise z <;> rfl
  | _ => rfl

/-! ### how numbers and texts are shown -/
theorem shown_int {n k : Int} (h : (toString n : String) = toString k) : n = k := by
  have e := congrArg String.toInt? h
  simpa using e

/-- a text that is judged: short, plain signs, few unlike ones -/
structure Fine (z : Str) : Prop where
  long : z.length ≤ 4001
  few : (met [] (cds z)).length < 64
  plain : ∀ c ∈ cds z, c < 128
/-- the four texts of the primes -/
abbrev four : List V := [.str "2", .str "3", .str "5", .str "7"]
/-- data that is judged -/
def Ok : PyData → Prop
  | .int n => n.natAbs.log2 < 1920
  | .str z => Fine z
  | d => d.showable = true ∧ d.depth < 60 ∧ d.shown.length ≤ sizeLine ∧ inV (.str d.shown) four = false
end Tm

set_option Elab.async false
set_option linter.all false
set_option maxRecDepth 100000
set_option maxHeartbeats 3200000
/-! data with dicts of texts: read, shown, compared -/
namespace Da
open PySem PySem.Spec PyProof.Rows L2 Tg
mutual
inductive Dr (K : PySem.W.Frag) (H : Hp) : V → PyData → Prop
  | non : Dr K H .non .none
  | bl (b : Bool) : Dr K H (.bl b) (.bool b)
  | int (i : Int) : Dr K H (.int i) (.int i)
  | str (z : Str) : Dr K H (.str z) (.str z)
  | lst {a : Addr} {xs : List V} {ds : List PyData} (h : SqL K H a xs) (r : DrAll K H xs ds) : Dr K H (.ref a) (.list ds)
  | tup {a : Addr} {xs : List V} {ds : List PyData} (h : SqT K H a xs) (r : DrAll K H xs ds) : Dr K H (.ref a) (.tuple ds)
  | dct {a : Addr} {kvs : List (Key × V)} {es : List (PyData × PyData)} (h : H a = some (.dK kvs)) (r : DrKv K H kvs es) : Dr K H (.ref a) (.dict es)
inductive DrAll (K : PySem.W.Frag) (H : Hp) : List V → List PyData → Prop
  | nil : DrAll K H [] []
  | cons {v : V} {vs : List V} {d : PyData} {ds : List PyData} (h : Dr K H v d) (r : DrAll K H vs ds) : DrAll K H (v :: vs) (d :: ds)
inductive DrKv (K : PySem.W.Frag) (H : Hp) : List (Key × V) → List (PyData × PyData) → Prop
  | nil : DrKv K H [] []
  | cons {x : Str} {v : V} {kvs : List (Key × V)} {d : PyData} {es : List (PyData × PyData)} (h : Dr K H v d) (r : DrKv K H kvs es) : DrKv K H ((Sum.inr x, v) :: kvs) ((.str x, d) :: es)
end
theorem sqL_same {K : PySem.W.Frag} {H H' : Hp} {a : Addr} {xs : List V} (s : Same H H') (h : SqL K H a xs) : SqL K H' a xs := s.seq h
theorem sqT_same {K : PySem.W.Frag} {H H' : Hp} {a : Addr} {xs : List V} (s : Same H H') (h : SqT K H a xs) : SqT K H' a xs := by
  rcases h with h | h
  · rcases h with h | ⟨o, h⟩
    · exact .inl (.inl (s _ _ h))
    · exact .inl (.inr ⟨o, s _ _ h⟩)
  · exact .inr h
section
variable {K : PySem.W.Frag} {H H' : Hp}
mutual
theorem Dr.same (s : Same H H') : ∀ (d : PyData) (v : V), Dr K H v d → Dr K H' v d
  | .none, _, h => by cases h; exact .non
  | .bool b, _, h => by cases h; exact .bl b
  | .int i, _, h => by cases h; exact .int i
  | .str z, _, h => by cases h; exact .str z
  | .list ds, _, h => by
    cases h with
    | lst h r => exact .lst (sqL_same s h) (DrAll.same s ds _ r)
  | .tuple ds, _, h => by
    cases h with
    | tup h r => exact .tup (sqT_same s h) (DrAll.same s ds _ r)
  | .dict es, _, h => by
    cases h with
    | dct h r => exact .dct (s _ _ h) (DrKv.same s es _ r)
theorem DrAll.same (s : Same H H') : ∀ (ds : List PyData) (vs : List V), DrAll K H vs ds → DrAll K H' vs ds
  | [], _, h => by cases h; exact .nil
  | d :: ds, _, h => by
    cases h with
    | cons h r => exact .cons (Dr.same s d _ h) (DrAll.same s ds _ r)
theorem DrKv.same (s : Same H H') : ∀ (es : List (PyData × PyData)) (kvs : List (Key × V)), DrKv K H kvs es → DrKv K H' kvs es
  | [], _, h => by cases h; exact .nil
  | (k, d) :: es, _, h => by
    cases h with
    | cons h r => exact .cons (Dr.same s d _ h) (DrKv.same s es _ r)
end
end
/-! no list within -/
mutual
def noL : PyData → Bool
  | .none | .bool _ | .int _ | .str _ => true
  | .list _ => false
  | .tuple ds => noLAll ds
  | .dict es => noLKv es
def noLAll : List PyData → Bool
  | [] => true
  | d :: ds => noL d && noLAll ds
def noLKv : List (PyData × PyData) → Bool
  | [] => true
  | (_, d) :: es => noL d && noLKv es
end
/-! ### read off -/
section
variable {X : Cx} {pins : List (Addr × Obj)} {σ : L2.St} {H : Hp} {s : Shared}
theorem dict_entries {kvs : List (Key × V)} {vs : List (Key × Value)} : ∀ {es : List DictEntry}, Pairs (mixKind X.prog X.w) es vs → KV kvs vs → ∀ ds : List (PyData × PyData), DrKv X.K H kvs ds →
    (∀ (d : PyData) (v : V) (u : Value), (∃ k, (k, d) ∈ ds) → Dr X.K H v d → RelV v u → ∃ as, Reads s.heap u d as ∧ (noL d = true → sysModules ∉ as)) →
    ∃ as bs, ReadsAll s.heap (es.map (·.key)) (ds.map (·.1)) as ∧ ReadsAll s.heap (es.map (·.val)) (ds.map (·.2)) bs ∧ sysModules ∉ as ∧ (noLKv ds = true → sysModules ∉ bs) := by
  intro es hp rel ds hd ih
  induction ds generalizing kvs vs es with
  | nil =>
    cases hd
    cases rel
    cases hp
    exact ⟨[], [], .nil, .nil, nofun, fun _ => nofun⟩
  | cons p ds ihd =>
    cases hd with
    | @cons x v kvs d _ h r =>
      cases rel with
      | @cons _ kv _ vs' r1 r2 =>
        cases hp with
        | @cons e _ es' _ hk hv hp' =>
          obtain ⟨as, bs, q1, q2, n1, n2⟩ := ihd hp' r2 r fun d v u ⟨k, hk⟩ => ih d v u ⟨k, List.mem_cons_of_mem _ hk⟩
          obtain ⟨k0, v0⟩ := kv
          obtain ⟨r3, r4⟩ := r1
          dsimp only at r3 r4 hk hv
          subst r3
          obtain ⟨cs, q3, n3⟩ := ih d v v0 ⟨_, List.mem_cons_self⟩ h r4
          rcases keyIs_shape (show keyIs (Sum.inr x : Key) e.key = true from hk) with ⟨i, t', z, _⟩ | ⟨y, t', z, e'⟩
          · cases z
          · cases z
            refine ⟨[] ++ as, cs ++ bs, ?_, ?_, n1, fun hn z => ?_⟩
            · show ReadsAll s.heap (e.key :: _) (PyData.str x :: _) _
              rw [e']
              exact .cons (.str _ _) q1
            · show ReadsAll s.heap (e.val :: _) (d :: _) _
              rw [hv]
              exact .cons q3 q2
            · have hn : (noL d && noLKv ds) = true := hn
              rw [Bool.and_eq_true] at hn
              rcases List.mem_append.mp z with z | z
              · exact n3 hn.1 z
              · exact n2 hn.2 z
mutual
theorem Dr.reads (I : Inv X pins σ H s) : ∀ (d : PyData) (v : V) (u : Value), Dr X.K H v d → RelV v u → ∃ as, Reads s.heap u d as ∧ (noL d = true → sysModules ∉ as)
  | .none, _, _, h, r => by
    cases h
    cases r
    exact ⟨_, Reads.none, fun _ => nofun⟩
  | .bool b, _, _, h, r => by
    cases h
    cases r
    exact ⟨_, Reads.bool b, fun _ => nofun⟩
  | .int i, _, _, h, r => by
    cases h
    obtain ⟨t, rfl⟩ := r
    exact ⟨_, Reads.int i t, fun _ => nofun⟩
  | .str x, _, _, h, r => by
    cases h
    obtain ⟨t, rfl⟩ := r
    exact ⟨_, Reads.str x t, fun _ => nofun⟩
  | .list ds, _, _, h, r => by
    cases h with
    | @lst a xs _ hs ha =>
      cases r
      obtain ⟨its, rv, ⟨o, n, ho, hc, _, hd⟩, _⟩ := I.list hs
      obtain ⟨as, hr, n1⟩ := Dr.readsAll I ds _ its ha rv
      exact ⟨_, Reads.list ho hc hd hr, fun z => nomatch z⟩
  | .tuple ds, _, _, h, r => by
    cases h with
    | tup hs ha =>
      cases r
      obtain ⟨its, rv, ⟨o, ho, hc, n, hd⟩, _⟩ := I.tuple hs
      obtain ⟨as, hr, n1⟩ := Dr.readsAll I ds _ its ha rv
      exact ⟨_, Reads.tuple ho hc hd hr, n1⟩
  | .dict es, _, _, h, r => by
    cases h with
    | @dct a kvs _ hh hr =>
      cases r
      obtain ⟨hz, hs, vs, rel, o, ens, ep, ho, hx, hd, _, hp, _⟩ := I.hok a _ hh
      obtain ⟨as, bs, q1, q2, n1, n2⟩ := dict_entries (X := X) (s := s) hp rel es hr (Dr.readsKv I es)
      refine ⟨_, Reads.dict ho hx.1 hd q1 q2, fun hn z => ?_⟩
      rw [List.cons_append] at z
      rcases List.mem_cons.mp z with z | z
      · rw [z] at hs
        simp at hs
      · rcases List.mem_append.mp z with z | z
        · exact n1 z
        · exact n2 hn z
theorem Dr.readsAll (I : Inv X pins σ H s) : ∀ (ds : List PyData) (vs : List V) (us : List Value), DrAll X.K H vs ds → Vals vs us → ∃ as, ReadsAll s.heap us ds as ∧ (noLAll ds = true → sysModules ∉ as)
  | [], _, _, h, r => by
    cases h
    cases r
    exact ⟨_, ReadsAll.nil, fun _ => nofun⟩
  | d :: ds, _, _, h, r => by
    cases h with
    | cons h1 h2 =>
      cases r with
      | cons r1 r2 =>
        obtain ⟨as, q1, n1⟩ := Dr.reads I d _ _ h1 r1
        obtain ⟨bs, q2, n2⟩ := Dr.readsAll I ds _ _ h2 r2
        refine ⟨_, ReadsAll.cons q1 q2, fun hn z => ?_⟩
        have hn : (noL d && noLAll ds) = true := hn
        rw [Bool.and_eq_true] at hn
        rcases List.mem_append.mp z with z | z
        · exact n1 hn.1 z
        · exact n2 hn.2 z
theorem Dr.readsKv (I : Inv X pins σ H s) : ∀ (es : List (PyData × PyData)) (d : PyData) (v : V) (u : Value), (∃ k, (k, d) ∈ es) → Dr X.K H v d → RelV v u → ∃ as, Reads s.heap u d as ∧ (noL d = true → sysModules ∉ as)
  | [], _, _, _, ⟨_, h⟩, _, _ => nomatch h
  | (k, d) :: es, d', v, u, h, hd, r => by
    by_cases e : d' = d
    · subst e
      exact Dr.reads I d' v u hd r
    · refine Dr.readsKv I es d' v u ?_ hd r
      obtain ⟨k', hk⟩ := h
      rcases List.mem_cons.mp hk with hk | hk
      · exact absurd (congrArg Prod.snd hk) e
      · exact ⟨k', hk⟩
end
end
/-! ### a list display that says where it stands -/
def tLstN (t : TA) : TE := fun σ H Q => t σ H fun xs H1 => xs.length ≤ sizeLine ∧ ∀ p, H1 p = none → p ≠ sysModules → Q (.ref p) (upd H1 p (.lst xs))
section
variable {X : Cx} {es : List Expr} {t : TA} {pos : Pos}
theorem pe_lstN (h : PA X es t) : PE X (.List es pos) (tLstN t) := by
  refine ⟨fun pins s σ H Q I hq => ?_⟩
  refine wpAny_List_spliced (thn (h.run pos pins s σ H _ I hq) fun us s1 ⟨xs, H1, I1, r, z, q⟩ => ⟨by rw [← r.length]; exact z, ?_⟩)
  have hf : H1 s1.heap.objs.size = none := I1.hok.fresh (Nat.le_refl _)
  refine ⟨.ref s1.heap.objs.size, upd H1 s1.heap.objs.size (.lst xs), I1.laid (t' := s1.toks) (fun b u e => Heap.get?_push_of_some _ e) (Nat.le_refl _) ?_, rfl, q _ hf (Nat.ne_of_gt I1.big)⟩
  exact ⟨z, us, 0, r, Heap.get?_push_size _ rfl⟩
end
/-! ### repr -/
/-- what may be shown: no list within, or a list that stands apart with no list within -/
def ShowAt (K : PySem.W.Frag) (H : Hp) (x : V) (d : PyData) : Prop := (Dr K H x d ∧ noL d = true) ∨ ∃ a xs ds, x = .ref a ∧ d = .list ds ∧ a ≠ sysModules ∧ SqL K H a xs ∧ DrAll K H xs ds ∧ noLAll ds = true
def rShowD (K : PySem.W.Frag) : List V → Hp → VK → Prop := fun xs H Q => ∃ (x : V) (d : PyData), xs = [x] ∧ ShowAt K H x d ∧ d.showable = true ∧ d.depth < 60 ∧ d.shown.length ≤ sizeLine ∧ Q (.str d.shown) H
section
variable {X : Cx}
theorem call_showD (still : Still X.A) (hu : X.A.units + 64 < cLine) : CallR X (.builtin "repr") (rShowD X.K) := by
  intro pins s σ H xs us Q I r h
  obtain ⟨x, d, rfl, hd, h1, h3, h4, q⟩ := h
  obtain ⟨u, rfl, r1⟩ : ∃ u, us = [u] ∧ RelV x u := by
    cases r with
    | cons a b => cases b; exact ⟨_, rfl, a⟩
  have rd : ∃ as, Reads s.heap u d as ∧ sysModules ∉ as := by
    rcases hd with ⟨hd, hn⟩ | ⟨a, xs, ds, rfl, rfl, na, hs, ha, hn⟩
    · obtain ⟨as, q1, q2⟩ := Dr.reads I d x u hd r1
      exact ⟨as, q1, q2 hn⟩
    · cases r1
      obtain ⟨its, rv, ⟨o, n, ho, hc, _, hd⟩, _⟩ := I.list hs
      obtain ⟨as, hr, n1⟩ := Dr.readsAll I ds _ its ha rv
      refine ⟨_, Reads.list ho hc hd hr, fun z => ?_⟩
      rcases List.mem_cons.mp z with z | z
      · exact na z.symm
      · exact n1 hn z
  obtain ⟨as, rd, hsm⟩ := rd
  cases rd with
  | none => exact P.repr_of_none ⟨.str (PyData.shown .none), H, I.tok _, ⟨_, rfl⟩, q⟩
  | bool b => exact P.repr_of_bool ⟨.str (PyData.shown (.bool b)), H, I.tok _, ⟨_, rfl⟩, q⟩
  | int i t => exact P.repr_of_int (of_decide_eq_true h1) ⟨.str (PyData.shown (.int i)), H, I.tok _, ⟨_, rfl⟩, q⟩
  | str z t => exact P.repr_of_str ⟨.str (PyData.shown (.str z)), H, I.tok _, ⟨_, rfl⟩, q⟩ h4
  | list a1 a2 a3 a4 => exact repr_of_reads' (Reads.list a1 a2 a3 a4) h1 (fun _ => hsm) still (by omega) (fun _ _ e => e) (fun h' u tk hk => ⟨.str (PyData.shown _), H, I.kept (t' := tk) hk, ⟨_, rfl⟩, q⟩) h4
  | tuple a1 a2 a3 a4 => exact repr_of_reads' (Reads.tuple a1 a2 a3 a4) h1 (fun _ => hsm) still (by omega) (fun _ _ e => e) (fun h' u tk hk => ⟨.str (PyData.shown _), H, I.kept (t' := tk) hk, ⟨_, rfl⟩, q⟩) h4
  | dict a1 a2 a3 a4 a5 => exact repr_of_reads' (Reads.dict a1 a2 a3 a4 a5) h1 (fun _ => hsm) still (by omega) (fun _ _ e => e) (fun h' u tk hk => ⟨.str (PyData.shown _), H, I.kept (t' := tk) hk, ⟨_, rfl⟩, q⟩) h4
end
end Da

set_option Elab.async false
set_option linter.all false
set_option maxRecDepth 100000
set_option maxHeartbeats 3200000
/-! data with dicts of texts: compared -/
namespace Da
open PySem PySem.Spec PyProof.Rows L2 Tg
mutual
def dq : PyData → PyData → Bool
  | .none, .none => true
  | .bool a, .bool b => a == b
  | .int a, .int b => a == b
  | .str a, .str b => a == b
  | .list xs, .list ys => dqAll xs ys
  | .tuple xs, .tuple ys => dqAll xs ys
  | .dict es, .dict fs => dqKv es fs
  | _, _ => false
def dqAll : List PyData → List PyData → Bool
  | [], [] => true
  | x :: xs, y :: ys => dq x y && dqAll xs ys
  | _, _ => false
def dqKv : List (PyData × PyData) → List (PyData × PyData) → Bool
  | [], [] => true
  | (_, x) :: es, (_, y) :: fs => dq x y && dqKv es fs
  | _, _ => false
end
mutual
inductive Alike : PyData → PyData → Prop
  | non : Alike .none .none
  | bl (a b : Bool) : Alike (.bool a) (.bool b)
  | int (a b : Int) : Alike (.int a) (.int b)
  | str (a b : Str) : Alike (.str a) (.str b)
  | noneI (b : Int) : Alike .none (.int b)
  | intN (a : Int) : Alike (.int a) .none
  | lst {xs ys : List PyData} : AlikeAll xs ys → Alike (.list xs) (.list ys)
  | tup {xs ys : List PyData} : AlikeAll xs ys → Alike (.tuple xs) (.tuple ys)
  | dct {es fs : List (PyData × PyData)} : AlikeKv es fs → Alike (.dict es) (.dict fs)
inductive AlikeAll : List PyData → List PyData → Prop
  | nilL (ys : List PyData) : AlikeAll [] ys
  | nilR (xs : List PyData) : AlikeAll xs []
  | cons {x y : PyData} {xs ys : List PyData} : Alike x y → AlikeAll xs ys → AlikeAll (x :: xs) (y :: ys)
inductive AlikeKv : List (PyData × PyData) → List (PyData × PyData) → Prop
  | nil : AlikeKv [] []
  | cons {k : Str} {x y : PyData} {es fs : List (PyData × PyData)} : Alike x y → AlikeKv es fs → AlikeKv ((.str k, x) :: es) ((.str k, y) :: fs)
end
theorem dqAll_len : ∀ {xs ys : List PyData}, dqAll xs ys = true → xs.length = ys.length
  | [], [], _ => rfl
  | x :: xs, y :: ys, h => by
    have h : (dq x y && dqAll xs ys) = true := h
    rw [Bool.and_eq_true] at h
    exact congrArg (· + 1) (dqAll_len h.2)
  | [], _ :: _, h => nomatch h
  | _ :: _, [], h => nomatch h
theorem getD_at {α : Type} {xs : List α} {j : Nat} {z : α} (h : j < xs.length) : xs.getD j z = xs[j] := by
  rw [List.getD_eq_getElem?_getD, List.getElem?_eq_getElem h]
  rfl
theorem all_range (f : Nat → Bool) (n : Nat) : (List.range (n + 1)).all f = (f 0 && (List.range n).all fun i => f (i + 1)) := by
  rw [List.range_succ_eq_map, List.all_cons, List.all_map]
  rfl
theorem dqAll_range : ∀ (xs ys : List PyData), ((List.range (min xs.length ys.length)).all (fun j => dq (xs.getD j .none) (ys.getD j .none)) && xs.length == ys.length) = dqAll xs ys
  | [], [] => rfl
  | [], _ :: _ => by
    show (_ && (0 == _ + 1)) = false
    simp
  | _ :: _, [] => by
    show (_ && (_ + 1 == 0)) = false
    simp
  | x :: xs, y :: ys => by
    have ih := dqAll_range xs ys
    show ((List.range (min (xs.length + 1) (ys.length + 1))).all _ && (xs.length + 1 == ys.length + 1)) = (dq x y && dqAll xs ys)
    rw [show min (xs.length + 1) (ys.length + 1) = min xs.length ys.length + 1 by omega, all_range, ← ih, Bool.and_assoc]
    have e : (xs.length + 1 == ys.length + 1) = (xs.length == ys.length) := by
      by_cases h : xs.length = ys.length
      · rw [h]; simp
      · rw [beq_eq_false_iff_ne.mpr h, beq_eq_false_iff_ne.mpr (by omega)]
    rw [e]
    rfl
theorem rel_inj {x y : V} {u : Value} (h : L2.RelV x u) (k : L2.RelV y u) : x = y := by
  cases x <;> cases y <;> simp only [L2.RelV] at h k <;> first
    | rfl
    | (subst h; cases k <;> rfl)
    | (obtain ⟨t, h⟩ := h; obtain ⟨t', k⟩ := k; rw [h] at k; cases k <;> rfl)
    | (obtain ⟨t, h⟩ := h; rw [h] at k; cases k; done)
    | (obtain ⟨t, k⟩ := k; rw [h] at k; cases k; done)
    | (rw [h] at k; cases k; rfl)
    | (rw [h] at k; cases k; done)
theorem vals_inj : ∀ {xs ys : List V} {us : List Value}, Vals xs us → Vals ys us → xs = ys
  | _, _, _, .nil, .nil => rfl
  | _, _, _, .cons a r, .cons b t => by rw [rel_inj a b, vals_inj r t]
theorem kv_inj : ∀ {xs ys : List (Key × V)} {us : List (Key × Value)}, KV xs us → KV ys us → xs = ys
  | _, _, _, .nil, .nil => rfl
  | _, _, _, .cons a r, .cons b t => by
    rw [kv_inj r t, Prod.ext (a.1.trans b.1.symm) (rel_inj a.2 b.2)]
section
variable {X : Cx} {pins : List (Addr × Obj)} {σ : L2.St} {H : Hp} {s : Shared}
theorem seqT_inj {a : Addr} {xs ys : List V} (I : Inv X pins σ H s) (h : SqT X.K H a xs) (k : SqT X.K H a ys) : xs = ys := by
  obtain ⟨i1, r1, ⟨o, ho, _, n, hd⟩, _⟩ := I.tuple h
  obtain ⟨i2, r2, ⟨o', ho', _, n', hd'⟩, _⟩ := I.tuple k
  rw [ho] at ho'
  cases ho'
  rw [hd] at hd'
  injection hd' with e _
  have e : i1 = i2 := congrArg Array.toList e
  rw [← e] at r2
  exact vals_inj r1 r2
theorem seqL_inj {a : Addr} {xs ys : List V} (I : Inv X pins σ H s) (h : SqL X.K H a xs) (k : SqL X.K H a ys) : xs = ys := by
  obtain ⟨i1, r1, ⟨o, n, ho, _, _, hd⟩, _⟩ := I.list h
  obtain ⟨i2, r2, ⟨o', n', ho', _, _, hd'⟩, _⟩ := I.list k
  rw [ho] at ho'
  cases ho'
  rw [hd] at hd'
  injection hd' with e _
  have e : i1 = i2 := congrArg Array.toList e
  rw [← e] at r2
  exact vals_inj r1 r2
theorem seqLT_no {a : Addr} {xs ys : List V} (I : Inv X pins σ H s) (h : SqL X.K H a xs) (k : SqT X.K H a ys) : False := by
  obtain ⟨i1, r1, ⟨o, n, ho, hc, _, hd⟩, _⟩ := I.list h
  obtain ⟨i2, r2, ⟨o', ho', hc', _⟩, _⟩ := I.tuple k
  rw [ho] at ho'
  cases ho'
  rw [hc] at hc'
  injection hc' with e
  exact absurd e (by decide)
theorem seqLD_no {a : Addr} {xs : List V} {kvs : List (Key × V)} (I : Inv X pins σ H s) (h : SqL X.K H a xs) (k : H a = some (.dK kvs)) : False := by
  obtain ⟨i1, r1, ⟨o, n, ho, hc, _, hd⟩, _⟩ := I.list h
  obtain ⟨_, _, _, _, o', _, _, ho', _, hd', _⟩ := I.hok a _ k
  rw [ho] at ho'
  cases ho'
  rw [hd] at hd'
  exact nomatch hd'
theorem seqTD_no {a : Addr} {xs : List V} {kvs : List (Key × V)} (I : Inv X pins σ H s) (h : SqT X.K H a xs) (k : H a = some (.dK kvs)) : False := by
  obtain ⟨i1, r1, ⟨o, ho, hc, _, hd⟩, _⟩ := I.tuple h
  obtain ⟨_, _, _, _, o', _, _, ho', _, hd', _⟩ := I.hok a _ k
  rw [ho] at ho'
  cases ho'
  rw [hd] at hd'
  exact nomatch hd'
mutual
theorem Dr.uniq (I : Inv X pins σ H s) : ∀ (d e : PyData) (v : V), Dr X.K H v d → Dr X.K H v e → d = e
  | .none, _, _, h, k => by cases h; cases k; rfl
  | .bool b, _, _, h, k => by cases h; cases k; rfl
  | .int b, _, _, h, k => by cases h; cases k; rfl
  | .str b, _, _, h, k => by cases h; cases k; rfl
  | .list ds, _, _, h, k => by
    cases h with
    | lst h r =>
      cases k with
      | lst h' r' =>
        rw [seqL_inj I h h'] at r
        rw [DrAll.uniq I ds _ _ r r']
      | tup h' r' => exact (seqLT_no I h h').elim
      | dct h' r' => exact (seqLD_no I h h').elim
  | .tuple ds, _, _, h, k => by
    cases h with
    | tup h r =>
      cases k with
      | tup h' r' =>
        rw [seqT_inj I h h'] at r
        rw [DrAll.uniq I ds _ _ r r']
      | lst h' r' => exact (seqLT_no I h' h).elim
      | dct h' r' => exact (seqTD_no I h h').elim
  | .dict es, _, _, h, k => by
    cases h with
    | dct h r =>
      cases k with
      | dct h' r' =>
        rw [h] at h'
        cases h'
        rw [DrKv.uniq I es _ _ r r']
      | lst h' r' => exact (seqLD_no I h' h).elim
      | tup h' r' => exact (seqTD_no I h' h).elim
theorem DrAll.uniq (I : Inv X pins σ H s) : ∀ (ds es : List PyData) (vs : List V), DrAll X.K H vs ds → DrAll X.K H vs es → ds = es
  | [], _, _, h, k => by cases h; cases k; rfl
  | d :: ds, _, _, h, k => by
    cases h with
    | cons h r =>
      cases k with
      | cons h' r' => rw [Dr.uniq I d _ _ h h', DrAll.uniq I ds _ _ r r']
theorem DrKv.uniq (I : Inv X pins σ H s) : ∀ (ds es : List (PyData × PyData)) (vs : List (Key × V)), DrKv X.K H vs ds → DrKv X.K H vs es → ds = es
  | [], _, _, h, k => by cases h; cases k; rfl
  | (_, d) :: ds, _, _, h, k => by
    cases h with
    | cons h r =>
      cases k with
      | cons h' r' => rw [Dr.uniq I d _ _ h h', DrKv.uniq I ds _ _ r r']
end
mutual
theorem dq_refl : ∀ d : PyData, dq d d = true
  | .none => rfl
  | .bool b => beq_self_eq_true b
  | .int i => beq_self_eq_true i
  | .str z => beq_self_eq_true z
  | .list ds => dqAll_refl ds
  | .tuple ds => dqAll_refl ds
  | .dict es => dqKv_refl es
theorem dqAll_refl : ∀ ds : List PyData, dqAll ds ds = true
  | [] => rfl
  | d :: ds => by
    show (dq d d && dqAll ds ds) = true
    rw [dq_refl d, dqAll_refl ds]
    rfl
theorem dqKv_refl : ∀ es : List (PyData × PyData), dqKv es es = true
  | [] => rfl
  | (_, d) :: es => by
    show (dq d d && dqKv es es) = true
    rw [dq_refl d, dqKv_refl es]
    rfl
end
/-! ### the comparison's tree -/
theorem drAll_get : ∀ {vs : List V} {ds : List PyData}, DrAll X.K H vs ds → ∀ (us : List Value), Vals vs us → ∀ j (h : j < us.length), ∃ (v : V) (hd : j < ds.length), L2.RelV v us[j] ∧ Dr X.K H v ds[j]
  | _, _, .nil, _, .nil, j, h => nomatch h
  | _, _, .cons (ds := ds) h r, _, .cons a b, 0, _ => ⟨_, Nat.succ_pos _, a, h⟩
  | _, _, .cons h r, _, .cons a b, j + 1, hj => by
    obtain ⟨v, hd, q1, q2⟩ := drAll_get r _ b j (Nat.lt_of_succ_lt_succ hj)
    exact ⟨v, Nat.succ_lt_succ hd, q1, q2⟩
theorem drAll_len : ∀ {vs : List V} {ds : List PyData}, DrAll X.K H vs ds → vs.length = ds.length
  | _, _, .nil => rfl
  | _, _, .cons _ r => congrArg (· + 1) (drAll_len r)
theorem alikeAll_get : ∀ {xs ys : List PyData}, AlikeAll xs ys → ∀ j (h : j < xs.length) (k : j < ys.length), Alike xs[j] ys[j]
  | _, _, .nilL _, _, h, _ => nomatch h
  | _, _, .nilR _, _, _, k => nomatch k
  | _, _, .cons a r, 0, _, _ => a
  | _, _, .cons a r, j + 1, h, k => alikeAll_get r j (Nat.lt_of_succ_lt_succ h) (Nat.lt_of_succ_lt_succ k)
theorem depthAll_get : ∀ {xs : List PyData} {n : Nat}, PyData.depthAll xs ≤ n → ∀ j (h : j < xs.length), xs[j].depth ≤ n
  | [], _, _, _, h => nomatch h
  | x :: xs, n, hn, 0, _ => Nat.le_trans (Nat.le_max_left _ _) hn
  | x :: xs, n, hn, j + 1, h => depthAll_get (xs := xs) (Nat.le_trans (Nat.le_max_right _ _) hn) j (Nat.lt_of_succ_lt_succ h)
/-- a tree for each item, a tree for the row -/
def TreeAll (X : Cx) (H : Hp) (s : Shared) (n : Nat) (ds : List PyData) : Prop :=
  ∀ j (h : j < ds.length) (e : PyData) (v y : V) (u w : Value), Alike ds[j] e → Dr X.K H v ds[j] → Dr X.K H y e → L2.RelV v u → L2.RelV y w → PySem.W.EqTree X.prog X.w s n u w (dq ds[j] e)
theorem all_same {α : Type} {f g : α → Bool} : ∀ {l : List α}, (∀ p ∈ l, f p = g p) → l.all f = l.all g
  | [], _ => rfl
  | p :: l, h => by rw [List.all_cons, List.all_cons, h p List.mem_cons_self, all_same fun q hq => h q (List.mem_cons_of_mem _ hq)]
theorem kv_tree {n : Nat} : ∀ {es fs : List (PyData × PyData)}, AlikeKv es fs → ∀ {k1 k2 : List (Key × V)} {a b : List (Key × Value)}, DrKv X.K H k1 es → DrKv X.K H k2 fs → KV k1 a → KV k2 b → (a.map (·.1)).Nodup →
    (∀ (d e : PyData) (v y : V) (u w : Value), (∃ k, (k, d) ∈ es) → Alike d e → Dr X.K H v d → Dr X.K H y e → L2.RelV v u → L2.RelV y w → PySem.W.EqTree X.prog X.w s n u w (dq d e)) →
    a.length = b.length ∧ ∃ f : Key → Bool, (∀ k v y, (k, v) ∈ a → PySem.valueAt b k = some y → PySem.W.EqTree X.prog X.w s n v y (f k)) ∧ (a.all fun p => (PySem.valueAt b p.1).isSome && f p.1) = dqKv es fs := by
  intro es
  induction es with
  | nil =>
    intro fs al k1 k2 a b h1 h2 r1 r2 _ _
    cases al
    cases h1
    cases h2
    cases r1
    cases r2
    exact ⟨rfl, fun _ => true, (fun k v y h => nomatch h), rfl⟩
  | cons p0 es ih =>
    intro fs al k1 k2 a b h1 h2 r1 r2 nd tr
    cases al with
    | @cons k x y _ fs hxy al =>
    cases h1 with
    | cons h1 t1 =>
    cases h2 with
    | cons h2 t2 =>
    cases r1 with
    | @cons _ p _ a' e1 r1 =>
    cases r2 with
    | @cons _ p' _ b' e2 r2 =>
    obtain ⟨pk, pv⟩ := p
    obtain ⟨pk', pv'⟩ := p'
    obtain ⟨q1, q2⟩ := e1
    obtain ⟨q3, q4⟩ := e2
    dsimp only at q1 q2 q3 q4
    subst q1
    subst q3
    rw [List.map_cons, List.nodup_cons] at nd
    obtain ⟨hl, f, hf, hall⟩ := ih al t1 t2 r1 r2 nd.2 fun d e v y u w ⟨k, hk⟩ => tr d e v y u w ⟨k, List.mem_cons_of_mem _ hk⟩
    have at0 : PySem.valueAt ((Sum.inr k, pv') :: b') (Sum.inr k : Key) = some pv' := by simp [PySem.valueAt]
    have at1 : ∀ j : Key, j ≠ Sum.inr k → PySem.valueAt ((Sum.inr k, pv') :: b') j = PySem.valueAt b' j := fun j hj => by
      simp only [PySem.valueAt, List.find?_cons]
      rw [decide_eq_false (fun e => hj e.symm)]
    refine ⟨congrArg (· + 1) hl, fun j => if j = Sum.inr k then dq x y else f j, fun j v z hm hz => ?_, ?_⟩
    · rcases List.mem_cons.mp hm with hm | hm
      · cases hm
        rw [at0] at hz
        cases hz
        show PySem.W.EqTree _ _ _ _ _ _ (if (Sum.inr k : Key) = Sum.inr k then dq x y else f (Sum.inr k))
        rw [if_pos rfl]
        exact tr x y _ _ _ _ ⟨_, List.mem_cons_self⟩ hxy h1 h2 q2 q4
      · have ne : j ≠ Sum.inr k := fun e => nd.1 (List.mem_map.mpr ⟨_, hm, e⟩)
        rw [at1 j ne] at hz
        show PySem.W.EqTree _ _ _ _ _ _ (if j = Sum.inr k then dq x y else f j)
        rw [if_neg ne]
        exact hf j v z hm hz
    · rw [List.all_cons, at0]
      show (true && (if (Sum.inr k : Key) = Sum.inr k then dq x y else f (Sum.inr k)) && _) = (dq x y && dqKv es fs)
      rw [if_pos rfl, Bool.true_and, ← hall]
      congr 1
      refine all_same fun p hp => ?_
      have ne : p.1 ≠ Sum.inr k := fun e => nd.1 (List.mem_map.mpr ⟨_, hp, e⟩)
      rw [at1 _ ne]
      show (_ && (if p.1 = Sum.inr k then dq x y else f p.1)) = _
      rw [if_neg ne]
mutual
theorem Dr.tree (I : Inv X pins σ H s) : ∀ (d e : PyData) (n : Nat) (v y : V) (u w : Value), d.depth ≤ n → Alike d e → Dr X.K H v d → Dr X.K H y e → L2.RelV v u → L2.RelV y w → PySem.W.EqTree X.prog X.w s n u w (dq d e)
  | .none, _, n, _, _, _, _, _, al, h, k, r1, r2 => by
    cases al with
    | non => cases h; cases k; cases r1; cases r2; exact .same
    | noneI b => cases h; cases k; cases r1; obtain ⟨t, rfl⟩ := r2; exact .leaf fun A _ => SeqAt.EqAt.none_int b t
  | .bool b, _, n, _, _, _, _, _, al, h, k, r1, r2 => by
    cases al with
    | bl _ c => cases h; cases k; cases r1; cases r2; exact .leaf fun A _ => SeqAt.EqAt.bool_bool b c
  | .int i, _, n, _, _, _, _, _, al, h, k, r1, r2 => by
    cases al with
    | int _ j => cases h; cases k; obtain ⟨t, rfl⟩ := r1; obtain ⟨t', rfl⟩ := r2; exact .leaf fun A _ => SeqAt.EqAt.int_int i t j t'
    | intN => cases h; cases k; obtain ⟨t, rfl⟩ := r1; cases r2; exact .leaf fun A _ => SeqAt.EqAt.int_none i t
  | .str z, _, n, _, _, _, _, _, al, h, k, r1, r2 => by
    cases al with
    | str _ z' => cases h; cases k; obtain ⟨t, rfl⟩ := r1; obtain ⟨t', rfl⟩ := r2; exact .leaf fun A _ => SeqAt.EqAt.str_str z t z' t'
  | .list ds, e, n, v, y, _, _, hn, al, h, k, r1, r2 => by
    cases n with
    | zero => exact absurd hn (Nat.not_succ_le_zero _)
    | succ n =>
    by_cases ne : v = y
    · subst ne
      have e2 := Dr.uniq I _ _ _ h k
      subst e2
      have : ∀ u w : Value, L2.RelV v u → L2.RelV v w → u = w := fun u w a b => by
        cases h with
        | lst => exact (show u = _ from a).trans (show w = _ from b).symm
      rw [this _ _ r1 r2, dq_refl]
      exact .same
    cases al with
    | @lst _ es al =>
    cases h with
    | @lst a xs _ h q =>
    cases k with
    | @lst b ys _ k q' =>
    cases r1
    cases r2
    obtain ⟨i1, v1, l1, _⟩ := I.list h
    obtain ⟨i2, v2, l2, _⟩ := I.list k
    have e1 : i1.length = ds.length := by rw [← v1.length, drAll_len q]
    have e2 : i2.length = es.length := by rw [← v2.length, drAll_len q']
    have nab : a ≠ b := fun z => ne (by rw [z])
    have L1 : s.heap.IsList a i1.toArray := l1.isList
    have L2 : s.heap.IsList b i2.toArray := l2.isList
    show PySem.W.EqTree _ _ _ _ _ _ (dqAll ds es)
    by_cases hl : ds.length = es.length
    · rw [← dqAll_range, hl, Nat.min_self, beq_self_eq_true, Bool.and_true, ← hl, ← e1]
      refine .lists nab L1 L2 (by show i1.length = i2.length; omega) fun j h1 h2 => ?_
      obtain ⟨p1, d1, a1, b1⟩ := drAll_get q _ v1 j h1
      obtain ⟨p2, d2, a2, b2⟩ := drAll_get q' _ v2 j h2
      rw [getD_at d1, getD_at d2]
      exact DrAll.tree I ds n (Nat.le_of_succ_le_succ hn) j d1 _ _ _ _ _ (alikeAll_get al j d1 d2) b1 b2 a1 a2
    · have : dqAll ds es = false := by
        cases hh : dqAll ds es with
        | false => rfl
        | true => exact absurd (dqAll_len hh) hl
      rw [this]
      exact .listsLen nab L1 L2 (by show (i1.length != i2.length) = true; rw [bne_iff_ne]; omega)
  | .tuple ds, e, n, v, y, _, _, hn, al, h, k, r1, r2 => by
    cases n with
    | zero => exact absurd hn (Nat.not_succ_le_zero _)
    | succ n =>
    by_cases ne : v = y
    · subst ne
      have e2 := Dr.uniq I _ _ _ h k
      subst e2
      have : ∀ u w : Value, L2.RelV v u → L2.RelV v w → u = w := fun u w a b => by
        cases h with
        | tup => exact (show u = _ from a).trans (show w = _ from b).symm
      rw [this _ _ r1 r2, dq_refl]
      exact .same
    cases al with
    | @tup _ es al =>
    cases h with
    | @tup a xs _ h q =>
    cases k with
    | @tup b ys _ k q' =>
    cases r1
    cases r2
    obtain ⟨i1, v1, l1, _⟩ := I.tuple h
    obtain ⟨i2, v2, l2, _⟩ := I.tuple k
    have e1 : i1.length = ds.length := by rw [← v1.length, drAll_len q]
    have e2 : i2.length = es.length := by rw [← v2.length, drAll_len q']
    have nab : a ≠ b := fun z => ne (by rw [z])
    show PySem.W.EqTree _ _ _ _ _ _ (dqAll ds es)
    rw [← dqAll_range, ← e1, ← e2]
    refine .tuples nab l1 l2 fun j h1 h2 => ?_
    obtain ⟨p1, d1, a1, b1⟩ := drAll_get q _ v1 j h1
    obtain ⟨p2, d2, a2, b2⟩ := drAll_get q' _ v2 j h2
    rw [getD_at d1, getD_at d2]
    exact DrAll.tree I ds n (Nat.le_of_succ_le_succ hn) j d1 _ _ _ _ _ (alikeAll_get al j d1 d2) b1 b2 a1 a2
  | .dict es, e, n, v, y, _, _, hn, al, h, k, r1, r2 => by
    cases n with
    | zero => exact absurd hn (Nat.not_succ_le_zero _)
    | succ n =>
    by_cases ne : v = y
    · subst ne
      have e2 := Dr.uniq I _ _ _ h k
      subst e2
      have : ∀ u w : Value, L2.RelV v u → L2.RelV v w → u = w := fun u w a b => by
        cases h with
        | dct => exact (show u = _ from a).trans (show w = _ from b).symm
      rw [this _ _ r1 r2, dq_refl]
      exact .same
    cases al with
    | @dct _ fs al =>
    cases h with
    | @dct a k1 _ h q =>
    cases k with
    | @dct b k2 _ k q' =>
    cases r1
    cases r2
    obtain ⟨_, s1, vs1, kv1, D1⟩ := dk_of I.hok h
    obtain ⟨_, s2, vs2, kv2, D2⟩ := dk_of I.hok k
    have nab : a ≠ b := fun z => ne (by rw [z])
    have nd : (vs1.map (·.1)).Nodup := by
      obtain ⟨_, _, _, _, _, _, _, _, nd⟩ := D1
      exact nd
    obtain ⟨hl, f, hf, hall⟩ := kv_tree (X := X) (H := H) (s := s) (n := n) al q q' kv1 kv2 nd (DrKv.tree I es n (Nat.le_of_succ_le_succ hn))
    show PySem.W.EqTree _ _ _ _ _ _ (dqKv es fs)
    have e := PySem.W.EqTree.dicts (n := n) nab s1 s2 D1 D2 hf
    rw [hl, beq_self_eq_true, Bool.true_and, hall] at e
    exact e
theorem DrAll.tree (I : Inv X pins σ H s) : ∀ (ds : List PyData) (n : Nat), PyData.depthAll ds ≤ n → TreeAll X H s n ds
  | [], _, _ => fun j h => nomatch h
  | d :: ds, n, hn => fun j h e v y u w al h1 h2 r1 r2 => by
    cases j with
    | zero => exact Dr.tree I d e n v y u w (Nat.le_trans (Nat.le_max_left _ _) hn) al h1 h2 r1 r2
    | succ j => exact DrAll.tree I ds n (Nat.le_trans (Nat.le_max_right _ _) hn) j (Nat.lt_of_succ_lt_succ h) e v y u w al h1 h2 r1 r2
theorem DrKv.tree (I : Inv X pins σ H s) : ∀ (es : List (PyData × PyData)) (n : Nat), PyData.depthKv es ≤ n → ∀ (d e : PyData) (v y : V) (u w : Value), (∃ k, (k, d) ∈ es) → Alike d e → Dr X.K H v d → Dr X.K H y e → L2.RelV v u → L2.RelV y w → PySem.W.EqTree X.prog X.w s n u w (dq d e)
  | [], _, _, _, _, _, _, _, _, ⟨_, h⟩, _, _, _, _, _ => nomatch h
  | (k, d) :: es, n, hn, d', e, v, y, u, w, h, al, h1, h2, r1, r2 => by
    have hn : max (max k.depth d.depth) (PyData.depthKv es) ≤ n := hn
    by_cases z : d' = d
    · subst z
      exact Dr.tree I d' e n v y u w (by omega) al h1 h2 r1 r2
    · refine DrKv.tree I es n (by omega) d' e v y u w ?_ al h1 h2 r1 r2
      obtain ⟨k', hk⟩ := h
      rcases List.mem_cons.mp hk with hk | hk
      · exact absurd (congrArg Prod.snd hk) z
      · exact ⟨k', hk⟩
end
end
/-! ### d == e, two dicts -/
def rEqK (K : PySem.W.Frag) : R2 := fun x y H Q => ∃ es fs, Dr K H x (.dict es) ∧ Dr K H y (.dict fs) ∧ AlikeKv es fs ∧ PyData.depthKv es ≤ 60 ∧ Q (.bl (dqKv es fs)) H
theorem op_eqK {X : Cx} (hu : X.A.units + 64 < cLine) : OpR X (compareOp .Eq) (rEqK X.K) := by
  intro pins s σ H x y u w Q I r1 r2 h
  obtain ⟨es, fs, h1, h2, al, hd, q⟩ := h
  cases h1 with
  | @dct a k1 _ h q1 =>
  cases h2 with
  | @dct b k2 _ k q2 =>
  cases r1
  cases r2
  obtain ⟨_, s1, vs1, kv1, D1⟩ := dk_of I.hok h
  obtain ⟨_, s2, vs2, kv2, D2⟩ := dk_of I.hok k
  have nd : (vs1.map (·.1)).Nodup := by
    obtain ⟨_, _, _, _, _, _, _, _, nd⟩ := D1
    exact nd
  obtain ⟨hl, f, hf, hall⟩ := kv_tree (X := X) (H := H) (s := s) (n := 60) al q1 q2 kv1 kv2 nd (DrKv.tree I es 60 hd)
  refine PySem.W.eq_dictsT (n := 60) s1 s2 D1 D2 hf (by omega) ?_
  rw [hl, beq_self_eq_true, Bool.true_and, hall]
  exact ⟨.bl _, H, I, rfl, q⟩
end Da

set_option linter.all false
/-! turns of points, as lists: put together, undone, and how often they lead all points back -/
namespace Pm
variable {n p q : Nat} {t u v : List Nat}
/-- where a turn leads a point -/
def to (t : List Nat) (p : Nat) : Nat := t.getD p 0
def Turn (n : Nat) (t : List Nat) : Prop := t.Perm (List.range n)
theorem to_get (h : p < t.length) : to t p = t[p] := by
  unfold to
  rw [List.getD_eq_getElem?_getD, List.getElem?_eq_getElem h]
  rfl
theorem Turn.len (h : Turn n t) : t.length = n := by
  have := h.length_eq
  rw [List.length_range] at this
  exact this
theorem Turn.mem (h : Turn n t) : p ∈ t ↔ p < n := h.mem_iff.trans List.mem_range
theorem Turn.nodup (h : Turn n t) : t.Nodup := h.nodup_iff.mpr List.nodup_range
theorem Turn.lt (h : Turn n t) (hp : p < n) : to t p < n := by
  have hp' : p < t.length := by rw [h.len]; exact hp
  rw [to_get hp']
  exact h.mem.mp (List.getElem_mem hp')
def joint (t u : List Nat) : List Nat := t.map (to u)
theorem range_map (h : u.length = n) : (List.range n).map (to u) = u := by
  apply List.ext_getElem
  · rw [List.length_map, List.length_range, h]
  · intro i h1 h2
    rw [List.getElem_map, List.getElem_range, to_get h2]
theorem turn_joint (h : Turn n t) (k : Turn n u) : Turn n (joint t u) := by
  have := h.map (to u)
  rw [range_map k.len] at this
  exact this.trans k
theorem joint_len : (joint t u).length = t.length := List.length_map ..
theorem to_joint (hp : p < t.length) : to (joint t u) p = to u (to t p) := by
  rw [to_get (by rw [joint_len]; exact hp), to_get hp]
  exact List.getElem_map ..
theorem joint_assoc (h : Turn n t) (k : Turn n u) : joint (joint t u) v = joint t (joint u v) := by
  unfold joint
  rw [List.map_map]
  refine List.map_congr_left fun x hx => ?_
  exact (to_joint (t := u) (u := v) (by rw [k.len]; exact h.mem.mp hx)).symm
theorem to_still (hp : p < n) : to (List.range n) p = p := by
  rw [to_get (by rw [List.length_range]; exact hp), List.getElem_range]
theorem joint_still (h : Turn n t) : joint t (List.range n) = t := by
  unfold joint
  have : t.map (to (List.range n)) = t.map id := List.map_congr_left fun x hx => to_still (h.mem.mp hx)
  rw [this, List.map_id]
theorem still_joint (h : Turn n t) : joint (List.range n) t = t := range_map h.len
theorem still_turn : Turn n (List.range n) := List.Perm.refl _
/-- two turns are the same if they lead all points so -/
theorem turn_ext (h : Turn n t) (k : Turn n u) (e : ∀ p, p < n → to t p = to u p) : t = u := by
  rw [← range_map h.len, ← range_map k.len]
  exact List.map_congr_left fun x hx => e x (List.mem_range.mp hx)
theorem nodup_inj {l : List Nat} (h : l.Nodup) {i j : Nat} (hi : i < l.length) (hj : j < l.length) (e : l[i] = l[j]) : i = j := by
  rcases Nat.lt_trichotomy i j with c | c | c
  · exact absurd e (List.pairwise_iff_getElem.mp h i j hi hj c)
  · exact c
  · exact absurd e.symm (List.pairwise_iff_getElem.mp h j i hj hi c)
def undone (t : List Nat) : List Nat := (List.range t.length).map fun q => t.idxOf q
theorem to_idx (h : Turn n t) (hq : q < n) : to t (t.idxOf q) = q := by
  have hm := h.mem.mpr hq
  rw [to_get (List.idxOf_lt_length_of_mem hm)]
  exact List.getElem_idxOf _
theorem idx_to (h : Turn n t) (hp : p < n) : t.idxOf (to t p) = p := by
  have hp' : p < t.length := by rw [h.len]; exact hp
  have hm : to t p ∈ t := h.mem.mpr (h.lt hp)
  have hl := List.idxOf_lt_length_of_mem hm
  have e : t[t.idxOf (to t p)] = t[p] := by
    rw [List.getElem_idxOf]
    exact to_get hp'
  exact nodup_inj h.nodup hl hp' e
theorem undone_len : (undone t).length = t.length := by
  unfold undone
  rw [List.length_map, List.length_range]
theorem to_undone (h : Turn n t) (hq : q < n) : to (undone t) q = t.idxOf q := by
  have hq' : q < t.length := by rw [h.len]; exact hq
  rw [to_get (by rw [undone_len]; exact hq')]
  unfold undone
  rw [List.getElem_map, List.getElem_range]
theorem turn_undone (h : Turn n t) : Turn n (undone t) := by
  have h1 : undone t = (List.range n).map fun q => t.idxOf q := by unfold undone; rw [h.len]
  have h2 : t.map (fun q => t.idxOf q) = List.range n := by
    apply List.ext_getElem
    · rw [List.length_map, h.len, List.length_range]
    · intro i h3 h4
      rw [List.length_range] at h4
      rw [List.getElem_map, List.getElem_range]
      have := idx_to h h4
      rw [to_get (by rw [h.len]; exact h4)] at this
      exact this
  have h3 := (h.symm).map fun q => t.idxOf q
  rw [h2] at h3
  rw [h1]
  exact h3
theorem joint_undone (h : Turn n t) : joint t (undone t) = List.range n :=
  turn_ext (turn_joint h (turn_undone h)) still_turn fun p hp => by
    rw [to_joint (by rw [h.len]; exact hp), to_undone h (h.lt hp), idx_to h hp, to_still hp]
theorem undone_joint (h : Turn n t) : joint (undone t) t = List.range n :=
  turn_ext (turn_joint (turn_undone h) h) still_turn fun p hp => by
    rw [to_joint (by rw [(turn_undone h).len]; exact hp), to_undone h hp, to_idx h hp, to_still hp]
theorem undone_undone (h : Turn n t) : undone (undone t) = t := by
  have k := turn_undone h
  have e : joint (joint (undone (undone t)) (undone t)) t = joint (undone (undone t)) (joint (undone t) t) := joint_assoc (turn_undone k) k
  rw [undone_joint k, undone_joint h, still_joint h, joint_still (turn_undone k)] at e
  exact e.symm
theorem undone_of_joint (h : Turn n t) (k : Turn n u) : undone (joint t u) = joint (undone u) (undone t) := by
  have hj := turn_joint h k
  have hu := turn_undone hj
  refine turn_ext hu (turn_joint (turn_undone k) (turn_undone h)) fun p hp => ?_
  rw [to_undone hj hp, to_joint (by rw [(turn_undone k).len]; exact hp), to_undone k hp]
  have hp1 : u.idxOf p < n := by
    have := List.idxOf_lt_length_of_mem (k.mem.mpr hp)
    rw [k.len] at this
    exact this
  rw [to_undone h hp1]
  have hp2 : t.idxOf (u.idxOf p) < n := by
    have := List.idxOf_lt_length_of_mem (h.mem.mpr hp1)
    rw [h.len] at this
    exact this
  have e : to (joint t u) (t.idxOf (u.idxOf p)) = p := by rw [to_joint (by rw [h.len]; exact hp2), to_idx h hp1, to_idx k hp]
  have := idx_to hj hp2
  rw [e] at this
  exact this
theorem to_inj (h : Turn n t) (hp : p < n) (hq : q < n) (e : to t p = to t q) : p = q := by
  rw [← idx_to h hp, e, idx_to h hq]
/-! again and again -/
def it (t : List Nat) : Nat → Nat → Nat
  | 0, p => p
  | k + 1, p => to t (it t k p)
theorem it_lt (h : Turn n t) (hp : p < n) : ∀ k, it t k p < n
  | 0 => hp
  | k + 1 => h.lt (it_lt h hp k)
theorem it_add (t : List Nat) (a : Nat) (p : Nat) : ∀ b, it t (b + a) p = it t b (it t a p)
  | 0 => by rw [Nat.zero_add]; rfl
  | b + 1 => by
    rw [show b + 1 + a = (b + a) + 1 by omega]
    show to t (it t (b + a) p) = to t (it t b (it t a p))
    rw [it_add t a p b]
theorem it_comm (t : List Nat) (a b p : Nat) : it t a (it t b p) = it t b (it t a p) := by rw [← it_add, ← it_add, Nat.add_comm]
theorem it_mul {m : Nat} (e : it t m p = p) : ∀ c, it t (m * c) p = p
  | 0 => rfl
  | c + 1 => by
    rw [Nat.mul_succ, it_add, e]
    exact it_mul e c
theorem it_inj (h : Turn n t) (hp : p < n) (hq : q < n) : ∀ k, it t k p = it t k q → p = q
  | 0, e => e
  | k + 1, e => it_inj h hp hq k (to_inj h (it_lt h hp k) (it_lt h hq k) e)
/-- if no earlier one comes back, then all that come back are multiples -/
theorem it_dvd {m : Nat} (h : Turn n t) (hp : p < n) (hm : 0 < m) (e : it t m p = p) (hl : ∀ k, 0 < k → k < m → it t k p ≠ p) (k : Nat) : it t k p = p ↔ m ∣ k := by
  constructor
  · intro hk
    have e2 : it t (k % m) p = p := by
      have := Nat.div_add_mod k m
      have e3 : it t (k % m + m * (k / m)) p = p := by rw [Nat.add_comm, this]; exact hk
      rw [it_add, it_mul e] at e3
      exact e3
    by_cases h0 : k % m = 0
    · exact Nat.dvd_of_mod_eq_zero h0
    · exact absurd e2 (hl _ (Nat.pos_of_ne_zero h0) (Nat.mod_lt _ hm))
  · rintro ⟨c, rfl⟩
    exact it_mul e c
/-- the order: just the multiples lead all points back -/
def Ord (n : Nat) (t : List Nat) (L : Nat) : Prop := 0 < L ∧ ∀ k, (∀ p, p < n → it t k p = p) ↔ L ∣ k
theorem ord_uniq {L M : Nat} (a : Ord n t L) (b : Ord n t M) : L = M :=
  Nat.dvd_antisymm ((a.2 M).mp ((b.2 M).mpr (Nat.dvd_refl M))) ((b.2 L).mp ((a.2 L).mpr (Nat.dvd_refl L)))
theorem ord_undone {L : Nat} (h : Turn n t) (a : Ord n t L) : Ord n (undone t) L := by
  refine ⟨a.1, fun k => Iff.trans ?_ (a.2 k)⟩
  have b1 : ∀ k p, p < n → it t k (it (undone t) k p) = p := by
    intro k
    induction k with
    | zero => intro p hp; rfl
    | succ k ih =>
      intro p hp
      have hq := it_lt (turn_undone h) hp k
      have e : it t (k + 1) (to (undone t) (it (undone t) k p)) = it t k (to t (to (undone t) (it (undone t) k p))) := it_add t 1 _ k
      show it t (k + 1) (to (undone t) (it (undone t) k p)) = p
      rw [e, to_undone h hq, to_idx h hq]
      exact ih p hp
  constructor
  · intro hk p hp
    have := b1 k p hp
    rw [hk p hp] at this
    exact this
  · intro hk p hp
    have := b1 k p hp
    rw [hk _ (it_lt (turn_undone h) hp k)] at this
    exact this
theorem ord_conj {L : Nat} {c d s : List Nat} (hc : Turn n c) (hd : Turn n d) (hs : Turn n s) (e : ∀ p, p < n → to d (to s p) = to s (to c p)) (a : Ord n c L) : Ord n d L := by
  refine ⟨a.1, fun k => Iff.trans ?_ (a.2 k)⟩
  have b1 : ∀ k p, p < n → it d k (to s p) = to s (it c k p) := by
    intro k
    induction k with
    | zero => intro p hp; rfl
    | succ k ih =>
      intro p hp
      show to d (it d k (to s p)) = to s (to c (it c k p))
      rw [ih p hp, e _ (it_lt hc hp k)]
  constructor
  · intro hk p hp
    have := b1 k p hp
    rw [hk _ (hs.lt hp)] at this
    exact (to_inj hs hp (it_lt hc hp k) this).symm
  · intro hk q hq
    have := b1 k (s.idxOf q) (by
      have := List.idxOf_lt_length_of_mem (hs.mem.mpr hq)
      rw [hs.len] at this
      exact this)
    rw [to_idx hs hq, hk _ (by
      have := List.idxOf_lt_length_of_mem (hs.mem.mpr hq)
      rw [hs.len] at this
      exact this), to_idx hs hq] at this
    exact this
theorem ord_one {L : Nat} (h : Turn n t) (a : Ord n t L) : L = 1 ↔ t = List.range n := by
  have e := a.2 1
  constructor
  · intro hl
    refine turn_ext h still_turn fun p hp => ?_
    rw [to_still hp]
    exact e.mpr (by rw [hl]; exact Nat.dvd_refl 1) p hp
  · intro ht
    exact Nat.dvd_one.mp (e.mp fun p hp => by
      show to t p = p
      rw [ht]
      exact to_still hp)
/-- so many of a turn -/
def pw (t : List Nat) : Nat → List Nat
  | 0 => t
  | k + 1 => joint (pw t k) t
theorem turn_pw (h : Turn n t) : ∀ k, Turn n (pw t k)
  | 0 => h
  | k + 1 => turn_joint (turn_pw h k) h
theorem to_pw (h : Turn n t) (hp : p < n) : ∀ k, to (pw t k) p = it t (k + 1) p
  | 0 => rfl
  | k + 1 => by
    show to (joint (pw t k) t) p = to t (it t (k + 1) p)
    rw [to_joint (by rw [(turn_pw h k).len]; exact hp), to_pw h hp k]
theorem pw_still {L k : Nat} (h : Turn n t) (a : Ord n t L) : pw t k = List.range n ↔ L ∣ k + 1 := by
  rw [← a.2 (k + 1)]
  constructor
  · intro e p hp
    rw [← to_pw h hp, e, to_still hp]
  · intro e
    exact turn_ext (turn_pw h k) still_turn fun p hp => by rw [to_pw h hp, e p hp, to_still hp]
end Pm

set_option linter.all false
/-! the rows of points that a turn leads round -/
namespace Pm
variable {n : Nat} {t : List Nat}
theorem len_le : ∀ {l r : List Nat}, l.Nodup → (∀ x ∈ l, x ∈ r) → l.length ≤ r.length
  | [], _, _, _ => Nat.zero_le _
  | a :: l, r, hn, hs => by
    have ha := hs a List.mem_cons_self
    have hn' := List.nodup_cons.mp hn
    have := len_le (l := l) (r := r.erase a) hn'.2 fun x hx => by
      have hne : x ≠ a := fun e => hn'.1 (e ▸ hx)
      exact (List.mem_erase_of_ne hne).mpr (hs x (List.mem_cons_of_mem _ hx))
    have h1 := List.length_erase_of_mem ha
    have h2 := List.length_pos_of_mem ha
    rw [List.length_cons]
    omega
theorem small_len {l : List Nat} (h : l.Nodup) (hl : ∀ x ∈ l, x < n) : l.length ≤ n := by
  have := len_le (r := List.range n) h fun x hx => List.mem_range.mpr (hl x hx)
  rw [List.length_range] at this
  exact this
/-- what is known ahead of the start i -/
structure Out (n : Nat) (t : List Nat) (i : Nat) (S M : List Nat) : Prop where
  nd : S.Nodup
  lt : ∀ p ∈ S, p < n
  cl : ∀ p, p < n → (p ∈ S ↔ to t p ∈ S)
  all : ∀ p, p < i → p ∈ S
  per : ∀ k, (∀ p ∈ S, it t k p = p) ↔ ∀ m ∈ M, m ∣ k
  sz : ∀ m ∈ M, 1 ≤ m ∧ m ≤ n
  ln : M.length ≤ i
def walk (t : List Nat) (s j : Nat) : List Nat := (List.range j).map fun k => it t k s
theorem walk_succ (t : List Nat) (s j : Nat) : walk t s (j + 1) = walk t s j ++ [it t j s] := by
  unfold walk
  rw [List.range_succ, List.map_append]
  rfl
theorem mem_walk {s j x : Nat} : x ∈ walk t s j ↔ ∃ k, k < j ∧ it t k s = x := by
  unfold walk
  rw [List.mem_map]
  constructor
  · rintro ⟨k, hk, e⟩
    exact ⟨k, List.mem_range.mp hk, e⟩
  · rintro ⟨k, hk, e⟩
    exact ⟨k, List.mem_range.mpr hk, e⟩
theorem walk_len (t : List Nat) (s j : Nat) : (walk t s j).length = j := by
  unfold walk
  rw [List.length_map, List.length_range]
/-- what is known on the way from the start s -/
structure In (S : List Nat) (t : List Nat) (s j : Nat) : Prop where
  nd : (walk t s j).Nodup
  off : ∀ x ∈ walk t s j, x ∉ S
theorem in_zero (S : List Nat) (t : List Nat) (s : Nat) : In S t s 0 := ⟨List.nodup_nil, fun x hx => by cases hx⟩
theorem in_succ {S : List Nat} {s j : Nat} (h : In S t s j) (hp : it t j s ∉ S ++ walk t s j) : In S t s (j + 1) := by
  rw [List.mem_append, not_or] at hp
  constructor
  · rw [walk_succ]
    refine List.nodup_append.mpr ⟨h.nd, by simp, fun x hx y hy e => ?_⟩
    rw [List.mem_singleton.mp hy] at e
    exact hp.2 (e ▸ hx)
  · intro x hx
    rw [walk_succ] at hx
    rcases List.mem_append.mp hx with hx | hx
    · exact h.off x hx
    · rw [List.mem_singleton.mp hx]
      exact hp.1
theorem in_le {S : List Nat} {s j : Nat} (ht : Turn n t) (hs : s < n) (h : In S t s j) : j ≤ n := by
  have := small_len (n := n) h.nd fun x hx => by
    obtain ⟨k, _, e⟩ := mem_walk.mp hx
    rw [← e]
    exact it_lt ht hs k
  rw [walk_len] at this
  exact this
theorem out_zero : Out n t 0 [] [] := ⟨List.nodup_nil, (fun p hp => (by cases hp)), (fun p _ => ⟨(fun h => (by cases h)), (fun h => (by cases h))⟩), (fun p hp => absurd hp (Nat.not_lt_zero p)), (fun k => ⟨(fun _ m hm => (by cases hm)), (fun _ p hp => (by cases hp))⟩), (fun m hm => (by cases hm)), Nat.le_refl 0⟩
theorem out_same {i : Nat} {S M : List Nat} (h : Out n t i S M) (hi : i ∈ S) : Out n t (i + 1) S M :=
  ⟨h.nd, h.lt, h.cl, fun p hp => by
    rcases Nat.lt_succ_iff_lt_or_eq.mp hp with c | c
    · exact h.all p c
    · rw [c]; exact hi, h.per, h.sz, by have := h.ln; omega⟩
theorem it_mem {i : Nat} {S M : List Nat} (ht : Turn n t) (h : Out n t i S M) {s : Nat} (hs : s < n) : ∀ k, it t k s ∈ S → s ∈ S
  | 0, e => e
  | k + 1, e => it_mem ht h hs k ((h.cl _ (it_lt ht hs k)).mpr e)
theorem it_back {s j : Nat} {S M : List Nat} {i : Nat} (ht : Turn n t) (h : Out n t i S M) (hs : s < n) (hI : In S t s (j + 1)) (hp : it t (j + 1) s ∈ S ++ walk t s (j + 1)) : it t (j + 1) s = s := by
  have h0 : s ∉ S := hI.off s (mem_walk.mpr ⟨0, Nat.succ_pos j, rfl⟩)
  rcases List.mem_append.mp hp with hp | hp
  · exact absurd (it_mem ht h hs _ hp) h0
  · obtain ⟨k, hk, e⟩ := mem_walk.mp hp
    cases k with
    | zero => exact e.symm
    | succ k =>
      have e2 : it t k s = it t j s := to_inj ht (it_lt ht hs k) (it_lt ht hs j) e
      have hl : (walk t s (j + 1)).length = j + 1 := walk_len ..
      have e3 : (walk t s (j + 1))[k]'(by omega) = (walk t s (j + 1))[j]'(by omega) := by
        unfold walk
        rw [List.getElem_map, List.getElem_map, List.getElem_range, List.getElem_range]
        exact e2
      have := nodup_inj hI.nd _ _ e3
      omega
theorem out_succ {j i : Nat} {S M : List Nat} (ht : Turn n t) (h : Out n t i S M) (hs : i < n) (hI : In S t i (j + 1)) (hp : it t (j + 1) i ∈ S ++ walk t i (j + 1)) : Out n t (i + 1) (S ++ walk t i (j + 1)) (M ++ [j + 1]) := by
  have hb := it_back ht h hs hI hp
  have hne : ∀ k, 0 < k → k < j + 1 → it t k i ≠ i := by
    intro k h0 hk e
    have hl : (walk t i (j + 1)).length = j + 1 := walk_len ..
    have e3 : (walk t i (j + 1))[k]'(by omega) = (walk t i (j + 1))[0]'(by omega) := by
      unfold walk
      rw [List.getElem_map, List.getElem_map, List.getElem_range, List.getElem_range]
      exact e
    have := nodup_inj hI.nd _ _ e3
    omega
  refine ⟨?_, ?_, ?_, ?_, ?_, ?_, ?_⟩
  · refine List.nodup_append.mpr ⟨h.nd, hI.nd, fun x hx y hy e => ?_⟩
    exact hI.off y hy (e ▸ hx)
  · intro p hp'
    rcases List.mem_append.mp hp' with c | c
    · exact h.lt p c
    · obtain ⟨k, _, e⟩ := mem_walk.mp c
      rw [← e]
      exact it_lt ht hs k
  · intro p hpn
    rw [List.mem_append, List.mem_append]
    constructor
    · rintro (c | c)
      · exact .inl ((h.cl p hpn).mp c)
      · obtain ⟨k, hk, e⟩ := mem_walk.mp c
        refine .inr (mem_walk.mpr ?_)
        by_cases hk2 : k + 1 < j + 1
        · exact ⟨k + 1, hk2, by show to t (it t k i) = to t p; rw [e]⟩
        · have : k = j := by omega
          subst this
          exact ⟨0, by omega, by
            show i = to t p
            rw [← e]
            exact hb.symm⟩
    · rintro (c | c)
      · exact .inl ((h.cl p hpn).mpr c)
      · obtain ⟨k, hk, e⟩ := mem_walk.mp c
        refine .inr (mem_walk.mpr ?_)
        cases k with
        | zero =>
          refine ⟨j, Nat.lt_succ_self j, to_inj ht (it_lt ht hs j) hpn ?_⟩
          exact hb.trans e
        | succ k => exact ⟨k, by omega, to_inj ht (it_lt ht hs k) hpn e⟩
  · intro p hp'
    rcases Nat.lt_succ_iff_lt_or_eq.mp hp' with c | c
    · exact List.mem_append_left _ (h.all p c)
    · rw [c]
      exact List.mem_append_right _ (mem_walk.mpr ⟨0, Nat.succ_pos j, rfl⟩)
  · intro k
    have e1 : (∀ p ∈ walk t i (j + 1), it t k p = p) ↔ (j + 1) ∣ k := by
      rw [← it_dvd ht hs (Nat.succ_pos j) hb hne k]
      constructor
      · intro a
        exact a i (mem_walk.mpr ⟨0, Nat.succ_pos j, rfl⟩)
      · intro a p hp'
        obtain ⟨m, _, e⟩ := mem_walk.mp hp'
        rw [← e, it_comm, a]
    constructor
    · intro a m hm
      rcases List.mem_append.mp hm with c | c
      · exact (h.per k).mp (fun p hp' => a p (List.mem_append_left _ hp')) m c
      · rw [List.mem_singleton.mp c]
        exact e1.mp fun p hp' => a p (List.mem_append_right _ hp')
    · intro a p hp'
      rcases List.mem_append.mp hp' with c | c
      · exact (h.per k).mpr (fun m hm => a m (List.mem_append_left _ hm)) p c
      · exact e1.mpr (a _ (List.mem_append_right _ (List.mem_singleton.mpr rfl))) p c
  · intro m hm
    rcases List.mem_append.mp hm with c | c
    · exact h.sz m c
    · rw [List.mem_singleton.mp c]
      exact ⟨by omega, in_le ht hs hI⟩
  · have := h.ln
    rw [List.length_append, List.length_singleton]
    omega
/-- what the lengths tell -/
structure Lens (n : Nat) (t : List Nat) (M : List Nat) : Prop where
  per : ∀ k, (∀ p, p < n → it t k p = p) ↔ ∀ m ∈ M, m ∣ k
  sz : ∀ m ∈ M, 1 ≤ m ∧ m ≤ n
  ln : M.length ≤ n
theorem out_end {S M : List Nat} (h : Out n t n S M) : Lens n t M :=
  ⟨fun k => Iff.trans ⟨fun a p hp => a p (h.lt p hp), fun a p hp => a p (h.all p hp)⟩ (h.per k), h.sz, h.ln⟩
def lcmOf (M : List Nat) : Nat := M.foldl (fun a m => Nat.lcm a m) 1
theorem lcm_dvd (k : Nat) : ∀ (M : List Nat) (a : Nat), M.foldl (fun a m => Nat.lcm a m) a ∣ k ↔ a ∣ k ∧ ∀ m ∈ M, m ∣ k
  | [], a => by simp
  | m :: M, a => by
    show M.foldl (fun a m => Nat.lcm a m) (Nat.lcm a m) ∣ k ↔ _
    rw [lcm_dvd k M, Nat.lcm_dvd_iff]
    constructor
    · rintro ⟨⟨h1, h2⟩, h3⟩
      refine ⟨h1, fun x hx => ?_⟩
      rcases List.mem_cons.mp hx with rfl | hx
      · exact h2
      · exact h3 x hx
    · rintro ⟨h1, h2⟩
      exact ⟨⟨h1, h2 m List.mem_cons_self⟩, fun x hx => h2 x (List.mem_cons_of_mem _ hx)⟩
theorem lcm_take {M : List Nat} {i m : Nat} (h : M[i]? = some m) : lcmOf (M.take (i + 1)) = Nat.lcm (lcmOf (M.take i)) m := by
  unfold lcmOf
  rw [List.take_add_one, h, List.foldl_append]
  rfl
theorem lcm_pos : ∀ (M : List Nat), (∀ m ∈ M, 1 ≤ m) → ∀ a, 0 < a → 0 < M.foldl (fun a m => Nat.lcm a m) a
  | [], _, a, h => h
  | m :: M, hM, a, h => lcm_pos M (fun x hx => hM x (List.mem_cons_of_mem _ hx)) _ (Nat.lcm_pos h (hM m List.mem_cons_self))
theorem lcm_bound {b : Nat} (hb : 1 ≤ b) : ∀ (M : List Nat), (∀ m ∈ M, m ≤ b) → ∀ a, M.foldl (fun a m => Nat.lcm a m) a ≤ a * b ^ M.length
  | [], _, a => by simp
  | m :: M, hM, a => by
    have h1 := lcm_bound hb M (fun x hx => hM x (List.mem_cons_of_mem _ hx)) (Nat.lcm a m)
    have h2 : Nat.lcm a m ≤ a * m := by
      unfold Nat.lcm
      exact Nat.div_le_self _ _
    have h3 : a * m ≤ a * b := Nat.mul_le_mul_left _ (hM m List.mem_cons_self)
    show M.foldl (fun a m => Nat.lcm a m) (Nat.lcm a m) ≤ a * b ^ (M.length + 1)
    refine Nat.le_trans h1 (Nat.le_trans (Nat.mul_le_mul_right _ (Nat.le_trans h2 h3)) ?_)
    rw [Nat.pow_succ, Nat.mul_assoc, Nat.mul_comm b]
    exact Nat.le_refl _
theorem ord_lcm {M : List Nat} (h : Lens n t M) : Ord n t (lcmOf M) :=
  ⟨lcm_pos M (fun m hm => (h.sz m hm).1) 1 Nat.one_pos, fun k => by
    rw [h.per k]
    unfold lcmOf
    rw [lcm_dvd k M 1]
    exact ⟨fun a => ⟨Nat.one_dvd k, a⟩, fun a => a.2⟩⟩
end Pm

set_option Elab.async false
set_option linter.all false
set_option maxRecDepth 100000
set_option maxHeartbeats 3200000
namespace K24
open PySem L2 Tx Tg Tm Da
def top (i : Nat) : Stmt := PySem.Challenge.pw_whatcounts_k24_readers_told.main.body.getD i (.Pass ⟨0, 0, 0, 0⟩)
abbrev sInt : Stmt := top 13
abbrev sLetters : Stmt := top 14
abbrev sText : Stmt := top 15
abbrev sCheck : Stmt := top 16
abbrev sHas : Stmt := top 17
abbrev sCText : Stmt := top 19
abbrev sIsState : Stmt := top 33
abbrev sRowOk : Stmt := top 34
abbrev sMovesOk : Stmt := top 35
abbrev sYesOk : Stmt := top 36
abbrev sReader : Stmt := top 37
abbrev sCup : Stmt := top 39
abbrev sBit : Stmt := top 40
abbrev sPick : Stmt := top 41
abbrev sDealt : Stmt := top 42
abbrev sSigns : Stmt := top 43
abbrev sLine : Stmt := top 44
abbrev sSome : Stmt := top 45
abbrev sAny : Stmt := top 46
abbrev sTurning : Stmt := top 47
abbrev sRing : Stmt := top 48
abbrev sPair : Stmt := top 49
abbrev sTurner : Stmt := top 50
abbrev sPlain : Stmt := top 51
abbrev sRead : Stmt := top 52
abbrev sSays : Stmt := top 53
abbrev sMade : Stmt := top 54
abbrev sCount : Stmt := top 55
abbrev sIsR : Stmt := top 56
abbrev sLines : Stmt := top 57
abbrev sNear : Stmt := top 58
abbrev sAll : Stmt := top 59
abbrev sCell : Stmt := top 60
abbrev sLaw : Stmt := top 61
/-! ### values -/
inductive Val (H : Hp) : V → PyData → Prop
  | non : Val H .non .none
  | bl (b : Bool) : Val H (.bl b) (.bool b)
  | int (n : Int) : Val H (.int n) (.int n)
  | str (z : Str) : Val H (.str z) (.str z)
  | lst {a : Addr} (l : List Str) (h : H a = some (.lst (l.map V.str))) : Val H (.ref a) (.list (l.map PyData.str))
  | tup {a : Addr} (l : List Str) (h : H a = some (.tup (l.map V.str))) : Val H (.ref a) (.tuple (l.map PyData.str))
  | tupI {a : Addr} (l : List Int) (h : H a = some (.tup (l.map V.int))) : Val H (.ref a) (.tuple (l.map PyData.int))
  | dct {a : Addr} (kvs : List (Str × Int)) (h : H a = some (.dK (kvs.map fun p => (Sum.inr p.1, V.int p.2)))) : Val H (.ref a) (.dict (kvs.map fun p => (.str p.1, .int p.2)))
theorem Val.same {H H' : Hp} {v : V} {d : PyData} (s : Same H H') (h : Val H v d) : Val H' v d := by
  cases h with
  | non => exact .non
  | bl b => exact .bl b
  | int n => exact .int n
  | str z => exact .str z
  | lst l h => exact .lst l (s _ _ h)
  | tup l h => exact .tup l (s _ _ h)
  | tupI l h => exact .tupI l (s _ _ h)
  | dct l h => exact .dct l (s _ _ h)
def intTy : PyData → Bool
  | .int _ => true
  | .bool _ => true
  | _ => false
def strTy : PyData → Bool
  | .str _ => true
  | _ => false
def blTy : PyData → Bool
  | .bool _ => true
  | _ => false
theorem k_NoneType_int : kitB "NoneType" "int" = some false := by decide +kernel
theorem k_NoneType_str : kitB "NoneType" "str" = some false := by decide +kernel
theorem k_NoneType_bool : kitB "NoneType" "bool" = some false := by decide +kernel
theorem k_bool_int : kitB "bool" "int" = some true := by decide +kernel
theorem k_bool_str : kitB "bool" "str" = some false := by decide +kernel
theorem k_bool_bool : kitB "bool" "bool" = some true := by decide +kernel
theorem k_int_int : kitB "int" "int" = some true := by decide +kernel
theorem k_int_str : kitB "int" "str" = some false := by decide +kernel
theorem k_int_bool : kitB "int" "bool" = some false := by decide +kernel
theorem k_str_int : kitB "str" "int" = some false := by decide +kernel
theorem k_str_str : kitB "str" "str" = some true := by decide +kernel
theorem k_str_bool : kitB "str" "bool" = some false := by decide +kernel
theorem k_list_int : kitB "list" "int" = some false := by decide +kernel
theorem k_list_str : kitB "list" "str" = some false := by decide +kernel
theorem k_list_bool : kitB "list" "bool" = some false := by decide +kernel
theorem k_tuple_int : kitB "tuple" "int" = some false := by decide +kernel
theorem k_tuple_str : kitB "tuple" "str" = some false := by decide +kernel
theorem k_tuple_bool : kitB "tuple" "bool" = some false := by decide +kernel
theorem k_dict_int : kitB "dict" "int" = some false := by decide +kernel
theorem k_dict_str : kitB "dict" "str" = some false := by decide +kernel
theorem k_dict_bool : kitB "dict" "bool" = some false := by decide +kernel
theorem Val.ty {K : PySem.W.Frag} {H : Hp} {v : V} {d : PyData} (h : Val H v d) : ∃ t, TyX K H v t ∧ PySem.W.kitOne K t (.type "int") = some (intTy d) ∧ PySem.W.kitOne K t (.type "str") = some (strTy d) ∧ PySem.W.kitOne K t (.type "bool") = some (blTy d) := by
  cases h with
  | non => exact ⟨_, .base .non, kit_ty k_NoneType_int, kit_ty k_NoneType_str, kit_ty k_NoneType_bool⟩
  | bl b => exact ⟨_, .base (.bl b), kit_ty k_bool_int, kit_ty k_bool_str, kit_ty k_bool_bool⟩
  | int n => exact ⟨_, .base (.int n), kit_ty k_int_int, kit_ty k_int_str, kit_ty k_int_bool⟩
  | str z => exact ⟨_, .base (.str z), kit_ty k_str_int, kit_ty k_str_str, kit_ty k_str_bool⟩
  | lst l h => exact ⟨_, .base (.lst h), kit_ty k_list_int, kit_ty k_list_str, kit_ty k_list_bool⟩
  | tup l h => exact ⟨_, .base (.tup h), kit_ty k_tuple_int, kit_ty k_tuple_str, kit_ty k_tuple_bool⟩
  | tupI l h => exact ⟨_, .base (.tup h), kit_ty k_tuple_int, kit_ty k_tuple_str, kit_ty k_tuple_bool⟩
  | dct l h => exact ⟨_, .base (.dK h), kit_ty k_dict_int, kit_ty k_dict_str, kit_ty k_dict_bool⟩

/-- what the walk asks of the module's names -/
structure Txt (K : PySem.W.Frag) (mg : Str → Option Value) : Prop where
  isi : mg "isinstance" = none
  int : mg "int" = none
  str : mg "str" = none
  bool : mg "bool" = none
  abs : mg "abs" = none
  len : mg "len" = none
  list : mg "list" = none
  set : mg "set" = none
  sorted : mg "sorted" = none
  repr : mg "repr" = none
  range : mg "range" = none
  max : mg "max" = none
  min : mg "min" = none
  all : mg "all" = none
  tuple : mg "tuple" = none
  dict : mg "dict" = none
  zip : mg "zip" = none
  long : ∃ t, mg "LEAST_TOO_LONG" = some (.int (10 ^ 200) t)
  alpha : ∃ t, mg "ALPHABET" = some (.str alpha t)
  mLet : ∃ t, mg "MAX_LETTERS" = some (.int 3 t)
  mText : ∃ t, mg "MAX_TEXT" = some (.int 4000 t)
  mSta : ∃ t, mg "MAX_STATES" = some (.int 60 t)

theorem fine_line {z : Str} (h : Fine z) : z.length ≤ sizeLine := Nat.le_trans h.long (by decide)

/-! ### the program's judges -/
def spHas : Sp := fun vs H Q _ => ∃ (v : V) (d : PyData) (sg : Str) (m : Nat), vs = [v, .str sg, .int m] ∧ Val H v d ∧ Ok d ∧ Q (.bl (has sg m d)) H
section
variable {P : Program} {w : World} {K : PySem.W.Frag} {mg : Str → Option Value} {base : Heap}
theorem scHas : FnScope ["value", "signs", "most"] ["value", "signs", "most"] (defScope sHas) := ⟨rfl, rfl, rfl, by decide +kernel, rfl, by decide +kernel, by decide +kernel⟩
theorem ok_has {f : Addr} {fd : FuncData} (F : Fun K "has_only" "has_only" sHas f fd) (T : Txt K mg) : FnOk P w K mg base CX0 1 f fd ["value", "signs", "most"] spHas := by
  refine F.ok scHas (fun vs H Q E h => ?_) (fun cdv A outer s H vs Q E hr h => ?_)
  · obtain ⟨v, d, sg, m, rfl, _⟩ := h
    rfl
  · obtain ⟨v, d, sg, m, rfl, hv, hd, q⟩ := h
    refine ⟨_, pss_one (ps_ret (pe_and (pe_callB call_isi (by rfl) T.isi (by decide +kernel) (pa_cons (pv 0) (pa_cons (pe_bltn (v := .ty "str") (by rfl) T.str (by decide +kernel) rfl) pa_nil)))
      (pe_and (pe_cmpR op_le (pe_callB call_len_str (by rfl) T.len PySem.boot_len (pa_cons (pv 0) pa_nil)) (pv 2) (nomark _))
      (pe_one (pe_cmpR op_eq (pe_bm PySem.F.plainAttrs_str PySem.F.slot_str_strip PySem.F.type_str_strip mt_stripChars (pv 0) (pa_cons (pv 1) pa_nil)) pe_str (nomark _)))))), ?_⟩
    obtain ⟨t, ty, _, k, _⟩ := Val.ty (K := K) hv
    refine ⟨_, rfl, _, _, _, _, _, rfl, .ty "str", ty, k, strTy d, rfl, ?_⟩
    cases hv with
    | str z =>
      have hz := fine_line (show Fine z from hd)
      refine iteT ?_
      refine ⟨_, rfl, z, rfl, hz, _, rfl, _, _, rfl, rfl, _, rfl, ?_⟩
      have e1 : decide ((z.length : Int) ≤ (m : Int)) = decide (z.length ≤ m) := decide_eq_decide.mpr (by omega)
      rw [e1]
      have e0 : has sg m (.str z) = (decide (z.length ≤ m) && only z sg) := rfl
      rw [e0] at q
      by_cases hm : z.length ≤ m
      · rw [decide_eq_true hm] at q ⊢
        refine iteT ?_
        refine ⟨_, rfl, rfl, _, rfl, z, sg, rfl, rfl, hz, rfl, ?_⟩
        have e2 : decide (V.str (Txt.stripChars z sg) = V.str (Str.ofString "")) = only z sg := by
          rw [← strip_only]
          exact decide_eq_decide.mpr ⟨fun e => by injection e, fun e => by rw [e]; rfl⟩
        rw [e2]
        exact q
      · rw [decide_eq_false hm] at q ⊢
        exact iteF q
    | _ => exact iteF q

def spInt : Sp := fun vs H Q _ => ∃ (v : V) (d : PyData), vs = [v] ∧ Val H v d ∧ Q (.bl (isInt d)) H
theorem scInt : FnScope ["value"] ["value"] (defScope sInt) := ⟨rfl, rfl, rfl, by decide +kernel, rfl, by decide +kernel, by decide +kernel⟩
theorem isInt_abs (n : Int) : decide ((if n < 0 then -n else n) < 10 ^ 200) = isInt (.int n) := by
  show _ = decide (n.natAbs < 10 ^ 200)
  have e : ((10 ^ 200 : Nat) : Int) = 10 ^ 200 := by norm_cast
  rw [← e]
  generalize (10 ^ 200 : Nat) = M
  refine decide_eq_decide.mpr ?_
  split <;> omega
theorem ok_int {f : Addr} {fd : FuncData} (F : Fun K "is_integer" "is_integer" sInt f fd) (T : Txt K mg) : FnOk P w K mg base CX0 1 f fd ["value"] spInt := by
  refine F.ok scInt (fun vs H Q E h => ?_) (fun cdv A outer s H vs Q E hr h => ?_)
  · obtain ⟨v, d, rfl, _⟩ := h
    rfl
  · obtain ⟨v, d, rfl, hv, q⟩ := h
    obtain ⟨tl, hl⟩ := T.long
    refine ⟨_, pss_one (ps_ret (pe_and (pe_callB call_isi (by rfl) T.isi (by decide +kernel) (pa_cons (pv 0) (pa_cons (pe_bltn (v := .ty "int") (by rfl) T.int (by decide +kernel) rfl) pa_nil)))
      (pe_and (pe_not (pe_callB call_isi (by rfl) T.isi (by decide +kernel) (pa_cons (pv 0) (pa_cons (pe_bltn (v := .ty "bool") (by rfl) T.bool (by decide +kernel) rfl) pa_nil))))
      (pe_one (pe_cmpR op_lt (pe_callB call_abs (by rfl) T.abs (by decide +kernel) (pa_cons (pv 0) pa_nil)) (pe_glob (v := .int (10 ^ 200)) rfl hl ⟨_, rfl⟩) (nomark _)))))), ?_⟩
    obtain ⟨t, ty, k1, _, k3⟩ := Val.ty (K := K) hv
    refine ⟨_, rfl, _, _, _, _, _, rfl, .ty "int", ty, k1, intTy d, rfl, ?_⟩
    cases hv with
    | int n =>
      refine iteT ⟨_, rfl, _, _, _, _, _, rfl, .ty "bool", ty, k3, _, rfl, _, rfl, iteT ?_⟩
      refine ⟨_, rfl, n, rfl, _, _, rfl, rfl, ?_⟩
      show Q (.bl (decide ((if n < 0 then -n else n) < 10 ^ 200))) H
      rw [isInt_abs]
      exact q
    | bl b => exact iteT ⟨_, rfl, _, _, _, _, _, rfl, .ty "bool", ty, k3, _, rfl, _, rfl, iteF q⟩
    | _ => exact iteF q

end
/-- a def of the text, found under its name -/
structure Df (K : PySem.W.Frag) (mg : Str → Option Value) (x : Str) (st : Stmt) (ps : List Str) (f : Addr) (fd : FuncData) : Prop where
  F : Fun K x x st f fd
  m : mg x = some (.ref f)
  b : Binds K fd ps []

/-! ### rows of one-sign texts as data -/
abbrev onesD (l : List Nat) : List PyData := l.map fun c => PyData.str (one c)
theorem all_ones (K : PySem.W.Frag) (H : Hp) : ∀ l : List Nat, DpAll K H (ones l) (onesD l)
  | [] => .nil
  | c :: l => .cons (.str _) (all_ones K H l)
theorem eqv_ones : ∀ l m : List Nat, PyData.eqvAll (onesD l) (onesD m) = decide (l = m)
  | [], [] => rfl
  | [], _ :: _ => rfl
  | _ :: _, [] => rfl
  | c :: l, d :: m => by
    show ((one c == one d) && PyData.eqvAll (onesD l) (onesD m)) = _
    rw [eqv_ones l m]
    by_cases h : c = d
    · subst h
      simp
    · have e : (one c == one d) = false := beq_eq_false_iff_ne.mpr fun q => h (one_inj q)
      rw [e]
      simp [h]
theorem lay_all (l : List Nat) (h : ∀ c ∈ l, c < 128) : PyData.canLayAll0 (onesD l) = true := by
  induction l with
  | nil => rfl
  | cons c l ih =>
    have hc := h c List.mem_cons_self
    have e1 : PyData.canLay0 (.str (one c)) = true := by
      show (one c).cps.all (· < 0x110000) = true
      simp
      omega
    show (PyData.canLay0 (.str (one c)) && PyData.canLayAll0 (onesD l)) = true
    rw [ih fun d hd => h d (List.mem_cons_of_mem _ hd), e1]
    rfl
theorem deep_all (l : List Nat) : PyData.depthAll (onesD l) ≤ 1 := by
  induction l with
  | nil => decide
  | cons c l ih =>
    show max _ (PyData.depthAll (onesD l)) ≤ 1
    exact Nat.max_le.mpr ⟨(by show 0 ≤ 1; decide), ih⟩
theorem shaped_ones (l : List Nat) (h : ∀ c ∈ l, c < 128) : SeqAt.shaped (.list (onesD l)) = true := by
  unfold SeqAt.shaped
  rw [Bool.and_eq_true]
  refine ⟨lay_all l h, decide_eq_true ?_⟩
  show PyData.depthAll (onesD l) + 1 ≤ 64
  have := deep_all l
  omega

section
variable {P : Program} {w : World} {K : PySem.W.Frag} {mg : Str → Option Value} {base : Heap}
theorem scLetters : FnScope ["value"] ["value"] (defScope sLetters) := ⟨rfl, rfl, rfl, by decide +kernel, rfl, by decide +kernel, by decide +kernel⟩
def spLetters : Sp := fun vs H Q _ => ∃ (v : V) (d : PyData), vs = [v] ∧ Val H v d ∧ Ok d ∧ ∀ H', Same H H' → Q (.bl (letters d)) H'
theorem same_upd {H : Hp} {p : Addr} {o : HO} (h : H p = none) : Same H (upd H p o) := fun b u e => by
  rw [upd_ne (ne_of_none e h)]
  exact e
theorem ok_letters {f fH : Addr} {fd fdH : FuncData} (F : Fun K "is_letters" "is_letters" sLetters f fd) (T : Txt K mg) (DH : Df K mg "has_only" sHas ["value", "signs", "most"] fH fdH) :
    FnOk P w K mg base CX0 2 f fd ["value"] spLetters := by
  have G := ok_has (P := P) (w := w) (base := base) DH.F T
  refine F.ok scLetters (fun vs H Q E h => ?_) (fun cdv A outer s H vs Q E hr h => ?_)
  · obtain ⟨v, d, rfl, _⟩ := h
    rfl
  · obtain ⟨v, d, rfl, hv, hd, q⟩ := h
    obtain ⟨ta, ha⟩ := T.alpha
    obtain ⟨tn, hn⟩ := T.mLet
    refine ⟨_, pss_one (ps_ret (pe_and (pe_call G hr (by rfl) DH.m DH.F.kp DH.b .nil pass0 (pa_cons (pv 0) (pa_cons (pe_glob (v := .str alpha) rfl ha ⟨_, rfl⟩) (pa_cons (pe_glob (v := .int 3) rfl hn ⟨_, rfl⟩) pa_nil))))
      (pe_and (pe_cmpR op_ne (pv 0) pe_str (nomark _))
      (pe_one (pe_cmpR (op_eqD hr.units) (pe_callTy (cr_listTx rfl) (by rfl) T.list (by decide +kernel) (pa_cons (pv 0) pa_nil))
        (pe_callB (cr_sortTx rfl) (by rfl) T.sorted (by decide +kernel) (pa_cons (pe_callTy (cr_setTx rfl) (by rfl) T.set (by decide +kernel) (pa_cons (pv 0) pa_nil)) pa_nil)) (nomark _)))))), ?_⟩
    refine ⟨_, rfl, v, d, alpha, 3, rfl, hv, hd, _, rfl, ?_⟩
    cases hv with
    | str z =>
      have hz : Fine z := hd
      have e0 : letters (.str z) = (has alpha 3 (.str z) && decide (z ≠ Str.empty) && rise z) := rfl
      rw [e0] at q
      cases hb : has alpha 3 (.str z) with
      | true =>
        rw [hb] at q
        refine iteT ⟨_, rfl, rfl, ?_⟩
        have e : (!decide (V.str z = V.str (Str.ofString ""))) = decide (z ≠ Str.empty) := by
          rw [← decide_not]
          exact decide_eq_decide.mpr ⟨fun h e => h (by rw [e]; rfl), fun h e => h (by injection e)⟩
        refine ⟨_, rfl, ?_⟩
        rw [e]
        by_cases hne : z ≠ Str.empty
        · rw [decide_eq_true hne] at q ⊢
          refine iteT ?_
          refine ⟨_, rfl, z, rfl, fine_line hz, fun p1 n1 => ?_⟩
          refine ⟨_, rfl, z, rfl, hz.few, fun p2 n2 => ?_⟩
          refine ⟨p2, cds z, rfl, upd_same, hz.few, fun p3 n3 => ?_⟩
          have s1 : Same H (upd H p1 (.lst (ones (cds z)))) := same_upd n1
          have s2 := same_upd (o := TO w p2 (met [] (cds z))) n2
          have s3 := same_upd (o := .lst (ones (ups (cds z)))) n3
          have h1 := s3 _ _ (s2 _ _ (upd_same (H := H) (a := p1) (o := .lst (ones (cds z)))))
          refine ⟨.list (onesD (cds z)), .list (onesD (ups (cds z))), .lst (SqL.of h1) (all_ones _ _ _), .lst (SqL.of upd_same) (all_ones _ _ _), shaped_ones _ hz.plain, shaped_ones _ (fun c hc => hz.plain c ((ups_mem _ _).mp hc)), ?_⟩
          have e2 : PyData.eqv (.list (onesD (cds z))) (.list (onesD (ups (cds z)))) = rise z := eqv_ones _ _
          rw [e2]
          exact q _ ((s1.trans s2).trans s3)
        · have hne' : decide (z ≠ Str.empty) = false := decide_eq_false hne
          rw [hne'] at q ⊢
          exact iteF (q _ (Same.refl H))
      | false =>
        rw [hb] at q
        exact iteF (q _ (Same.refl H))
    | _ => exact iteF (q _ (Same.refl H))

/-! ### the law's drawer -/
/-- a drawer: three ints -/
def Cup (H : Hp) (c : Addr) : Prop := ∃ a0 a1 a2 : Int, H c = some (.lst [.int a0, .int a1, .int a2])
/-- all but what stands at c stays -/
def But (c : Addr) (H H' : Hp) : Prop := ∀ b o, b ≠ c → H b = some o → H' b = some o
theorem But.refl (c : Addr) (H : Hp) : But c H H := fun _ _ _ e => e
theorem But.trans {c : Addr} {H H1 H2 : Hp} (a : But c H H1) (b : But c H1 H2) : But c H H2 := fun x o n e => b x o n (a x o n e)
theorem But.of {c : Addr} {H H' : Hp} (s : Same H H') : But c H H' := fun b o _ e => s b o e
theorem But.put {c : Addr} {H : Hp} {o : HO} : But c H (upd H c o) := fun b u n e => by rw [upd_ne n]; exact e

def spCup (K : PySem.W.Frag) : Sp := fun vs H Q _ => ∃ (a : Addr) (ns : List Int) (k : Nat), vs = [.ref a, .int k] ∧ SqL K H a (ns.map V.int) ∧ ns.length ≤ 63 ∧ k ≤ 100 ∧ ∀ p H', H p = none → Same H H' → Cup H' p → Q (.ref p) H'
theorem scCup : FnScope ["_law_script", "_law_at", "_law_cell", "_law_great", "_law_blend"] ["_law_script", "_law_at"] (defScope sCup) := ⟨rfl, rfl, rfl, by decide +kernel, rfl, by decide +kernel, by decide +kernel⟩
theorem ok_cup {f : Addr} {fd : FuncData} (F : Fun K "_law_cup" "_law_cup" sCup f fd) (T : Txt K mg) : FnOk P w K mg base CX0 1 f fd ["_law_script", "_law_at"] (spCup K) := by
  refine F.ok scCup (fun vs H Q E h => ?_) (fun cdv A outer s H vs Q E hr h => ?_)
  · obtain ⟨a, ns, k, rfl, _⟩ := h
    rfl
  · obtain ⟨a, ns, k, rfl, hS, hlen, hk, q⟩ := h
    refine ⟨_, pss_cons (ps_set (i := 2) scCup.nd rfl (Or.inl rfl) (pe_ifExp (pt_cmpR op_lt (pv 1) (pe_callB call_len (by rfl) T.len PySem.boot_len (pa_cons (pv 0) pa_nil)) (nomark _))
        (pe_ix ix_list (pv 0) (pv 1) (fun _ _ => rfl)) (pe_op op_add (pe_op op_mul pe_int (pv 1)) pe_int)))
      (pss_cons (ps_set (i := 3) scCup.nd rfl (Or.inl rfl) (pe_op op_modN (pe_callTy call_int1 (by rfl) T.int (by decide +kernel) (pa_cons (pe_callB call_abs (by rfl) T.abs (by decide +kernel) (pa_cons (pv 2) pa_nil)) pa_nil))
        (pe_op op_powW (pe_op op_pow pe_int pe_int) pe_int)))
      (pss_cons (ps_set (i := 4) scCup.nd rfl (Or.inl rfl) (pe_op op_add (pe_op op_add (pe_op op_add
          (pe_op op_mul (pe_op op_modN (pe_callTy call_int1 (by rfl) T.int (by decide +kernel) (pa_cons (pv 3) pa_nil)) pe_int) pe_int) (pe_op op_mul pe_int (pv 1)))
          (pe_op op_mul pe_int (pe_callTy call_int1 (by rfl) T.int (by decide +kernel) (pa_cons (pe_cmpR op_lt (pv 2) pe_int (nomark _)) pa_nil)))) pe_int))
      (pss_one (ps_ret (pe_lst (pa_cons (pe_callB (call_max2 rfl) (by rfl) T.max (by decide +kernel) (pa_cons pe_int (pa_cons (pe_op op_sub (pv 3) (pe_op op_pow pe_int pe_int)) pa_nil)))
        (pa_cons (pe_op op_modN (pe_callTy call_int1 (by rfl) T.int (by decide +kernel) (pa_cons (pv 4) pa_nil)) pe_int) (pa_cons pe_int pa_nil)))))))), ?_⟩
    refine ⟨_, rfl, _, rfl, _, ns.length, rfl, .inl ⟨_, hS, by rw [List.length_map]⟩, _, _, rfl, rfl, _, rfl, ?_⟩
    refine ite2 (fun hc => ?_) (fun _ => ?_)
    · have hk2 : k < ns.length := by
        have := of_decide_eq_true hc
        omega
      refine ⟨_, rfl, _, rfl, a, _, _, .int ns[k], rfl, rfl, hS, atI_nat (by rw [List.getElem?_map, List.getElem?_eq_getElem hk2]; rfl), ?_⟩
      refine ⟨_, rfl, _, rfl, .inl ⟨_, rfl, _, _, rfl, rfl, ⟨by decide, by decide, by decide⟩, _, _, rfl, rfl, ⟨by decide, by decide +kernel⟩, _, _, rfl, rfl, (show (((10 : Int) ^ Int.toNat 61) ^ Int.toNat 11) ≠ 0 by decide +kernel), ?_⟩⟩
      refine ⟨_, rfl, .inl ⟨_, rfl, _, _, rfl, rfl, (show (2147483179 : Int) ≠ 0 by decide), _, _, rfl, rfl, .inr ⟨by decide, by decide⟩, _, rfl, _, _, rfl, rfl, .inl ⟨by decide, by decide⟩, _, _, rfl, rfl, _, rfl, _, _, rfl, rfl,
        .inr ⟨_, rfl, _, _, rfl, rfl, .inl ⟨by decide, by decide⟩, _, _, rfl, rfl, _, _, rfl, rfl, ?_⟩⟩⟩
      refine ⟨_, rfl, _, _, rfl, rfl, ⟨by decide, by decide, by decide⟩, _, _, rfl, rfl, _, _, rfl, _, rfl, .inl ⟨_, rfl, _, _, rfl, rfl, (show (2305843009213693907 : Int) ≠ 0 by decide), by show 3 ≤ sizeLine; decide, fun p hp => ?_⟩⟩
      exact q p _ hp (same_upd hp) ⟨_, _, _, upd_same⟩
    · refine ⟨_, rfl, _, _, rfl, rfl, .inl ⟨by decide, by decide⟩, _, _, rfl, rfl, ?_⟩
      refine ⟨_, rfl, _, rfl, .inl ⟨_, rfl, _, _, rfl, rfl, ⟨by decide, by decide, by decide⟩, _, _, rfl, rfl, ⟨by decide, by decide +kernel⟩, _, _, rfl, rfl, (show (((10 : Int) ^ Int.toNat 61) ^ Int.toNat 11) ≠ 0 by decide +kernel), ?_⟩⟩
      refine ⟨_, rfl, .inl ⟨_, rfl, _, _, rfl, rfl, (show (2147483179 : Int) ≠ 0 by decide), _, _, rfl, rfl, .inr ⟨by decide, by decide⟩, _, rfl, _, _, rfl, rfl, .inl ⟨by decide, by decide⟩, _, _, rfl, rfl, _, rfl, _, _, rfl, rfl,
        .inr ⟨_, rfl, _, _, rfl, rfl, .inl ⟨by decide, by decide⟩, _, _, rfl, rfl, _, _, rfl, rfl, ?_⟩⟩⟩
      refine ⟨_, rfl, _, _, rfl, rfl, ⟨by decide, by decide, by decide⟩, _, _, rfl, rfl, _, _, rfl, _, rfl, .inl ⟨_, rfl, _, _, rfl, rfl, (show (2305843009213693907 : Int) ≠ 0 by decide), by show 3 ≤ sizeLine; decide, fun p hp => ?_⟩⟩
      exact q p _ hp (same_upd hp) ⟨_, _, _, upd_same⟩

def spBit : Sp := fun vs H Q _ => ∃ (c : Addr) (m : Int), vs = [.ref c, .int m] ∧ Cup H c ∧ 0 < m ∧ m.natAbs < 2 ^ 9000 ∧ ∀ r H', 0 ≤ r → r < m → Cup H' c → But c H H' → Q (.int r) H'
theorem scBit : FnScope ["_law_cup_here", "_law_much", "_law_found", "_law_first", "_law_later"] ["_law_cup_here", "_law_much"] (defScope sBit) := ⟨rfl, rfl, rfl, by decide +kernel, rfl, by decide +kernel, by decide +kernel⟩
theorem ok_bit {f : Addr} {fd : FuncData} (F : Fun K "_law_bit" "_law_bit" sBit f fd) (T : Txt K mg) : FnOk P w K mg base CX0 1 f fd ["_law_cup_here", "_law_much"] spBit := by
  refine F.ok scBit (fun vs H Q E h => ?_) (fun cdv A outer s H vs Q E hr h => ?_)
  · obtain ⟨c, m, rfl, _⟩ := h
    rfl
  · obtain ⟨c, m, rfl, ⟨a0, a1, a2, hc⟩, hm, hm2, q⟩ := h
    refine ⟨_, pss_cons (ps_if (pt_cmpR op_gt (pe_ix ix_list (pv 0) pe_int (fun _ _ => rfl)) pe_int (nomark _))
        (pss_cons (ps_set (i := 2) scBit.nd rfl (Or.inl rfl) (pe_op op_modN (pe_callTy call_int1 (by rfl) T.int (by decide +kernel) (pa_cons (pe_ix ix_list (pv 0) pe_int (fun _ _ => rfl)) pa_nil)) (pv 1)))
        (pss_cons (ps_asg (pe_op op_fdivW (pe_ix ix_list (pv 0) pe_int (fun _ _ => rfl)) (pv 1)) (pg_sub (pv 0) pe_int set_list))
        (pss_one (ps_ret (pv 2))))) pss_nil)
      (pss_cons (ps_asg (pe_op op_add (pe_ix ix_list (pv 0) pe_int (fun _ _ => rfl)) pe_int) (pg_sub (pv 0) pe_int set_list))
      (pss_cons (ps_set (i := 3) scBit.nd rfl (Or.inl rfl) (pe_op op_modN (pe_callTy call_int1 (by rfl) T.int (by decide +kernel) (pa_cons (pe_op op_add (pe_ix ix_list (pv 0) pe_int (fun _ _ => rfl))
          (pe_op op_mul pe_int (pe_ix ix_list (pv 0) pe_int (fun _ _ => rfl)))) pa_nil)) pe_int))
      (pss_cons (ps_set (i := 4) scBit.nd rfl (Or.inl rfl) (pe_op op_add (pe_op op_mul (pe_op op_modN (pe_callTy call_int1 (by rfl) T.int (by decide +kernel) (pa_cons (pe_op op_mul (pv 3) (pv 3)) pa_nil)) pe_int) (pv 3))
          (pe_op op_mul pe_int (pe_ix ix_list (pv 0) pe_int (fun _ _ => rfl)))))
      (pss_one (ps_ret (pe_op op_modN (pe_callTy call_int1 (by rfl) T.int (by decide +kernel) (pa_cons (pe_op op_fdivN (pe_op op_modN (pe_callTy call_int1 (by rfl) T.int (by decide +kernel) (pa_cons (pv 4) pa_nil)) pe_int) pe_int) pa_nil)) (pv 1))))))), ?_⟩
    have at0 : ∀ {x y z : V}, atI [x, y, z] (0 : Int) = some x := rfl
    have at1 : ∀ {x y z : V}, atI [x, y, z] (1 : Int) = some y := rfl
    have at2 : ∀ {x y z : V}, atI [x, y, z] (2 : Int) = some z := rfl
    have rest : ∀ i : Int, 0 ≤ i.fmod m ∧ i.fmod m < m := fun i => by
      rw [Int.fmod_eq_emod_of_nonneg i (Int.le_of_lt hm)]
      exact ⟨Int.emod_nonneg i (Int.ne_of_gt hm), Int.emod_lt_of_pos i hm⟩
    refine ⟨_, rfl, c, _, _, _, rfl, rfl, SqL.of hc, at0, _, _, rfl, rfl, _, rfl, ?_⟩
    refine ite2 (fun _ => ?_) (fun _ => ?_)
    · refine ⟨_, rfl, c, _, _, _, rfl, rfl, SqL.of hc, at0, .inl ⟨_, rfl, _, rfl, _, _, rfl, rfl, (Int.ne_of_gt hm), ?_⟩⟩
      refine ⟨_, rfl, c, _, _, _, rfl, rfl, SqL.of hc, at0, _, rfl, _, _, rfl, rfl, wide_div hm hm2 (by decide) (by decide), ?_⟩
      refine ⟨_, rfl, c, _, _, 0, rfl, rfl, hc, rfl, ?_⟩
      exact ⟨_, rfl, q _ _ (rest _).1 (rest _).2 ⟨_, _, _, upd_same⟩ But.put⟩
    · refine ⟨_, rfl, c, _, _, _, rfl, rfl, SqL.of hc, at2, _, _, rfl, rfl, _, rfl, c, _, _, 2, rfl, rfl, hc, rfl, ?_⟩
      have hc2 : (upd H c (.lst ([.int a0, .int a1, .int a2].set 2 (.int (a2 + 1))))) c = some (.lst [.int a0, .int a1, .int (a2 + 1)]) := upd_same
      refine ⟨_, rfl, c, _, _, _, rfl, rfl, SqL.of hc2, at1, _, rfl, c, _, _, _, rfl, rfl, SqL.of hc2, at2, _, _, rfl, rfl, .inl ⟨by decide, by decide⟩, _, _, rfl, rfl, .inl ⟨_, rfl, _, _, rfl, rfl, (show (2305843009213693951 : Int) ≠ 0 by decide), ?_⟩⟩
      have f1 := Int.emod_nonneg (a1 + 1000541 * (a2 + 1)) (b := 2305843009213693951) (by decide)
      have f2 := Int.emod_lt_of_pos (a1 + 1000541 * (a2 + 1)) (b := 2305843009213693951) (by decide)
      rw [← Int.fmod_eq_emod_of_nonneg (a1 + 1000541 * (a2 + 1)) (b := 2305843009213693951) (by decide)] at f1 f2
      have f3 : -(2 ^ 64 : Int) < Int.fmod (a1 + 1000541 * (a2 + 1)) 2305843009213693951 ∧ Int.fmod (a1 + 1000541 * (a2 + 1)) 2305843009213693951 < 2 ^ 64 :=
        ⟨Int.lt_of_lt_of_le (by decide) f1, Int.lt_trans f2 (by decide)⟩
      refine ⟨_, rfl, _, rfl, _, _, rfl, rfl, .inl f3, .inl ⟨_, rfl, _, _, rfl, rfl, (show (2305843009213693921 : Int) ≠ 0 by decide), _, rfl, _, _, rfl, rfl, .inr f3, _, rfl, c, _, _, _, rfl, rfl, SqL.of hc2, at2,
        _, _, rfl, rfl, .inl ⟨by decide, by decide⟩, _, _, rfl, rfl, ?_⟩⟩
      refine ⟨_, rfl, .inl ⟨_, rfl, _, _, rfl, rfl, (show (2305843009213693907 : Int) ≠ 0 by decide), _, _, rfl, rfl, (show (16384 : Int) ≠ 0 ∧ (16384 : Int).natAbs < 1073741824 by decide), .inl ⟨_, rfl, _, rfl, _, _, rfl, rfl, (Int.ne_of_gt hm), ?_⟩⟩⟩
      exact q _ _ (rest _).1 (rest _).2 ⟨_, _, _, hc2⟩ But.put
/-! ### drawing -/
theorem scPick : FnScope ["_law_cup_here", "_law_items"] ["_law_cup_here", "_law_items"] (defScope sPick) := ⟨rfl, rfl, rfl, by decide +kernel, rfl, by decide +kernel, by decide +kernel⟩
def spPick : Sp := fun vs H Q _ => ∃ (c : Addr), Cup H c ∧
  ((∃ (p : Addr) (xs : List V), vs = [.ref c, .ref p] ∧ p ≠ c ∧ H p = some (.lst xs) ∧ 0 < xs.length ∧ xs.length < 100 ∧ ∀ x H', x ∈ xs → Cup H' c → But c H H' → Q x H') ∨
   (∃ z : Str, vs = [.ref c, .str z] ∧ 0 < z.length ∧ z.length < 100 ∧ ∀ s H', s ∈ cds z → Cup H' c → But c H H' → Q (.str (one s)) H'))
theorem ok_pick {f fB : Addr} {fd fdB : FuncData} (F : Fun K "_law_pick" "_law_pick" sPick f fd) (T : Txt K mg) (DB : Df K mg "_law_bit" sBit ["_law_cup_here", "_law_much"] fB fdB) :
    FnOk P w K mg base CX0 2 f fd ["_law_cup_here", "_law_items"] spPick := by
  have G := ok_bit (P := P) (w := w) (base := base) DB.F T
  refine F.ok scPick (fun vs H Q E h => ?_) (fun cdv A outer s H vs Q E hr h => ?_)
  · obtain ⟨c, _, h⟩ := h
    rcases h with ⟨p, xs, rfl, _⟩ | ⟨z, rfl, _⟩ <;> rfl
  · obtain ⟨c, hc, h⟩ := h
    refine ⟨_, pss_one (ps_ret (pe_ix ix_seq (pv 1) (pe_call G hr (by rfl) DB.m DB.F.kp DB.b .nil pass0 (pa_cons (pv 0) (pa_cons (pe_callB call_len (by rfl) T.len PySem.boot_len (pa_cons (pv 1) pa_nil)) pa_nil))) (fun _ _ => rfl))), ?_⟩
    have small : ∀ n : Nat, n < 100 → (n : Int).natAbs < 2 ^ 9000 := fun n hn => Nat.lt_of_lt_of_le (show (n : Int).natAbs < 2 ^ 7 by omega) (Nat.pow_le_pow_right (by decide) (by decide))
    rcases h with ⟨p, xs, rfl, hpc, hp, h0, h1, q⟩ | ⟨z, rfl, h0, h1, q⟩
    · refine ⟨_, rfl, _, rfl, _, rfl, _, xs.length, rfl, .inl ⟨_, SqL.of hp, rfl⟩, c, xs.length, rfl, hc, by omega, small _ h1, fun r H' r0 r1 hc' but => ?_⟩
      obtain ⟨n, rfl⟩ := Int.eq_ofNat_of_zero_le r0
      have hn : n < xs.length := by omega
      exact .inl ⟨p, xs, _, xs[n], rfl, rfl, SqL.of (but _ _ hpc hp), atI_nat (List.getElem?_eq_getElem hn), q _ _ (List.getElem_mem hn) hc' but⟩
    · have hl : z.length ≤ sizeLine := Nat.le_trans (Nat.le_of_lt h1) (by decide)
      refine ⟨_, rfl, _, rfl, _, rfl, _, z.length, rfl, ⟨hl, rfl⟩, c, z.length, rfl, hc, by omega, small _ h1, fun r H' r0 r1 hc' but => ?_⟩
      obtain ⟨n, rfl⟩ := Int.eq_ofNat_of_zero_le r0
      have hn : n < (cds z).length := by rw [cds_len]; omega
      exact .inr (.inr ⟨z, _, (cds z)[n], rfl, rfl, hl, atI_nat (List.getElem?_eq_getElem hn), q _ _ (List.getElem_mem hn) hc' but⟩)

def Signs (z : Str) : Prop := z = "ab" ∨ z = "xy" ∨ z = "a" ∨ z = "abc" ∨ z = "b"
def spSigns : Sp := fun vs H Q _ => ∃ (c : Addr), vs = [.ref c] ∧ Cup H c ∧ ∀ z H', Signs z → Cup H' c → But c H H' → Q (.str z) H'
theorem scSigns : FnScope ["_law_cup_here"] ["_law_cup_here"] (defScope sSigns) := ⟨rfl, rfl, rfl, by decide +kernel, rfl, by decide +kernel, by decide +kernel⟩
theorem Cup.same {H H' : Hp} {c : Addr} (s : Same H H') (h : Cup H c) : Cup H' c := let ⟨a, b, d, e⟩ := h; ⟨a, b, d, s _ _ e⟩
theorem Cup.ne {H : Hp} {c p : Addr} (h : Cup H c) (n : H p = none) : p ≠ c := by
  obtain ⟨a, b, d, e⟩ := h
  exact (ne_of_none e n).symm
theorem ok_signs {f fB fP : Addr} {fd fdB fdP : FuncData} (F : Fun K "_law_signs" "_law_signs" sSigns f fd) (T : Txt K mg) (DB : Df K mg "_law_bit" sBit ["_law_cup_here", "_law_much"] fB fdB)
    (DP : Df K mg "_law_pick" sPick ["_law_cup_here", "_law_items"] fP fdP) : FnOk P w K mg base CX0 3 f fd ["_law_cup_here"] spSigns := by
  have G := ok_pick (P := P) (w := w) (base := base) DP.F T DB
  refine F.ok scSigns (fun vs H Q E h => ?_) (fun cdv A outer s H vs Q E hr h => ?_)
  · obtain ⟨c, rfl, _⟩ := h
    rfl
  · obtain ⟨c, rfl, hc, q⟩ := h
    refine ⟨_, pss_one (ps_ret (pe_call G hr (by rfl) DP.m DP.F.kp DP.b .nil pass0 (pa_cons (pv 0) (pa_cons (pe_lst (pa_cons pe_str (pa_cons pe_str (pa_cons pe_str (pa_cons pe_str (pa_cons pe_str (pa_cons pe_str pa_nil))))))) pa_nil)))), ?_⟩
    refine ⟨_, rfl, by show 6 ≤ sizeLine; decide, fun p np => ⟨c, hc.same (same_upd np), .inl ⟨p, _, rfl, hc.ne np, upd_same, by decide, by decide, fun x H' hx hc' but => ?_⟩⟩⟩
    have b2 : But c H H' := (But.of (same_upd np)).trans but
    simp only [List.mem_cons, List.not_mem_nil, or_false] at hx
    rcases hx with rfl | rfl | rfl | rfl | rfl | rfl
    · exact q _ _ (.inl rfl) hc' b2
    · exact q _ _ (.inl rfl) hc' b2
    · exact q _ _ (.inl rfl) hc' b2
    · exact q _ _ (.inr (.inl rfl)) hc' b2
    · exact q _ _ (.inr (.inr (.inl rfl))) hc' b2
    · exact q _ _ (.inr (.inr (.inr (.inl rfl)))) hc' b2
end
theorem signs_letters {sg : Str} (h : Signs sg) : letters (.str sg) = true := by
  have go : ∀ z : Str, (decide (z.length ≤ 3) && only z alpha && decide (z ≠ Str.empty)) = true → (cds z).Pairwise (· < ·) → letters (.str z) = true := fun z h1 h2 => by
    show (decide (z.length ≤ 3) && only z alpha && decide (z ≠ Str.empty) && rise z) = true
    rw [h1, Bool.true_and]
    exact decide_eq_true (up_eq h2 (ups_up _) fun c => (ups_mem _ c).symm)
  rcases h with rfl | rfl | rfl | rfl | rfl <;> exact go _ (by decide +kernel) (by decide +kernel)
theorem signs_fine {sg : Str} (h : Signs sg) : Fine sg := by
  rcases h with rfl | rfl | rfl | rfl | rfl <;> exact ⟨by decide +kernel, by decide +kernel, by decide +kernel⟩
section
variable {P : Program} {w : World} {K : PySem.W.Frag} {mg : Str → Option Value} {base : Heap}
def spPassL : Sp := fun vs H Q _ => ∃ (sg : Str), vs = [.str sg] ∧ Signs sg ∧ ∀ H', Same H H' → Q .non H'
theorem scCheck : FnScope ["value"] ["value"] (defScope sCheck) := ⟨rfl, rfl, rfl, by decide +kernel, rfl, by decide +kernel, by decide +kernel⟩
theorem ok_passL {f fH fL : Addr} {fd fdH fdL : FuncData} (F : Fun K "check_letters" "check_letters" sCheck f fd) (T : Txt K mg) (DH : Df K mg "has_only" sHas ["value", "signs", "most"] fH fdH)
    (DL : Df K mg "is_letters" sLetters ["value"] fL fdL) : FnOk P w K mg base CX0 3 f fd ["value"] spPassL := by
  have G := ok_letters (P := P) (w := w) (base := base) DL.F T DH
  refine F.ok scCheck (fun vs H Q E h => ?_) (fun cdv A outer s H vs Q E hr h => ?_)
  · obtain ⟨v, rfl, _⟩ := h
    rfl
  · obtain ⟨sg, rfl, hs, q⟩ := h
    refine ⟨_, pss_one (ps_if (pt_not (pt_val (pe_call G hr (by rfl) DL.m DL.F.kp DL.b .nil pass0 (pa_cons (pv 0) pa_nil)))) (pss_one ps_never) pss_nil), ?_⟩
    refine ⟨_, rfl, .str sg, .str sg, rfl, .str sg, signs_fine hs, fun H' s1 => ⟨_, rfl, ?_⟩⟩
    rw [signs_letters hs]
    exact iteF (q _ s1)
end
/-! ### heaps -/
def NoT (H : Hp) (a : Addr) : Prop := ∀ xs, H a ≠ some (.tup xs)
theorem NoT.none {H : Hp} {a : Addr} (h : H a = none) : NoT H a := fun xs e => by rw [h] at e; cases e
theorem NoT.lst {H : Hp} {a : Addr} {xs : List V} (h : H a = some (.lst xs)) : NoT H a := fun ys e => by rw [h] at e; cases e
theorem NoT.dK {H : Hp} {a : Addr} {xs : List (Key × V)} (h : H a = some (.dK xs)) : NoT H a := fun ys e => by rw [h] at e; cases e
theorem NoT.ins {H : Hp} {a C dx : Addr} {fs : List (Str × V)} (h : H a = some (.ins C dx fs)) : NoT H a := fun ys e => by rw [h] at e; cases e
theorem Cup.noT {H : Hp} {c : Addr} (h : Cup H c) : NoT H c := let ⟨_, _, _, e⟩ := h; .lst e
def KeepT (H H' : Hp) : Prop := ∀ p xs, H p = some (.tup xs) → H' p = some (.tup xs)
theorem KeepT.same {H H' : Hp} (s : Same H H') : KeepT H H' := fun _ _ e => s _ _ e
theorem KeepT.upd {H : Hp} {a : Addr} {o : HO} (n : NoT H a) : KeepT H (upd H a o) := fun p xs e => by
  rw [upd_ne fun z => n xs (by rw [← z]; exact e)]
  exact e
theorem KeepT.but {H H' : Hp} {c : Addr} (n : NoT H c) (b : But c H H') : KeepT H H' := fun p xs e => b _ _ (fun z => n xs (by rw [← z]; exact e)) e
theorem KeepT.trans {H H1 H2 : Hp} (a : KeepT H H1) (b : KeepT H1 H2) : KeepT H H2 := fun p xs e => b p xs (a p xs e)
theorem each_app {α β : Type} {R : α → β → Prop} : ∀ {as as' : List α} {bs bs' : List β}, PySem.W.EachIs R as bs → PySem.W.EachIs R as' bs' → PySem.W.EachIs R (as ++ as') (bs ++ bs')
  | _, _, _, _, .nil, r => r
  | _, _, _, _, .cons r t, q => .cons r (each_app t q)
theorem each_snoc {α β : Type} {R : α → β → Prop} {as : List α} {bs : List β} {a : α} {b : β} (h : PySem.W.EachIs R as bs) (r : R a b) : PySem.W.EachIs R (as ++ [a]) (bs ++ [b]) := each_app h (.cons r .nil)
theorem same_put {H H' : Hp} {D : Addr} {o : HO} (s : Same H H') (n : H D = none) : Same H (upd H' D o) := fun b u e => by
  rw [upd_ne (ne_of_none e n)]
  exact s b u e
theorem free_none {H H' : Hp} {p : Addr} (s : Same H H') (n : H' p = none) : H p = none := by
  cases hh : H p with
  | none => rfl
  | some o =>
    have := s _ _ hh
    rw [n] at this
    cases this
theorem ty_tup {K : PySem.W.Frag} {H : Hp} {a : Addr} {xs : List V} (h : SqT K H a xs) : TyX K H (.ref a) (.type "tuple") := by
  rcases h with h | ⟨o, its, n, hk, hc, _⟩
  · rcases h with h | ⟨o, h⟩
    · exact .base (.tup h)
    · exact .fTuple h
  · exact .kTuple hk hc
theorem k_tuple_tuple : kitB "tuple" "tuple" = some true := by decide +kernel
theorem sg_range {sg : Str} (h : Signs sg) : ∀ c ∈ cds sg, 97 ≤ c ∧ c ≤ 122 := by
  rcases h with rfl | rfl | rfl | rfl | rfl <;> decide +kernel
theorem sg_len {sg : Str} (h : Signs sg) : 0 < sg.length ∧ sg.length ≤ 3 := by
  rcases h with rfl | rfl | rfl | rfl | rfl <;> decide +kernel
def Over (sg z : Str) : Prop := ∀ c ∈ cds z, c ∈ cds sg
theorem over_fine {sg z : Str} (h : Signs sg) (v : Over sg z) (hl : z.length ≤ 4000) : Fine z := by
  refine ⟨by omega, ?_, fun c hc => ?_⟩
  · rw [← (ups_perm (cds z)).length_eq]
    have h1 := Pm.len_le (ups_nodup (cds z)) (r := cds sg) fun c hc => v c ((ups_mem _ c).mp hc)
    have h2 : (cds sg).length ≤ 6 := by rw [cds_len]; have := (sg_len h).2; omega
    omega
  · have := sg_range h c (v c hc)
    omega
theorem over_has {sg z : Str} (v : Over sg z) (hl : z.length ≤ 4000) : has sg 4000 (.str z) = true := by
  show (decide (z.length ≤ 4000) && only z sg) = true
  rw [decide_eq_true hl, only_iff.mpr v]
  rfl
theorem nat_isInt {n : Nat} (h : n < 10 ^ 200) : isInt (.int (n : Int)) = true := by
  show decide ((n : Int).natAbs < 10 ^ 200) = true
  rw [Int.natAbs_natCast]
  exact decide_eq_true h
def tx (l : List Nat) : Str := ⟨l.toArray⟩
theorem cds_tx (l : List Nat) : cds (tx l) = l := rfl
theorem tx_cds (z : Str) : tx (cds z) = z := cds_ext rfl
theorem cds_app (a b : Str) : cds (a ++ b) = cds a ++ cds b := by
  show (a.cps ++ b.cps).toList = _
  rw [Array.toList_append]
theorem tx_app (l m : List Nat) : tx l ++ tx m = tx (l ++ m) := cds_ext (by rw [cds_app]; rfl)
theorem tx_len (l : List Nat) : (tx l).length = l.length := by
  rw [← cds_len]
  rfl
def plainS (z : Str) : Prop := ∀ c ∈ cds z, c < 128
theorem lay_str {z : Str} (h : plainS z) : PyData.canLay0 (.str z) = true := by
  show z.cps.all (· < 0x110000) = true
  rw [Array.all_eq_true_iff_forall_mem]
  intro c hc
  have := h c (Array.mem_toList_iff.mpr hc)
  exact decide_eq_true (by omega)
theorem over_plain {sg z : Str} (h : Signs sg) (v : Over sg z) : plainS z := fun c hc => by
  have := sg_range h c (v c hc)
  omega
theorem Cup.put {H : Hp} {c D : Addr} {o : HO} (h : Cup H c) (n : D ≠ c) : Cup (upd H D o) c := by
  obtain ⟨c0, c1, c2, ec⟩ := h
  exact ⟨c0, c1, c2, by rw [upd_ne n.symm]; exact ec⟩
theorem But.putN {c D : Addr} {H H' : Hp} {o : HO} (b : But c H H') (n : H D = none) : But c H (upd H' D o) := fun x u nx e => by
  rw [upd_ne (ne_of_none e n)]
  exact b _ _ nx e
theorem str_len (a b : Str) : (a ++ b).length = a.length + b.length := Array.size_append
theorem empty_app (a : Str) : Str.empty ++ a = a := cds_ext (by rw [cds_app]; rfl)
theorem cds_join : ∀ l : List Str, cds (Txt.join "" l) = (l.map cds).flatten := by
  intro l
  rw [show Txt.join "" l = Str.join "" l from TL.join_eq _ _]
  have e0 : cds ("" : Str) = [] := by decide +kernel
  induction l with
  | nil => exact e0
  | cons x l ih =>
    cases l with
    | nil =>
      show cds x = cds x ++ []
      rw [List.append_nil]
    | cons y r =>
      show cds (x ++ ("" : Str) ++ Str.join "" (y :: r)) = cds x ++ ((y :: r).map cds).flatten
      rw [cds_app, cds_app, e0, List.append_nil, ih]
theorem join_ones : ∀ l : List Nat, cds (Txt.join "" (l.map one)) = l := fun l => by
  rw [cds_join, List.map_map]
  induction l with
  | nil => rfl
  | cons c l ih =>
    show [c] ++ (l.map (cds ∘ one)).flatten = c :: l
    rw [ih]
    rfl
theorem sum_ones (l : List Nat) : ((l.map one).map (·.length)).sum = l.length := by
  rw [List.map_map]
  induction l with
  | nil => rfl
  | cons c l ih =>
    show 1 + (l.map _).sum = l.length + 1
    rw [ih]
    omega
theorem small9000 {m : Int} (h0 : 0 ≤ m) (h : m ≤ 100) : m.natAbs < 2 ^ 9000 := Nat.lt_of_lt_of_le (show m.natAbs < 2 ^ 7 by omega) (Nat.pow_le_pow_right (by decide) (by decide))
section
variable {P : Program} {w : World} {K : PySem.W.Frag} {mg : Str → Option Value} {base : Heap}
def spText : Sp := fun vs H Q _ => ∃ sg z : Str, vs = [.str sg, .str z] ∧ Signs sg ∧ Over sg z ∧ z.length ≤ 100 ∧ ∀ H', Same H H' → Q (.bl true) H'
theorem scText : FnScope ["letters", "value"] ["letters", "value"] (defScope sText) := ⟨rfl, rfl, rfl, by decide +kernel, rfl, by decide +kernel, by decide +kernel⟩
structure Low (K : PySem.W.Frag) (mg : Str → Option Value) (fI fH fL fC fT : Addr) (dI dH dL dC dT : FuncData) : Prop where
  DI : Df K mg "is_integer" sInt ["value"] fI dI
  DH : Df K mg "has_only" sHas ["value", "signs", "most"] fH dH
  DL : Df K mg "is_letters" sLetters ["value"] fL dL
  DC : Df K mg "check_letters" sCheck ["value"] fC dC
  DT : Df K mg "is_text" sText ["letters", "value"] fT dT
theorem ok_text {f fI fH fL fC fT : Addr} {fd dI dH dL dC dT : FuncData} (F : Fun K "is_text" "is_text" sText f fd) (T : Txt K mg) (G : Low K mg fI fH fL fC fT dI dH dL dC dT) : FnOk P w K mg base CX0 4 f fd ["letters", "value"] spText := by
  have GC := ok_passL (P := P) (w := w) (base := base) G.DC.F T G.DH G.DL
  have GH := ok_has (P := P) (w := w) (base := base) G.DH.F T
  refine F.ok scText (fun vs H Q E h => ?_) (fun cdv A outer s H vs Q E hr h => ?_)
  · obtain ⟨sg, z, rfl, _⟩ := h
    rfl
  · obtain ⟨sg, z, rfl, hsg, hz, hl, q⟩ := h
    obtain ⟨tn, hn⟩ := T.mText
    refine ⟨_, pss_cons (ps_expr (pe_call GC hr (by rfl) G.DC.m G.DC.F.kp G.DC.b .nil pass0 (pa_cons (pv 0) pa_nil)))
      (pss_one (ps_ret (pe_call GH (hr.mono (by decide)) (by rfl) G.DH.m G.DH.F.kp G.DH.b .nil pass0 (pa_cons (pv 1) (pa_cons (pv 0) (pa_cons (pe_glob (v := .int 4000) rfl hn ⟨_, rfl⟩) pa_nil)))))), ?_⟩
    refine ⟨_, rfl, sg, rfl, hsg, fun H' s' => ?_⟩
    refine ⟨_, rfl, _, rfl, .str z, .str z, sg, 4000, rfl, .str z, over_fine hsg hz (by omega), ?_⟩
    rw [over_has hz (by omega)]
    exact q H' s'
def spCText : Sp := fun vs H Q _ => ∃ sg z : Str, vs = [.str sg, .str z] ∧ Signs sg ∧ Over sg z ∧ z.length ≤ 100 ∧ ∀ H', Same H H' → Q .non H'
theorem scCText : FnScope ["letters", "value"] ["letters", "value"] (defScope sCText) := ⟨rfl, rfl, rfl, by decide +kernel, rfl, by decide +kernel, by decide +kernel⟩
theorem ok_ctext {f fI fH fL fC fT : Addr} {fd dI dH dL dC dT : FuncData} (F : Fun K "check_text" "check_text" sCText f fd) (T : Txt K mg) (G : Low K mg fI fH fL fC fT dI dH dL dC dT) : FnOk P w K mg base CX0 5 f fd ["letters", "value"] spCText := by
  have GT := ok_text (P := P) (w := w) (base := base) G.DT.F T G
  refine F.ok scCText (fun vs H Q E h => ?_) (fun cdv A outer s H vs Q E hr h => ?_)
  · obtain ⟨sg, z, rfl, _⟩ := h
    rfl
  · obtain ⟨sg, z, rfl, hsg, hz, hl, q⟩ := h
    refine ⟨_, pss_one (ps_if (pt_not (pt_val (pe_call GT hr (by rfl) G.DT.m G.DT.F.kp G.DT.b .nil pass0 (pa_cons (pv 0) (pa_cons (pv 1) pa_nil))))) (pss_one ps_never) pss_nil), ?_⟩
    exact ⟨_, rfl, _, rfl, sg, z, rfl, hsg, hz, hl, fun H' s' => ⟨_, rfl, iteF (q H' s')⟩⟩
abbrev nLine : List Str := ["_law_cup_here", "_law_signs_here", "_law_most", "_law_turn"]
def spLine : Sp := fun vs H Q _ => ∃ (c : Addr) (sg : Str) (m : Nat), vs = [.ref c, .str sg, .int (m : Int)] ∧ Cup H c ∧ Signs sg ∧ m ≤ 20 ∧ ∀ z H', Over sg z → z.length ≤ m → Cup H' c → But c H H' → Q (.str z) H'
theorem scLine : FnScope nLine ["_law_cup_here", "_law_signs_here", "_law_most"] (defScope sLine) := ⟨rfl, rfl, rfl, by decide +kernel, rfl, by decide +kernel, by decide +kernel⟩
theorem ok_line {f fB fP : Addr} {fd dB dP : FuncData} (F : Fun K "_law_line" "_law_line" sLine f fd) (T : Txt K mg) (DB : Df K mg "_law_bit" sBit ["_law_cup_here", "_law_much"] fB dB) (DP : Df K mg "_law_pick" sPick ["_law_cup_here", "_law_items"] fP dP) :
    FnOk P w K mg base CX0 3 f fd ["_law_cup_here", "_law_signs_here", "_law_most"] spLine := by
  have GB := ok_bit (P := P) (w := w) (base := base) DB.F T
  have GP := ok_pick (P := P) (w := w) (base := base) DP.F T DB
  refine F.ok scLine (fun vs H Q E h => ?_) (fun cdv A outer s H vs Q E hr h => ?_)
  · obtain ⟨c, sg, m, rfl, _⟩ := h
    rfl
  · obtain ⟨c, sg, m, rfl, hc, hsg, hm, q⟩ := h
    have r1 : Room 1 _ := hr.mono (by decide)
    refine ⟨_, pss_one (ps_ret (pe_join pe_str (pe_lc (own := [("_law_turn", 3)]) (g := gName 3) (tt := tYes) rfl scLine.nd
      (pi_range1 rfl T.range (pa_cons (pe_call GB r1 (by rfl) DB.m DB.F.kp DB.b .nil pass0 (pa_cons (pv 0) (pa_cons (pe_op op_add (pv 2) pe_int) pa_nil))) pa_nil))
      (blkOk_by (own := [("_law_turn", 3)]) (N := nLine) (sc := defScope sLine) (by decide +kernel))
      (fun _ _ _ _ _ => pg_name (i := 3) scLine.nd rfl (Or.inl rfl)) (fun _ _ _ _ _ => pts_nil)
      (fun _ _ _ _ _ => pe_call GP hr (by rfl) DP.m DP.F.kp DP.b .nil pass0 (pa_cons (pv 0) (pa_cons (pv 1) pa_nil)))))), ?_⟩
    obtain ⟨l0, l1⟩ := sg_len hsg
    refine ⟨⟨_, rfl⟩, _, rfl, _, rfl, _, _, rfl, rfl, c, (m : Int) + 1, rfl, hc, by omega, small9000 (by omega) (by omega), fun r H1 r0 rm hc1 b1 => ?_⟩
    obtain ⟨k, rfl⟩ : ∃ k : Nat, r = (k : Int) := ⟨r.toNat, by omega⟩
    refine ⟨_, rfl, by omega, by omega, fun D hD => ?_⟩
    have nDc : D ≠ c := hc1.ne hD
    rw [Int.toNat_natCast]
    refine lc_range (lo := 0) (n := k) (fun i H2 => Cup H2 c ∧ But c H1 H2 ∧ ∃ cs : List Nat, H2 D = some (.lst ((cs.map one).map V.str)) ∧ cs.length = i ∧ ∀ d ∈ cs, d ∈ cds sg)
      ⟨hc1.same (same_upd hD), But.of (same_upd hD), [], upd_same, rfl, fun d hd => by cases hd⟩ ?_ ?_
    · rintro i H2 hi ⟨hc2, b2, cs, e2, hl, hv⟩
      refine ⟨rfl, iteT (B := False) ?_⟩
      refine ⟨_, rfl, _, rfl, c, hc2, .inr ⟨sg, rfl, l0, by omega, fun d H3 hd hc3 b3 => ?_⟩⟩
      have e3 := b3 _ _ nDc e2
      refine ⟨_, e3, ?_, ?_, ?_, cs ++ [d], ?_, by rw [List.length_append, hl]; rfl, ?_⟩
      · rw [List.length_map, List.length_map, hl]
        exact Nat.lt_of_lt_of_le (show i < 30 by omega) (by decide)
      · obtain ⟨c0, c1, c2, ec⟩ := hc3
        exact ⟨c0, c1, c2, by rw [upd_ne nDc.symm]; exact ec⟩
      · intro b o n' e
        rw [upd_ne (ne_of_none e hD)]
        exact b3 _ _ n' (b2 _ _ n' e)
      · rw [upd_same, List.map_append, List.map_append]
        rfl
      · intro x hx
        rcases List.mem_append.mp hx with hx | hx
        · exact hv x hx
        · rw [List.mem_singleton.mp hx]
          exact hd
    · rintro H2 ⟨hc2, b2, cs, e2, hl, hv⟩
      refine ⟨"", D, _, rfl, rfl, .inl (SqL.of e2), ?_, ?_⟩
      · rw [sum_ones]
        show _ + _ * 0 ≤ _
        exact Nat.le_trans (show _ ≤ 30 by omega) (by decide)
      · refine q _ H2 (fun d hd => ?_) ?_ hc2 (b1.trans b2)
        · rw [join_ones] at hd
          exact hv d hd
        · rw [← cds_len, join_ones]
          omega
end
theorem cut_to {z : Str} (i : Nat) : cds (cutS z none (some (i : Int))) = (cds z).take i := by
  unfold cutS
  show (((cds z).drop (HT.sIx z.length 0 none)).take (HT.sIx z.length z.length (some (i : Int)) - HT.sIx z.length 0 none)) = _
  rw [HT.sIx_none, HT.sIx_nat, List.drop_zero, Nat.sub_zero]
  by_cases h : i ≤ z.length
  · rw [Nat.min_eq_left h]
  · rw [Nat.min_eq_right (by omega), List.take_of_length_le (by rw [cds_len]; exact Nat.le_refl _), List.take_of_length_le (by rw [cds_len]; omega)]
structure Sh (n w : Nat) (d : PyData) : Prop where
  lay : d.canLay0 = true
  sh : d.showable = true
  sht : d.intsShort 20 = true
  dp : d.depth ≤ n
  wt : d.weight ≤ w
structure ShA (n w : Nat) (ds : List PyData) : Prop where
  lay : PyData.canLayAll0 ds = true
  sh : PyData.showableAll ds = true
  sht : PyData.intsShortAll 20 ds = true
  dp : PyData.depthAll ds ≤ n
  wt : PyData.weightAll ds ≤ w
theorem Sh.str {z : Str} {w : Nat} (h : plainS z) (hl : z.length ≤ w) : Sh 0 w (.str z) := ⟨lay_str h, rfl, rfl, Nat.le_refl _, hl⟩
theorem int_facts : ∀ m < 1001, (PyData.showable (.int ((m : Nat) : Int)) && PyData.intsShort 20 (.int ((m : Nat) : Int)) && decide (PyData.weight (.int ((m : Nat) : Int)) ≤ 12)) = true := by decide +kernel
theorem Sh.int {m w : Nat} (h : m ≤ 1000) (hw : 12 ≤ w) : Sh 0 w (.int (m : Int)) := by
  have := int_facts m (by omega)
  rw [Bool.and_eq_true, Bool.and_eq_true, decide_eq_true_iff] at this
  exact ⟨rfl, this.1.1, this.1.2, Nat.le_refl _, Nat.le_trans this.2 hw⟩
theorem ShA.nil {n w : Nat} : ShA n w [] := ⟨rfl, rfl, rfl, Nat.zero_le _, Nat.zero_le _⟩
theorem ShA.cons {n m w v x : Nat} {d : PyData} {ds : List PyData} (h : Sh m v d) (k : ShA n w ds) (hm : m ≤ n) (hw : v + 1 + w ≤ x) : ShA n x (d :: ds) where
  lay := by show (d.canLay0 && PyData.canLayAll0 ds) = true; rw [h.lay, k.lay]; rfl
  sh := by show (d.showable && PyData.showableAll ds) = true; rw [h.sh, k.sh]; rfl
  sht := by show (d.intsShort 20 && PyData.intsShortAll 20 ds) = true; rw [h.sht, k.sht]; rfl
  dp := Nat.max_le.mpr ⟨Nat.le_trans h.dp hm, k.dp⟩
  wt := by show d.weight + 1 + PyData.weightAll ds ≤ x; have := h.wt; have := k.wt; omega
theorem ShA.tup {n w : Nat} {ds : List PyData} (h : ShA n w ds) : Sh (n + 1) w (.tuple ds) := ⟨h.lay, h.sh, h.sht, Nat.succ_le_succ h.dp, h.wt⟩
theorem ShA.lst {n w : Nat} {ds : List PyData} (h : ShA n w ds) : Sh (n + 1) w (.list ds) := ⟨h.lay, h.sh, h.sht, Nat.succ_le_succ h.dp, h.wt⟩
theorem Sh.len {n w : Nat} {d : PyData} (h : Sh n w d) (hw : w ≤ 200000) : d.shown.length ≤ sizeLine := by
  have h2 := PyData.shown_le 20 (by decide) d (PyData.leavesShort_of_canLay0 20 d h.lay h.sht)
  have := h.wt
  exact Nat.le_trans h2 (Nat.le_trans (show _ ≤ 22 * 200000 + 20 by omega) (by decide))
theorem sg_plain {sg : Str} (h : Signs sg) : plainS sg := fun c hc => by have := sg_range h c hc; omega
theorem plain_app {a b : Str} (h : plainS a) (k : plainS b) : plainS (a ++ b) := fun c hc => by
  rw [cds_app] at hc
  rcases List.mem_append.mp hc with hc | hc
  · exact h c hc
  · exact k c hc
end K24

set_option Elab.async false
set_option linter.all false
set_option maxRecDepth 100000
set_option maxHeartbeats 3200000
/-! comprehensions, ready forms -/
namespace Lc
open PySem L2 Tx Tg Tm RZ
theorem same_upd {H : Hp} {p : Addr} {o : HO} (h : H p = none) : Same H (upd H p o) := fun b u e => by
  rw [upd_ne (fun q => by rw [q, h] at e; cases e)]
  exact e
theorem same_put {H H' : Hp} {D : Addr} {o : HO} (s : Same H H') (n : H D = none) : Same H (upd H' D o) := fun b u e => by
  rw [upd_ne (ne_of_none e n)]
  exact s b u e
theorem sqT_same {K : PySem.W.Frag} {H H' : Hp} {a : Addr} {xs : List V} (s : Same H H') (h : SqT K H a xs) : SqT K H' a xs := by
  rcases h with h | h
  · rcases h with h | ⟨o, h⟩
    · exact .inl (.inl (s _ _ h))
    · exact .inl (.inr ⟨o, s _ _ h⟩)
  · exact .inr h
section
variable {K : PySem.W.Frag} {te : TE} {σ : L2.St} {H1 : Hp} {D : Addr} {Qd : Hp → Prop} {j : Nat} {xs ys : List V} {a b : Addr}
/-- [f(x) for x in t], a value for each item -/
theorem lcTS (ha : SqT K H1 a xs) (nD : H1 D = none) (hl : xs.length = ys.length) (hz : xs.length < sizeLine) (hw : ∀ v, wipe ((wipe σ [j]).set j (some v)) [j] = wipe σ [j])
    (hs : ∀ (i : Nat) (x y : V) (H2 : Hp), xs[i]? = some x → ys[i]? = some y → Same H1 H2 → ∀ Q : VK, (∀ H3, Same H2 H3 → Q y H3) → te ((wipe σ [j]).set j (some x)) H2 Q) (hd : ∀ H2, Same H1 H2 → H2 D = some (.lst ys) → Qd H2) :
    ∃ W : Nat → Nat → Hp → Prop, (∃ m, W 0 m (upd H1 D (.lst []))) ∧ ∀ i m H, W i m H →
      ((Itt K a).stop i H ∧ Qd H) ∨ ((Itt K a).go i H ∧ ∃ Nx : Hp → Prop, (∀ H', Nx H' → ∃ m', m' < m ∧ W (i + 1) m' H') ∧ ∀ x H', (Itt K a).yld i H x H' → gName j x (wipe σ [j]) H' fun σ2 H2 => wipe σ2 [j] = wipe σ [j] ∧ tYes σ2 H2 fun b H3 =>
        if b = true then te σ2 H3 fun y H4 => ∃ acc, H4 D = some (.lst acc) ∧ acc.length < sizeLine ∧ Nx (upd H4 D (.lst (acc ++ [y]))) else Nx H3) := by
  refine lc_tup (xs := xs) (fun i H2 => Same H1 H2 ∧ H2 D = some (.lst (ys.take i))) ⟨same_upd nD, upd_same⟩ (fun i H2 _ z => sqT_same z.1 ha) ?_ ?_
  · rintro i x H2 hx ⟨s2, e2⟩
    have hi := (List.getElem?_eq_some_iff.mp hx).1
    have hy := List.getElem?_eq_getElem (l := ys) (i := i) (by omega)
    refine ⟨hw _, iteT (B := False) ?_⟩
    refine hs i x _ H2 hx hy s2 _ fun H3 s3 => ⟨_, s3 _ _ e2, ?_, same_put (s2.trans s3) nD, ?_⟩
    · rw [List.length_take]
      exact Nat.lt_of_le_of_lt (Nat.min_le_left _ _) (Nat.lt_trans hi hz)
    · rw [upd_same, List.take_add_one, hy]
      rfl
  · rintro H2 ⟨s2, e2⟩
    rw [hl, List.take_of_length_le (Nat.le_refl _)] at e2
    exact hd H2 s2 e2
/-- [f(k) for k in range(n)] -/
theorem lcRS {n : Nat} {lo : Int} (nD : H1 D = none) (hl : n = ys.length) (hz : n < sizeLine) (hw : ∀ v, wipe ((wipe σ [j]).set j (some v)) [j] = wipe σ [j])
    (hs : ∀ (i : Nat) (y : V) (H2 : Hp), i < n → ys[i]? = some y → Same H1 H2 → ∀ Q : VK, (∀ H3, Same H2 H3 → Q y H3) → te ((wipe σ [j]).set j (some (.int (lo + i)))) H2 Q) (hd : ∀ H2, Same H1 H2 → H2 D = some (.lst ys) → Qd H2) :
    ∃ W : Nat → Nat → Hp → Prop, (∃ m, W 0 m (upd H1 D (.lst []))) ∧ ∀ i m H, W i m H →
      ((Itr lo n).stop i H ∧ Qd H) ∨ ((Itr lo n).go i H ∧ ∃ Nx : Hp → Prop, (∀ H', Nx H' → ∃ m', m' < m ∧ W (i + 1) m' H') ∧ ∀ x H', (Itr lo n).yld i H x H' → gName j x (wipe σ [j]) H' fun σ2 H2 => wipe σ2 [j] = wipe σ [j] ∧ tYes σ2 H2 fun b H3 =>
        if b = true then te σ2 H3 fun y H4 => ∃ acc, H4 D = some (.lst acc) ∧ acc.length < sizeLine ∧ Nx (upd H4 D (.lst (acc ++ [y]))) else Nx H3) := by
  refine lc_range (fun i H2 => Same H1 H2 ∧ H2 D = some (.lst (ys.take i))) ⟨same_upd nD, upd_same⟩ ?_ ?_
  · rintro i H2 hi ⟨s2, e2⟩
    have hy := List.getElem?_eq_getElem (l := ys) (i := i) (by omega)
    refine ⟨hw _, iteT (B := False) ?_⟩
    refine hs i _ H2 hi hy s2 _ fun H3 s3 => ⟨_, s3 _ _ e2, ?_, same_put (s2.trans s3) nD, ?_⟩
    · rw [List.length_take]
      exact Nat.lt_of_le_of_lt (Nat.min_le_left _ _) (Nat.lt_trans hi hz)
    · rw [upd_same, List.take_add_one, hy]
      rfl
  · rintro H2 ⟨s2, e2⟩
    rw [hl, List.take_of_length_le (Nat.le_refl _)] at e2
    exact hd H2 s2 e2
/-- [draw for k in range(n)]: all else but one object stays -/
theorem lcRD {n : Nat} {lo : Int} {c : Addr} {I : Hp → Prop} {P : Nat → V → Prop} (nD : H1 D = none) (nDc : D ≠ c) (h0 : I (upd H1 D (.lst []))) (hz : n < sizeLine) (hw : ∀ v, wipe ((wipe σ [j]).set j (some v)) [j] = wipe σ [j])
    (hI : ∀ H o, I H → I (upd H D o))
    (hs : ∀ i H2, i < n → I H2 → (∀ b o, b ≠ c → H1 b = some o → H2 b = some o) → ∀ Q : VK, (∀ y H3, P i y → I H3 → (∀ b o, b ≠ c → H2 b = some o → H3 b = some o) → Q y H3) → te ((wipe σ [j]).set j (some (.int (lo + i)))) H2 Q)
    (hd : ∀ H2 zs, I H2 → (∀ b o, b ≠ c → H1 b = some o → H2 b = some o) → H2 D = some (.lst zs) → zs.length = n → (∀ i y, zs[i]? = some y → P i y) → Qd H2) :
    ∃ W : Nat → Nat → Hp → Prop, (∃ m, W 0 m (upd H1 D (.lst []))) ∧ ∀ i m H, W i m H →
      ((Itr lo n).stop i H ∧ Qd H) ∨ ((Itr lo n).go i H ∧ ∃ Nx : Hp → Prop, (∀ H', Nx H' → ∃ m', m' < m ∧ W (i + 1) m' H') ∧ ∀ x H', (Itr lo n).yld i H x H' → gName j x (wipe σ [j]) H' fun σ2 H2 => wipe σ2 [j] = wipe σ [j] ∧ tYes σ2 H2 fun b H3 =>
        if b = true then te σ2 H3 fun y H4 => ∃ acc, H4 D = some (.lst acc) ∧ acc.length < sizeLine ∧ Nx (upd H4 D (.lst (acc ++ [y]))) else Nx H3) := by
  refine lc_range (fun i H2 => I H2 ∧ (∀ b o, b ≠ c → H1 b = some o → H2 b = some o) ∧ ∃ zs, H2 D = some (.lst zs) ∧ zs.length = i ∧ ∀ k y, zs[k]? = some y → P k y) ⟨h0, fun b o _ e => same_upd nD _ _ e, [], upd_same, rfl, fun k y e => nomatch e⟩ ?_ ?_
  · rintro i H2 hi ⟨i2, b2, zs, e2, hl, hp⟩
    refine ⟨hw _, iteT (B := False) ?_⟩
    refine hs i H2 hi i2 b2 _ fun y H3 hy i3 b3 => ⟨_, b3 _ _ nDc e2, by omega, hI _ _ i3, fun b o nb e => ?_, zs ++ [y], upd_same, by rw [List.length_append, hl]; rfl, fun k z hk => ?_⟩
    · rw [upd_ne (ne_of_none e nD)]
      exact b3 _ _ nb (b2 _ _ nb e)
    · by_cases h : k < zs.length
      · rw [List.getElem?_append_left h] at hk
        exact hp k z hk
      · rw [List.getElem?_append_right (by omega)] at hk
        have hk1 := (List.getElem?_eq_some_iff.mp hk).1
        have hk0 : k - zs.length = 0 := by
          rw [List.length_singleton] at hk1
          omega
        rw [hk0] at hk
        cases hk
        have : k = i := by omega
        rw [this]
        exact hy
  · rintro H2 ⟨i2, b2, zs, e2, hl, hp⟩
    exact hd H2 zs i2 b2 e2 hl hp
end
/-- a comprehension over two rows that walk together, as far as the shorter one -/
theorem lc_zipT {K : PySem.W.Frag} {a b : Addr} {xs ys : List V} {g : TG} {tt : TT} {te : TE} {vs : List Nat} {σ : L2.St} {H1 : Hp} {D : Addr} {Qd : Hp → Prop} (hl : ys.length ≤ xs.length) (Pv : Nat → Hp → Prop) (h0 : Pv 0 (upd H1 D (.lst []))) (hq : ∀ i H, Pv i H → SqT K H a xs ∧ SqT K H b ys)
    (hs : ∀ (i : Nat) (x y : V) (T : Addr) (H : Hp), xs[i]? = some x → ys[i]? = some y → Pv i H → H T = none → g (.ref T) (wipe σ vs) (upd H T (.tup [x, y])) fun σ2 H2 => wipe σ2 vs = wipe σ vs ∧ tt σ2 H2 fun b H3 =>
      if b = true then te σ2 H3 fun y H4 => ∃ acc, H4 D = some (.lst acc) ∧ acc.length < sizeLine ∧ Pv (i + 1) (upd H4 D (.lst (acc ++ [y]))) else Pv (i + 1) H3) (hd : ∀ H, Pv ys.length H → Qd H) :
    ∃ W : Nat → Nat → Hp → Prop, (∃ m, W 0 m (upd H1 D (.lst []))) ∧ ∀ i m H, W i m H →
      ((ItzT K a b).stop i H ∧ Qd H) ∨ ((ItzT K a b).go i H ∧ ∃ Nx : Hp → Prop, (∀ H', Nx H' → ∃ m', m' < m ∧ W (i + 1) m' H') ∧ ∀ x H', (ItzT K a b).yld i H x H' → g x (wipe σ vs) H' fun σ2 H2 => wipe σ2 vs = wipe σ vs ∧ tt σ2 H2 fun b H3 =>
        if b = true then te σ2 H3 fun y H4 => ∃ acc, H4 D = some (.lst acc) ∧ acc.length < sizeLine ∧ Nx (upd H4 D (.lst (acc ++ [y]))) else Nx H3) := by
  refine ⟨fun i m H => m = ys.length - i ∧ i ≤ ys.length ∧ Pv i H, ⟨ys.length, by simp, Nat.zero_le _, h0⟩, ?_⟩
  rintro i m H ⟨rfl, hi, p⟩
  obtain ⟨qx, qy⟩ := hq i H p
  by_cases hlt : i < ys.length
  · have hx : xs[i]? = some xs[i] := List.getElem?_eq_getElem (by omega)
    have hy : ys[i]? = some ys[i] := List.getElem?_eq_getElem hlt
    refine .inr ⟨⟨xs, ys, _, _, qx, qy, hx, hy⟩, Pv (i + 1), fun H' p' => ⟨ys.length - (i + 1), by omega, rfl, hlt, p'⟩, fun v H' y => ?_⟩
    obtain ⟨T, x', y', rfl, hT, rfl, f1, f2⟩ := y
    exact hs i x' y' T H (f1 xs qx) (f2 ys qy) p hT
  · have e : i = ys.length := by omega
    subst e
    exact .inl ⟨⟨xs, ys, qx, qy, Or.inr (Nat.le_refl _)⟩, hd H p⟩
theorem lc_text {x : Str} {g : TG} {tt : TT} {te : TE} {vs : List Nat} {σ : L2.St} {H1 : Hp} {D : Addr} {Qd : Hp → Prop} (Pv : Nat → Hp → Prop) (h0 : Pv 0 (upd H1 D (.lst [])))
    (hs : ∀ i c H, (cds x)[i]? = some c → Pv i H → g (.str (one c)) (wipe σ vs) H fun σ2 H2 => wipe σ2 vs = wipe σ vs ∧ tt σ2 H2 fun b H3 =>
      if b = true then te σ2 H3 fun y H4 => ∃ acc, H4 D = some (.lst acc) ∧ acc.length < sizeLine ∧ Pv (i + 1) (upd H4 D (.lst (acc ++ [y]))) else Pv (i + 1) H3) (hd : ∀ H, Pv (cds x).length H → Qd H) :
    ∃ W : Nat → Nat → Hp → Prop, (∃ m, W 0 m (upd H1 D (.lst []))) ∧ ∀ i m H, W i m H →
      ((Its x).stop i H ∧ Qd H) ∨ ((Its x).go i H ∧ ∃ Nx : Hp → Prop, (∀ H', Nx H' → ∃ m', m' < m ∧ W (i + 1) m' H') ∧ ∀ v H', (Its x).yld i H v H' → g v (wipe σ vs) H' fun σ2 H2 => wipe σ2 vs = wipe σ vs ∧ tt σ2 H2 fun b H3 =>
        if b = true then te σ2 H3 fun y H4 => ∃ acc, H4 D = some (.lst acc) ∧ acc.length < sizeLine ∧ Nx (upd H4 D (.lst (acc ++ [y]))) else Nx H3) := by
  have hz : x.cps.size = (cds x).length := (Array.length_toList).symm
  refine ⟨fun i m H => m = (cds x).length - i ∧ i ≤ (cds x).length ∧ Pv i H, ⟨(cds x).length, by simp, Nat.zero_le _, h0⟩, ?_⟩
  rintro i m H ⟨rfl, hi, p⟩
  by_cases hlt : i < (cds x).length
  · refine .inr ⟨by show i < x.cps.size; omega, Pv (i + 1), fun H' p' => ⟨(cds x).length - (i + 1), by omega, rfl, hlt, p'⟩, ?_⟩
    rintro v H' ⟨e, c, hc, e2⟩
    subst e
    subst e2
    exact hs i c _ (by rw [Array.getElem?_toList]; exact hc) p
  · have e : i = (cds x).length := by omega
    subst e
    exact .inl ⟨by show x.cps.size ≤ _; omega, hd H p⟩
theorem for_text {x : Str} {g : TG} {tb : TS} {D : Ends} {σ : L2.St} {H : Hp} (Pv : Nat → L2.St → Hp → Prop) (h0 : Pv 0 σ H)
    (hs : ∀ i c σ H, (cds x)[i]? = some c → Pv i σ H → g (.str (one c)) σ H fun σ2 H2 => tb { D with nx := Pv (i + 1), ct := Pv (i + 1), bk := D.nx } σ2 H2) (hd : ∀ σ H, Pv (cds x).length σ H → D.nx σ H) :
    ∃ W : Nat → Nat → L2.St → Hp → Prop, (∃ m, W 0 m σ H) ∧ ∀ i m σ H, W i m σ H →
      ((Its x).stop i H ∧ D.nx σ H) ∨ ((Its x).go i H ∧ ∃ N : L2.St → Hp → Prop, (∀ σ' H', N σ' H' → ∃ m', m' < m ∧ W (i + 1) m' σ' H') ∧ ∀ v H', (Its x).yld i H v H' → g v σ H' fun σ2 H2 => tb { D with nx := N, ct := N, bk := D.nx } σ2 H2) := by
  have hz : x.cps.size = (cds x).length := (Array.length_toList).symm
  refine ⟨fun i m σ H => m = (cds x).length - i ∧ i ≤ (cds x).length ∧ Pv i σ H, ⟨(cds x).length, by simp, Nat.zero_le _, h0⟩, ?_⟩
  rintro i m σ H ⟨rfl, hi, p⟩
  by_cases hlt : i < (cds x).length
  · refine .inr ⟨by show i < x.cps.size; omega, Pv (i + 1), fun σ' H' p' => ⟨(cds x).length - (i + 1), by omega, rfl, hlt, p'⟩, ?_⟩
    rintro v H' ⟨e, c, hc, e2⟩
    subst e
    subst e2
    exact hs i c _ _ (by rw [Array.getElem?_toList]; exact hc) p
  · have e : i = (cds x).length := by omega
    subst e
    exact .inl ⟨by show x.cps.size ≤ _; omega, hd _ H p⟩
/-- {k: v for c in text} -/
theorem dc_text {x : Str} {g : TG} {tt : TT} {tk tv : TE} {vs : List Nat} {σ : L2.St} {H1 : Hp} {D : Addr} {Qd : Hp → Prop} (Pv : Nat → Hp → Prop) (h0 : Pv 0 (upd H1 D (.dK [])))
    (hs : ∀ i c H, (cds x)[i]? = some c → Pv i H → g (.str (one c)) (wipe σ vs) H fun σ2 H2 => wipe σ2 vs = wipe σ vs ∧ tt σ2 H2 fun b H3 =>
      if b = true then tk σ2 H3 fun y H4 => tv σ2 H4 fun z H5 => ∃ kvs k, y = kV k ∧ H5 D = some (.dK kvs) ∧ kvs.length < sizeLine ∧ Pv (i + 1) (upd H5 D (.dK (putK kvs k z))) else Pv (i + 1) H3) (hd : ∀ H, Pv (cds x).length H → Qd H) :
    ∃ W : Nat → Nat → Hp → Prop, (∃ m, W 0 m (upd H1 D (.dK []))) ∧ ∀ i m H, W i m H →
      ((Its x).stop i H ∧ Qd H) ∨ ((Its x).go i H ∧ ∃ Nx : Hp → Prop, (∀ H', Nx H' → ∃ m', m' < m ∧ W (i + 1) m' H') ∧ ∀ v H', (Its x).yld i H v H' → g v (wipe σ vs) H' fun σ2 H2 => wipe σ2 vs = wipe σ vs ∧ tt σ2 H2 fun b H3 =>
        if b = true then tk σ2 H3 fun y H4 => tv σ2 H4 fun z H5 => ∃ kvs k, y = kV k ∧ H5 D = some (.dK kvs) ∧ kvs.length < sizeLine ∧ Nx (upd H5 D (.dK (putK kvs k z))) else Nx H3) := by
  have hz : x.cps.size = (cds x).length := (Array.length_toList).symm
  refine ⟨fun i m H => m = (cds x).length - i ∧ i ≤ (cds x).length ∧ Pv i H, ⟨(cds x).length, by simp, Nat.zero_le _, h0⟩, ?_⟩
  rintro i m H ⟨rfl, hi, p⟩
  by_cases hlt : i < (cds x).length
  · refine .inr ⟨by show i < x.cps.size; omega, Pv (i + 1), fun H' p' => ⟨(cds x).length - (i + 1), by omega, rfl, hlt, p'⟩, ?_⟩
    rintro v H' ⟨e, c, hc, e2⟩
    subst e
    subst e2
    exact hs i c _ (by rw [Array.getElem?_toList]; exact hc) p
  · have e : i = (cds x).length := by omega
    subst e
    exact .inl ⟨by show x.cps.size ≤ _; omega, hd H p⟩
end Lc

set_option Elab.async false
set_option linter.all false
set_option maxRecDepth 100000
set_option maxHeartbeats 6400000
namespace K24
open PySem L2 Tx Tg Tm Da RZ
/-! ### readers on the heap -/
abbrev natsV (l : List Nat) : List V := l.map fun (n : Nat) => V.int (n : Int)
def RowAt (H : Hp) (p : Addr) (l : List Nat) : Prop := H p = some (.tup (natsV l))
abbrev Way := Nat × List Nat
def WayAt (H : Hp) (kv : Key × V) (w : Way) : Prop := ∃ p, kv = (Sum.inr (one w.1), V.ref p) ∧ RowAt H p w.2
abbrev WsAt (H : Hp) (kvs : List (Key × V)) (W : List Way) : Prop := PySem.W.EachIs (WayAt H) kvs W
def MovAt (H : Hp) (d : Addr) (W : List Way) : Prop := ∃ kvs, H d = some (.dK kvs) ∧ WsAt H kvs W
theorem WsAt.keep {H H' : Hp} {kvs : List (Key × V)} {W : List Way} (k : KeepT H H') (h : WsAt H kvs W) : WsAt H' kvs W := PySem.W.EachIs.mono (fun _ _ ⟨p, e, r⟩ => ⟨p, e, k _ _ r⟩) h
theorem MovAt.same {H H' : Hp} {d : Addr} {W : List Way} (s : Same H H') (h : MovAt H d W) : MovAt H' d W := let ⟨kvs, e, w⟩ := h; ⟨kvs, s _ _ e, w.keep (.same s)⟩
theorem Cup.noD {H : Hp} {c d : Addr} {kvs : List (Key × V)} (h : Cup H c) (e : H d = some (.dK kvs)) : d ≠ c := by
  obtain ⟨_, _, _, ec⟩ := h
  exact ne_of e ec (by intro z; cases z)
theorem MovAt.but {c : Addr} {H H' : Hp} {d : Addr} {W : List Way} (hc : Cup H c) (b : But c H H') (h : MovAt H d W) : MovAt H' d W := let ⟨kvs, e, w⟩ := h; ⟨kvs, b _ _ (hc.noD e) e, w.keep (KeepT.but hc.noT b)⟩
theorem RowAt.but {c : Addr} {H H' : Hp} {p : Addr} {l : List Nat} (hc : Cup H c) (b : But c H H') (h : RowAt H p l) : RowAt H' p l := KeepT.but hc.noT b _ _ h
/-- moves that a reader may have -/
structure okW (n : Nat) (sg : Str) (W : List Way) : Prop where
  keys : (W.map (·.1)).Perm (cds sg)
  rows : ∀ w ∈ W, w.2.length = n ∧ ∀ q ∈ w.2, q < n
  one : 1 ≤ n
  most : n ≤ 60
/-- states that a reader may answer with yes -/
structure okG (n : Nat) (G : List Nat) : Prop where
  lt : ∀ q ∈ G, q < n
  up : G.Pairwise (· < ·)
theorem one_inj {a b : Nat} (h : one a = one b) : a = b := by
  have : cds (one a) = cds (one b) := by rw [h]
  have : [a] = [b] := this
  injection this
theorem key_one {a b : Nat} : (Sum.inr (one a) : Key) = Sum.inr (one b) ↔ a = b := ⟨fun e => one_inj (by injection e), fun e => by rw [e]⟩
theorem ways_get {H : Hp} : ∀ {kvs : List (Key × V)} {W : List Way} {c : Nat} {l : List Nat}, WsAt H kvs W → (W.map (·.1)).Nodup → (c, l) ∈ W → ∃ p, valV kvs (Sum.inr (one c) : Key) = some (.ref p) ∧ RowAt H p l
  | _, _, _, _, .nil, _, h => nomatch h
  | _, _, c, l, .cons (b := w) ⟨p, e, r⟩ t, nd, h => by
    subst e
    rw [List.map_cons, List.nodup_cons] at nd
    rcases List.mem_cons.mp h with rfl | h
    · exact ⟨p, valV_pos rfl, r⟩
    · have ne : w.1 ≠ c := fun e => nd.1 (List.mem_map.mpr ⟨_, h, e.symm⟩)
      obtain ⟨p', e', r'⟩ := ways_get t nd.2 h
      exact ⟨p', by rw [valV_neg (fun e => ne (key_one.mp e))]; exact e', r'⟩
theorem ways_none {H : Hp} : ∀ {kvs : List (Key × V)} {W : List Way} {c : Nat}, WsAt H kvs W → c ∉ W.map (·.1) → valV kvs (Sum.inr (one c) : Key) = none
  | _, _, _, .nil, _ => rfl
  | _, _, c, .cons (b := w) ⟨p, e, r⟩ t, h => by
    subst e
    rw [List.map_cons, List.mem_cons, not_or] at h
    rw [valV_neg (fun e => h.1 (key_one.mp e).symm)]
    exact ways_none t h.2
theorem ways_len {H : Hp} {kvs : List (Key × V)} {W : List Way} (h : WsAt H kvs W) : kvs.length = W.length := h.length
theorem sg_nodup {sg : Str} (h : Signs sg) : (cds sg).Nodup := by
  rcases h with rfl | rfl | rfl | rfl | rfl <;> decide +kernel
theorem sg_up {sg : Str} (h : Signs sg) : (cds sg).Pairwise (· < ·) := by
  rcases h with rfl | rfl | rfl | rfl | rfl <;> decide +kernel
theorem okW.nodup {n : Nat} {sg : Str} {W : List Way} (h : okW n sg W) (hs : Signs sg) : (W.map (·.1)).Nodup := h.keys.nodup_iff.mpr (sg_nodup hs)
theorem okW.has {n : Nat} {sg : Str} {W : List Way} (h : okW n sg W) {c : Nat} (hc : c ∈ cds sg) : ∃ l, (c, l) ∈ W ∧ l.length = n ∧ ∀ q ∈ l, q < n := by
  obtain ⟨w, hw, e⟩ := List.mem_map.mp (h.keys.mem_iff.mpr hc)
  subst e
  exact ⟨w.2, hw, h.rows w hw⟩
theorem okW.len {n : Nat} {sg : Str} {W : List Way} (h : okW n sg W) : W.length = sg.length := by
  have := h.keys.length_eq
  rw [List.length_map, cds_len] at this
  exact this
/-- the row of a letter -/
def row (W : List Way) (c : Nat) : List Nat := ((W.find? fun w => decide (w.1 = c)).map (·.2)).getD []
theorem row_eq : ∀ {W : List Way} {c : Nat} {l : List Nat}, (W.map (·.1)).Nodup → (c, l) ∈ W → row W c = l
  | [], _, _, _, h => nomatch h
  | w :: W, c, l, nd, h => by
    rw [List.map_cons, List.nodup_cons] at nd
    unfold row
    rcases List.mem_cons.mp h with rfl | h
    · simp
    · have ne : w.1 ≠ c := fun e => nd.1 (List.mem_map.mpr ⟨_, h, e.symm⟩)
      rw [List.find?_cons, decide_eq_false ne]
      exact row_eq nd.2 h
/-- one step -/
def step (W : List Way) (q c : Nat) : Nat := (row W c).getD q 0
def run (W : List Way) (q : Nat) (l : List Nat) : Nat := l.foldl (step W) q
theorem natsV_at {l : List Nat} {i : Nat} (h : i < l.length) : (natsV l)[i]? = some (.int (l[i] : Int)) := by
  rw [List.getElem?_map, List.getElem?_eq_getElem h]
  rfl
theorem step_at {n : Nat} {sg : Str} {W : List Way} (h : okW n sg W) (hs : Signs sg) {H : Hp} {kvs : List (Key × V)} (hw : WsAt H kvs W) {c q : Nat} (hc : c ∈ cds sg) (hq : q < n) :
    ∃ p l, valV kvs (Sum.inr (one c) : Key) = some (.ref p) ∧ RowAt H p l ∧ (natsV l)[q]? = some (.int (step W q c : Int)) ∧ step W q c < n := by
  obtain ⟨l, hl, h1, h2⟩ := h.has hc
  obtain ⟨p, e, r⟩ := ways_get hw (h.nodup hs) hl
  have er := row_eq (h.nodup hs) hl
  have hq2 : q < l.length := by omega
  have es : step W q c = l[q] := by
    unfold step
    rw [er, List.getD_eq_getElem?_getD, List.getElem?_eq_getElem hq2]
    rfl
  exact ⟨p, l, e, r, by rw [natsV_at hq2, es], by rw [es]; exact h2 _ (List.getElem_mem hq2)⟩
section
variable {P : Program} {w : World} {K : PySem.W.Frag} {mg : Str → Option Value} {base : Heap}
/-! ### judges -/
def spIsState : Sp := fun vs H Q _ => ∃ (q n : Nat), vs = [.int (q : Int), .int (n : Int)] ∧ q < n ∧ n ≤ 1000 ∧ Q (.bl true) H
theorem scIsState : FnScope ["value", "many"] ["value", "many"] (defScope sIsState) := ⟨rfl, rfl, rfl, by decide +kernel, rfl, by decide +kernel, by decide +kernel⟩
theorem small_nat {q n : Nat} (h : q < n) (hn : n ≤ 1000) : q < 10 ^ 200 := Nat.lt_trans (Nat.lt_of_lt_of_le h hn) (by decide +kernel)
theorem ok_isstate {f fI : Addr} {fd dI : FuncData} (F : Fun K "is_state" "is_state" sIsState f fd) (T : Txt K mg) (DI : Df K mg "is_integer" sInt ["value"] fI dI) : FnOk P w K mg base CX0 2 f fd ["value", "many"] spIsState := by
  have GI := ok_int (P := P) (w := w) (base := base) DI.F T
  refine F.ok scIsState (fun vs H Q E h => ?_) (fun cdv A outer s H vs Q E hr h => ?_)
  · obtain ⟨q, n, rfl, _⟩ := h
    rfl
  · obtain ⟨q, n, rfl, h1, h2, qq⟩ := h
    refine ⟨_, (pss_one (ps_ret (pe_and (pe_call GI (hr.mono (by decide)) (by rfl) DI.m DI.F.kp DI.b .nil pass0 (pa_cons (pv 0) pa_nil)) (pe_one (pe_chain op_le op_lt pe_int (pv 0) (pv 1)))))), ?_⟩
    refine ⟨_, rfl, .int (q : Int), .int (q : Int), rfl, .int _, ?_⟩
    rw [nat_isInt (small_nat h1 h2)]
    refine ⟨true, rfl, iteT ?_⟩
    refine ⟨_, rfl, _, _, rfl, rfl, true, congrArg V.bl (decide_eq_true (by omega)), iteT ?_⟩
    have e : decide ((q : Int) < (n : Int)) = true := decide_eq_true (by omega)
    exact ⟨_, rfl, _, _, rfl, rfl, by
      show Q (.bl (decide ((q : Int) < (n : Int)))) H
      rw [e]
      exact qq⟩
theorem all_true {n : Nat} : ((List.replicate n true).all id) = true := List.all_eq_true.mpr fun b hb => by rw [(List.mem_replicate.mp hb).2]; rfl
def spRowOk : Sp := fun vs H Q _ => ∃ (p : Addr) (l : List Nat) (n : Nat), vs = [.ref p, .int (n : Int)] ∧ RowAt H p l ∧ l.length = n ∧ (∀ q ∈ l, q < n) ∧ n ≤ 1000 ∧ ∀ H', Same H H' → Q (.bl true) H'
theorem scRowOk : FnScope ["value", "many", "state"] ["value", "many"] (defScope sRowOk) := ⟨rfl, rfl, rfl, by decide +kernel, rfl, by decide +kernel, by decide +kernel⟩
abbrev nRowOk : List Str := ["value", "many", "state"]
theorem ok_rowok {f fI fS : Addr} {fd dI dS : FuncData} (F : Fun K "is_row_of_states" "is_row_of_states" sRowOk f fd) (T : Txt K mg) (DI : Df K mg "is_integer" sInt ["value"] fI dI) (DS : Df K mg "is_state" sIsState ["value", "many"] fS dS) : FnOk P w K mg base CX0 3 f fd ["value", "many"] spRowOk := by
  have GS := ok_isstate (P := P) (w := w) (base := base) DS.F T DI
  refine F.ok scRowOk (fun vs H Q E h => ?_) (fun cdv A outer s H vs Q E hr h => ?_)
  · obtain ⟨p, l, n, rfl, _⟩ := h
    rfl
  · obtain ⟨p, l, n, rfl, hp, hl, hq, hn, q⟩ := h
    refine ⟨_, (pss_one (ps_ret (pe_and (pe_callB call_isi (by rfl) T.isi (by decide +kernel) (pa_cons (pv 0) (pa_cons (pe_bltn (v := .ty "tuple") (by rfl) T.tuple (by decide +kernel) rfl) pa_nil))) (pe_and (pe_cmpR op_eq (pe_callB call_len_seq (by rfl) T.len PySem.boot_len (pa_cons (pv 0) pa_nil)) (pv 1) (nomark _)) (pe_one (pe_callB (cr_all rfl) (by rfl) T.all (by decide +kernel) (pa_cons (pe_lc (own := [("state", 2)]) (g := (gName 2)) (tt := tYes)  rfl scRowOk.nd (pi_tup (pv 0)) (blkOk_by (own := [("state", 2)]) (N := nRowOk) (sc := defScope sRowOk) (by decide +kernel)) (fun _ _ _ _ _ => (pg_name (i := 2) scRowOk.nd rfl (Or.inl rfl))) (fun _ _ _ _ _ => pts_nil) (fun _ _ _ _ _ => (pe_call GS (hr.mono (by decide)) (by rfl) DS.m DS.F.kp DS.b .nil pass0 (pa_cons (pv 2) (pa_cons (pv 1) pa_nil))))) pa_nil))))))), ?_⟩
    have ht : SqT K H p (natsV l) := SqT.of hp
    refine ⟨_, rfl, _, _, _, _, _, rfl, .ty "tuple", ty_tup ht, kit_ty k_tuple_tuple, true, rfl, iteT ?_⟩
    refine ⟨_, rfl, p, _, rfl, .inr ht, _, rfl, rfl, true, ?_, iteT ?_⟩
    · rw [List.length_map, hl, decide_eq_true rfl]
    refine ⟨_, rfl, p, rfl, ⟨_, ht⟩, fun D nD => ?_⟩
    refine Lc.lcTS (ys := (List.replicate n true).map V.bl) ht nD (by rw [List.length_map, List.length_map, List.length_replicate, hl]) (by rw [List.length_map, hl]; exact Nat.lt_of_le_of_lt hn (by decide)) (fun _ => rfl) ?_ ?_
    · intro i x y H2 hx hy s2 Q' q'
      have hi := (List.getElem?_eq_some_iff.mp hx).1
      rw [List.length_map] at hi
      rw [natsV_at hi] at hx
      cases hx
      rw [List.getElem?_map, List.getElem?_replicate, if_pos (by omega)] at hy
      cases hy
      exact ⟨_, rfl, _, rfl, l[i], n, rfl, hq _ (List.getElem_mem hi), hn, q' H2 (Same.refl _)⟩
    · intro H2 s2 e2
      refine ⟨D, _, rfl, SqL.of e2, ?_⟩
      rw [all_true]
      exact q H2 s2
end
end K24

set_option Elab.async false
set_option linter.all false
set_option maxRecDepth 100000
set_option maxHeartbeats 6400000
namespace K24
open PySem L2 Tx Tg Tm Da RZ
theorem k_dict_dict : kitB "dict" "dict" = some true := by decide +kernel
theorem cut_from (xs : List V) (r : Nat) : cutV xs (some (r : Int)) none = xs.drop r := by
  unfold cutV
  rw [HT.sIx_none, HT.sIx_nat]
  by_cases h : r ≤ xs.length
  · rw [Nat.min_eq_left h, List.take_of_length_le (by rw [List.length_drop]; omega)]
  · rw [Nat.min_eq_right (by omega), List.drop_of_length_le (Nat.le_refl _), List.drop_of_length_le (by omega), List.take_nil]
section
variable {P : Program} {w : World} {K : PySem.W.Frag} {mg : Str → Option Value} {base : Heap}
/-- t[r:] -/
theorem sl_drop {Q : VK} {H : Hp} {pt : Addr} {l : List Nat} {r : Nat} (h : RowAt H pt l) (q : ∀ p H', Same H H' → RowAt H' p (l.drop r) → Q (.ref p) H') : rSlA K (.ref pt) (some (r : Int)) none H Q := by
  refine ⟨pt, natsV l, rfl, SqT.of h, fun hw => ?_, fun _ p np => ?_⟩
  · have h1 := hw.1
    rw [HT.sIx_nat, List.length_map] at h1
    refine q pt H (Same.refl H) ?_
    have : l.drop r = l := by
      by_cases hr : r = 0
      · rw [hr]; rfl
      · have : l.length = 0 := by omega
        rw [List.length_eq_zero_iff.mp this, List.drop_nil]
    rw [this]
    exact h
  · rw [cut_from, ← List.map_drop]
    exact q p _ (same_upd np) upd_same
abbrev nMovesOk : List Str := ["letters", "value", "many", "rows", "letter"]
def spMovesOk : Sp := fun vs H Q _ => ∃ (sg : Str) (d : Addr) (W : List Way) (n : Nat), vs = [.str sg, .ref d] ∧ Signs sg ∧ MovAt H d W ∧ okW n sg W ∧ ∀ H', Same H H' → Q (.bl true) H'
theorem scMovesOk : FnScope nMovesOk ["letters", "value"] (defScope sMovesOk) := ⟨rfl, rfl, rfl, by decide +kernel, rfl, by decide +kernel, by decide +kernel⟩
theorem sg_head {sg : Str} (h : Signs sg) : ∃ x, (cds sg)[0]? = some x ∧ x ∈ cds sg := by
  have h0 := (sg_len h).1
  have hl : 0 < (cds sg).length := by rw [cds_len]; exact h0
  exact ⟨(cds sg)[0], List.getElem?_eq_getElem hl, List.getElem_mem hl⟩
theorem ok_movesok {f fI fS fR : Addr} {fd dI dS dR : FuncData} (F : Fun K "are_reader_moves" "are_reader_moves" sMovesOk f fd) (T : Txt K mg) (DI : Df K mg "is_integer" sInt ["value"] fI dI) (DS : Df K mg "is_state" sIsState ["value", "many"] fS dS)
    (DR : Df K mg "is_row_of_states" sRowOk ["value", "many"] fR dR) : FnOk P w K mg base CX0 4 f fd ["letters", "value"] spMovesOk := by
  have GR := ok_rowok (P := P) (w := w) (base := base) DR.F T DI DS
  refine F.ok scMovesOk (fun vs H Q E h => ?_) (fun cdv A outer s H vs Q E hr h => ?_)
  · obtain ⟨sg, d, W, n, rfl, _⟩ := h
    rfl
  · obtain ⟨sg, d, W, n, rfl, hsg, ⟨kvs, ed, hw⟩, ok, q⟩ := h
    have hu := hu_of hr
    obtain ⟨tS, gS⟩ := T.mSta
    have sgl : sg.length ≤ sizeLine := Nat.le_trans (sg_len hsg).2 (by decide)
    have sg3 := (sg_len hsg).2
    obtain ⟨x0, hx0, mx0⟩ := sg_head hsg
    obtain ⟨l0, hl0, ll0, lq0⟩ := ok.has mx0
    obtain ⟨p0, g0, r0⟩ := ways_get hw (ok.nodup hsg) hl0
    have G0 : ∀ H', Same H H' → DGet H' d (.str (one x0)) (some (.ref p0)) := fun H' s => by
      have := DGet.k (k := (Sum.inr (one x0) : Key)) (s _ _ ed)
      rw [g0] at this
      exact this
    have ht0 : SqT K H p0 (natsV l0) := SqT.of r0
    refine ⟨_, (pss_cons (ps_if (PW.pt (pw_or (pt_not (pt_val (pe_callB call_isi (by rfl) T.isi (by decide +kernel) (pa_cons (pv 1) (pa_cons (pe_bltn (v := .ty "dict") (by rfl) T.dict (by decide +kernel) rfl) pa_nil))))) (pw_or (pt_cmpR op_ne (pe_callB call_lenD (by rfl) T.len PySem.boot_len (pa_cons (pv 1) pa_nil)) (pe_callB call_len_str (by rfl) T.len PySem.boot_len (pa_cons (pv 0) pa_nil)) (nomark _)) (pw_or1 (pt_not (pt_val (pe_callB call_isi (by rfl) T.isi (by decide +kernel) (pa_cons (pe_dget1 hu (pv 1) (pe_ix ix_str (pv 0) pe_int (fun _ _ => rfl)) ⟨rfl, rfl, rfl, rfl⟩) (pa_cons (pe_bltn (v := .ty "tuple") (by rfl) T.tuple (by decide +kernel) rfl) pa_nil))))))))) (pss_one (ps_ret pe_bl)) pss_nil)
    (pss_cons (ps_set (i := 2) scMovesOk.nd rfl (Or.inr rfl) (pe_callB call_len_seq (by rfl) T.len PySem.boot_len (pa_cons (pe_dget hu (pv 1) (pe_ix ix_str (pv 0) pe_int (fun _ _ => rfl)) (fun _ _ => rfl)) pa_nil)))
    (pss_cons (ps_setLc (i := 3) (own := [("letter", 4)]) (g := (gName 4)) (tt := tYes)  (by rfl) scMovesOk.nd rfl rfl (sw_true rfl rfl rfl (by decide +kernel)) (pi_str (pv 0)) (blkOk_by (own := [("letter", 4)]) (N := nMovesOk) (sc := defScope sMovesOk) (by decide +kernel)) (fun _ _ _ _ _ => (pg_name (i := 4) scMovesOk.nd rfl (Or.inl rfl))) (fun _ _ _ _ _ => pts_nil) (fun _ _ _ _ _ => (pe_and (pe_cmp (pc_din hu (pv 4) (pv 1))) (pe_one (pe_call GR (hr.mono (by decide)) (by rfl) DR.m DR.F.kp DR.b .nil pass0 (pa_cons (pe_dget hu (pv 1) (pv 4) (fun _ _ => rfl)) (pa_cons (pv 2) pa_nil)))))))
    (pss_one (ps_ret (pe_and (pe_chain op_le op_le pe_int (pv 2) (pe_glob (v := .int 60) rfl gS ⟨_, rfl⟩)) (pe_one (pe_callB (cr_all rfl) (by rfl) T.all (by decide +kernel) (pa_cons (pv 3) pa_nil))))))))), ?_⟩
    refine ⟨_, rfl, _, _, _, _, _, rfl, .ty "dict", .base (.dK ed), kit_ty k_dict_dict, true, rfl, iteF ?_⟩
    refine ⟨_, rfl, d, kvs, rfl, ed, _, rfl, _, rfl, sgl, rfl, _, rfl, ?_⟩
    rw [decide_eq_true (congrArg V.int (by rw [ways_len hw, ok.len] : (kvs.length : Int) = (sg.length : Int)))]
    refine iteF ?_
    refine ⟨_, rfl, d, rfl, .inl ⟨kvs, .inl ed⟩, _, rfl, sg, 0, x0, rfl, rfl, sgl, atI_nat (j := 0) hx0, some (.ref p0), G0 H (Same.refl H), _, _, _, _, _, rfl, .ty "tuple", ty_tup ht0, kit_ty k_tuple_tuple, true, rfl, iteF ?_⟩
    refine ⟨_, rfl, _, rfl, sg, 0, x0, rfl, rfl, sgl, atI_nat (j := 0) hx0, d, _, rfl, G0 H (Same.refl H), p0, _, rfl, .inr ht0, ?_⟩
    rw [List.length_map, ll0]
    refine ⟨_, rfl, sg, rfl, fun D nD => ?_⟩
    refine Lc.lc_text (fun i H1 => Same H H1 ∧ H1 D = some (.lst ((List.replicate i true).map V.bl))) ⟨same_upd nD, upd_same⟩ ?_ ?_
    · rintro i c H1 hc ⟨s1, e1⟩
      have mc := List.mem_of_getElem? hc
      have hi := (List.getElem?_eq_some_iff.mp hc).1
      rw [cds_len] at hi
      obtain ⟨l, hl, ll, lq⟩ := ok.has mc
      obtain ⟨p, g, r⟩ := ways_get hw (ok.nodup hsg) hl
      have g1 : DGet H1 d (.str (one c)) (some (.ref p)) := by
        have := DGet.k (k := (Sum.inr (one c) : Key)) (s1 _ _ ed)
        rw [g] at this
        exact this
      refine ⟨rfl, iteT (B := False) ?_⟩
      refine ⟨_, rfl, _, rfl, d, some (.ref p), rfl, g1, true, rfl, iteT ?_⟩
      refine ⟨_, rfl, _, rfl, d, _, rfl, g1, _, rfl, p, l, n, rfl, s1 _ _ r, ll, lq, Nat.le_trans ok.most (by decide), fun H2 s2 => ?_⟩
      refine ⟨_, s2 _ _ e1, ?_, same_put (s1.trans s2) nD, ?_⟩
      · rw [List.length_map, List.length_replicate]
        exact Nat.lt_of_le_of_lt (show i ≤ 3 by omega) (by decide)
      · rw [upd_same, List.replicate_succ', List.map_append]
        rfl
    · rintro H1 ⟨s1, e1⟩
      refine ⟨_, rfl, _, _, rfl, rfl, true, congrArg V.bl (decide_eq_true (by have := ok.one; omega)), iteT ⟨_, _, rfl, rfl, true, congrArg V.bl (decide_eq_true (by have := ok.most; omega)), iteT ?_⟩⟩
      refine ⟨_, rfl, D, _, rfl, SqL.of e1, ?_⟩
      rw [all_true]
      exact q H1 s1
abbrev nYesOk : List Str := ["value", "many", "state", "one", "other"]
def spYesOk : Sp := fun vs H Q _ => ∃ (p : Addr) (G : List Nat) (n : Nat), vs = [.ref p, .int (n : Int)] ∧ RowAt H p G ∧ okG n G ∧ n ≤ 1000 ∧ G.length ≤ 1000 ∧ ∀ H', Same H H' → Q (.bl true) H'
theorem scYesOk : FnScope nYesOk ["value", "many"] (defScope sYesOk) := ⟨rfl, rfl, rfl, by decide +kernel, rfl, by decide +kernel, by decide +kernel⟩
theorem ok_yesok {f fI fS : Addr} {fd dI dS : FuncData} (F : Fun K "are_yes_states" "are_yes_states" sYesOk f fd) (T : Txt K mg) (DI : Df K mg "is_integer" sInt ["value"] fI dI) (DS : Df K mg "is_state" sIsState ["value", "many"] fS dS) : FnOk P w K mg base CX0 3 f fd ["value", "many"] spYesOk := by
  have GS := ok_isstate (P := P) (w := w) (base := base) DS.F T DI
  refine F.ok scYesOk (fun vs H Q E h => ?_) (fun cdv A outer s H vs Q E hr h => ?_)
  · obtain ⟨p, l, n, rfl, _⟩ := h
    rfl
  · obtain ⟨p, G, n, rfl, hp, ok, hn, hG, q⟩ := h
    refine ⟨_, (pss_cons (ps_if (PW.pt (pw_or (pt_not (pt_val (pe_callB call_isi (by rfl) T.isi (by decide +kernel) (pa_cons (pv 0) (pa_cons (pe_bltn (v := .ty "tuple") (by rfl) T.tuple (by decide +kernel) rfl) pa_nil))))) (pw_or1 (pt_not (pt_val (pe_callB (cr_all rfl) (by rfl) T.all (by decide +kernel) (pa_cons (pe_lc (own := [("state", 2)]) (g := (gName 2)) (tt := tYes)  rfl scYesOk.nd (pi_tup (pv 0)) (blkOk_by (own := [("state", 2)]) (N := nYesOk) (sc := defScope sYesOk) (by decide +kernel)) (fun _ _ _ _ _ => (pg_name (i := 2) scYesOk.nd rfl (Or.inl rfl))) (fun _ _ _ _ _ => pts_nil) (fun _ _ _ _ _ => (pe_call GS (hr.mono (by decide)) (by rfl) DS.m DS.F.kp DS.b .nil pass0 (pa_cons (pv 2) (pa_cons (pv 1) pa_nil))))) pa_nil))))))) (pss_one (ps_ret pe_bl)) pss_nil)
    (pss_one (ps_ret (pe_callB (cr_all rfl) (by rfl) T.all (by decide +kernel) (pa_cons (pe_lc (own := [("one", 3), ("other", 4)]) (g := (gTup K 2 (gCons (gName 3) (gCons (gName 4) gNil)))) (tt := tYes)  rfl scYesOk.nd (pi_zipA (by rfl) T.zip (pa_cons (pv 0) (pa_cons (pe_slice sl_tupA (pv 0) (po_some pe_int) po_none) pa_nil))) (blkOk_by (own := [("one", 3), ("other", 4)]) (N := nYesOk) (sc := defScope sYesOk) (by decide +kernel)) (fun _ _ _ _ _ => (pg_tup rfl (pgs_cons (pg_name (i := 3) scYesOk.nd rfl (Or.inl rfl)) (pgs_cons (pg_name (i := 4) scYesOk.nd rfl (Or.inl rfl)) pgs_nil)))) (fun _ _ _ _ _ => pts_nil) (fun _ _ _ _ _ => (pe_cmpR op_lt (pv 3) (pv 4) (nomark _)))) pa_nil))))), ?_⟩
    have ht : SqT K H p (natsV G) := SqT.of hp
    refine ⟨_, rfl, _, _, _, _, _, rfl, .ty "tuple", ty_tup ht, kit_ty k_tuple_tuple, true, rfl, iteF ?_⟩
    refine ⟨_, rfl, p, rfl, ⟨_, ht⟩, fun D nD => ?_⟩
    refine Lc.lcTS (ys := (List.replicate G.length true).map V.bl) ht nD (by rw [List.length_map, List.length_map, List.length_replicate]) (by rw [List.length_map]; exact Nat.lt_of_le_of_lt hG (by decide)) (fun _ => rfl) ?_ ?_
    · intro i x y H2 hx hy s2 Q' q'
      have hi := (List.getElem?_eq_some_iff.mp hx).1
      rw [List.length_map] at hi
      rw [natsV_at hi] at hx
      cases hx
      rw [List.getElem?_map, List.getElem?_replicate, if_pos hi] at hy
      cases hy
      exact ⟨_, rfl, _, rfl, G[i], n, rfl, ok.lt _ (List.getElem_mem hi), hn, q' H2 (Same.refl _)⟩
    · intro H2 s2 e2
      refine ⟨D, _, rfl, SqL.of e2, ?_⟩
      rw [all_true]
      refine ⟨_, rfl, iteF ?_⟩
      have hp2 := s2 _ _ hp
      refine ⟨_, rfl, _, rfl, _, rfl, ?_⟩
      dsimp only [tNoPart]
      refine sl_drop (r := 1) hp2 fun p' H3 s3 hp' => ?_
      refine ⟨p, p', natsV G, natsV (G.drop 1), rfl, .inr ⟨SqT.of (s3 _ _ hp2), SqT.of hp', fun D' nD' => ?_⟩⟩
      refine Lc.lc_zipT (by rw [List.length_map, List.length_map, List.length_drop]; omega) (fun i H4 => Same H3 H4 ∧ H4 D' = some (.lst ((List.replicate i true).map V.bl))) ⟨same_upd nD', upd_same⟩ (fun i H4 z => ⟨SqT.of (z.1 _ _ (s3 _ _ hp2)), SqT.of (z.1 _ _ hp')⟩) ?_ ?_
      · rintro i x y t H4 hx hy ⟨s4, e4⟩ nt
        have hi := (List.getElem?_eq_some_iff.mp hx).1
        have hj := (List.getElem?_eq_some_iff.mp hy).1
        rw [List.length_map] at hi hj
        rw [natsV_at hi] at hx
        rw [natsV_at hj] at hy
        cases hx
        cases hy
        rw [List.length_drop] at hj
        have s5 := same_upd (o := .tup [V.int (G[i] : Int), V.int ((G.drop 1)[i] : Int)]) nt
        refine ⟨t, _, rfl, SqT.of upd_same, rfl, _, _, rfl, _, _, rfl, rfl, rfl, iteT (B := False) ?_⟩
        refine ⟨_, rfl, _, rfl, _, _, rfl, rfl, ?_⟩
        have lt : G[i] < (G.drop 1)[i] := by
          rw [List.getElem_drop]
          have := List.pairwise_iff_getElem.mp ok.up i (1 + i) hi (by omega) (by omega)
          exact this
        have e : decide ((G[i] : Int) < ((G.drop 1)[i] : Int)) = true := decide_eq_true (by omega)
        refine ⟨_, s5 _ _ e4, ?_, same_put (s4.trans s5) nD', ?_⟩
        · rw [List.length_map, List.length_replicate]
          exact Nat.lt_of_le_of_lt (show i ≤ 1000 by omega) (by decide)
        · rw [upd_same, List.replicate_succ', List.map_append]
          show some (HO.lst (_ ++ [V.bl (decide ((G[i] : Int) < ((G.drop 1)[i] : Int)))])) = _
          rw [e]
          rfl
      · rintro H4 ⟨s4, e4⟩
        refine ⟨D', _, rfl, SqL.of e4, ?_⟩
        rw [all_true]
        exact q H4 ((s2.trans s3).trans s4)
end
end K24

set_option Elab.async false
set_option linter.all false
set_option maxRecDepth 100000
set_option maxHeartbeats 3200000
/-! a * b, ~a and the like by an own operator of a class of the text -/
namespace Ow
open PySem PySem.Spec PyProof.Rows L2
theorem no_ni {v : V} {u : Value} (r : RelV v u) : u ≠ .notImplemented := by
  rintro rfl
  cases v <;> first | (obtain ⟨_, r⟩ := r; exact Value.noConfusion r) | exact Value.noConfusion r
section
variable {X : Cx} {CX : CXT} {C f : Addr} {fd : FuncData} {ps : List Str} {sp : Sp} {E : XK} {k : Nat} {op : Operator}
/-- both of the class at C: what the operator's def promises -/
def rOwn (C : Addr) (sp : Sp) (E : XK) : R2 := fun x y H Q => ∃ a b dx dy fs gs, x = .ref a ∧ y = .ref b ∧ H a = some (.ins C dx fs) ∧ H b = some (.ins C dy gs) ∧ sp [.ref a, .ref b] H Q E
/-- a call of such a def from where the operator stands -/
theorem own_call (F : FnOk X.prog X.w X.K X.mg X.base CX k f fd ps sp) (hr : Room k X.A) (hb : Binds X.K fd ps []) (hx : Passes CX X E) {pins : List (Addr × Obj)} {s : Shared} {σ : L2.St} {H : Hp} {Q : VK} {us : List Value} {vs : List V}
    (I : Inv X pins σ H s) (r : Vals vs us) (h : sp vs H Q E) : wpAny (model X.prog X.w) X.A (call (.ref f) us) (EP X pins σ Q) X.xe s := by
  have hl := F.len _ _ _ _ h
  refine wpAny_call (codeAny_mono (F.run X.A X.stack s H ⟨us, []⟩ us vs Q E hr I.env0 (by
    have := hb s us I.kIn (by rw [List.append_nil, ← r.length]; exact hl)
    simpa using this) r h) fun r s' hq => ?_)
  cases r with
  | error e => exact hx pins σ H s e s' I hq
  | ok fl =>
    cases fl with
    | ret w => exact I.after hq
    | next => exact False.elim hq
    | brk => exact False.elim hq
    | cont => exact False.elim hq
theorem op_own (F : FnOk X.prog X.w X.K X.mg X.base CX k f fd ps sp) (hr : Room k X.A) (hc : PySem.W.selfFirst X.K C = true) (hs : PySem.W.findIn X.K (.ref C) (PySem.dunder op.info.2) = some (some (.ref f))) (hf : PySem.W.isFn X.K (.ref f) = true)
    (hb : Binds X.K fd ps []) (hx : Passes CX X E) : OpR X (binaryOp op) (rOwn C sp E) := by
  intro pins s σ H x y u v Q I rx ry hq
  obtain ⟨a, b, dx, dy, fs, gs, rfl, rfl, ha, hb', h⟩ := hq
  cases rx
  cases ry
  obtain ⟨mA, J, _⟩ := ins_get I.hok ha
  obtain ⟨mB, J', _⟩ := ins_get I.hok hb'
  obtain ⟨od, J, _⟩ := J.look
  obtain ⟨od', J', _⟩ := J'.look
  obtain ⟨m, hF⟩ := I.fr
  refine PySem.W.binop_K hF I.ok.mod.kin J J'.type hc hs hf ?_
  refine wpAny_mono (own_call F hr hb hx I (vs := [V.ref a, V.ref b]) (.cons rfl (.cons rfl .nil)) h) (fun w s' z => ?_) fun _ _ e => e
  obtain ⟨v, H', I', rv, q⟩ := z
  have := no_ni rv
  cases w <;> first | exact absurd rfl this | exact ⟨v, H', I', rv, q⟩
/-- a op v, v of a built-in type (an own operator that refuses such) -/
def rOwnT (K : PySem.W.Frag) (C : Addr) (T : String) (sp : Sp) (E : XK) : R2 := fun x y H Q => ∃ a dx fs, x = .ref a ∧ H a = some (.ins C dx fs) ∧ (∀ u, RelV y u → typeOf u = pure (.type T)) ∧ sp [.ref a, y] H Q E
theorem op_ownT {T : String} {fo ro rc : Option Value} (F : FnOk X.prog X.w X.K X.mg X.base CX k f fd ps sp) (hr : Room k X.A) (hc : PySem.W.selfFirst X.K C = true) (hs : PySem.W.findIn X.K (.ref C) (PySem.dunder op.info.2) = some (some (.ref f))) (hf : PySem.W.isFn X.K (.ref f) = true)
    (hrc : PySem.W.findIn X.K (.ref C) (dunderR op.info.2) = some rc) (hp : rc = none ∨ ∃ g : Addr, rc = some (.ref g)) (h1 : PySem.W.findIn X.K (.type T) (PySem.dunder op.info.2) = some fo) (h2 : PySem.W.findIn X.K (.type T) (dunderR op.info.2) = some ro)
    (hsub : PySem.W.subIn X.K (.type T) (.ref C) = some false) (hb : Binds X.K fd ps []) (hx : Passes CX X E) : OpR X (binaryOp op) (rOwnT X.K C T sp E) := by
  intro pins s σ H x y u v Q I rx ry hq
  obtain ⟨a, dx, fs, rfl, ha, ht, h⟩ := hq
  cases rx
  obtain ⟨mA, J, _⟩ := ins_get I.hok ha
  obtain ⟨od, J, _⟩ := J.look
  obtain ⟨m, hF⟩ := I.fr
  refine PySem.W.ksp_binT hF I.ok.mod.kin J (ht _ ry) hc hs hf hrc hp h1 h2 hsub ?_
  refine wpAny_mono (own_call F hr hb hx I (vs := [V.ref a, y]) (.cons rfl (.cons ry .nil)) h) (fun w s' z => ?_) fun _ _ e => e
  obtain ⟨v, H', I', rv, q⟩ := z
  have := no_ni rv
  cases w <;> first | exact absurd rfl this | exact ⟨v, H', I', rv, q⟩
/-- ~a, -a by the text's own operator -/
def rOwn1 (C : Addr) (sp : Sp) (E : XK) : V → Hp → VK → Prop := fun x H Q => ∃ a dx fs, x = .ref a ∧ H a = some (.ins C dx fs) ∧ sp [.ref a] H Q E
theorem un_own (F : FnOk X.prog X.w X.K X.mg X.base CX k f fd ps sp) (hr : Room k X.A) (hs : PySem.W.findIn X.K (.ref C) "__invert__" = some (some (.ref f))) (hf : PySem.W.isFn X.K (.ref f) = true)
    (hb : Binds X.K fd ps []) (hx : Passes CX X E) : UnR X (unaryOp .Invert) (rOwn1 C sp E) := by
  intro pins s σ H x u Q I rx hq
  obtain ⟨a, dx, fs, rfl, ha, h⟩ := hq
  cases rx
  obtain ⟨mA, J, _⟩ := ins_get I.hok ha
  obtain ⟨od, J, _⟩ := J.look
  obtain ⟨m, hF⟩ := I.fr
  exact PySem.W.ksp_inv hF I.ok.mod.kin J hs hf (own_call F hr hb hx I (vs := [V.ref a]) (.cons rfl .nil) h)
/-- the same call one step further within -/
theorem own_call1 {A : Around} (hA : A.frames = X.A.frames) (F : FnOk X.prog X.w X.K X.mg X.base CX k f fd ps sp) (hr : Room k A) (hb : Binds X.K fd ps []) (hx : Passes CX X E) {pins : List (Addr × Obj)} {s : Shared} {σ : L2.St} {H : Hp} {Q : VK} {us : List Value} {vs : List V}
    (I : Inv X pins σ H s) (r : Vals vs us) (h : sp vs H Q E) : wpAny (model X.prog X.w) A (call (.ref f) us) (EP X pins σ Q) X.xe s := by
  have hl := F.len _ _ _ _ h
  have e0 : Env0 X.prog X.w X.K X.mg X.base A X.stack s H := by
    have e := I.env0
    exact ⟨by rw [hA]; exact e.frames, e.mod, e.bs, e.bsz, e.funs, e.frf, e.hok, e.bare⟩
  refine wpAny_call (codeAny_mono (F.run A X.stack s H ⟨us, []⟩ us vs Q E hr e0 (by
    have := hb s us I.kIn (by rw [List.append_nil, ← r.length]; exact hl)
    simpa using this) r h) fun r s' hq => ?_)
  cases r with
  | error e => exact hx pins σ H s e s' I hq
  | ok fl =>
    cases fl with
    | ret w => exact I.after hq
    | next => exact False.elim hq
    | brk => exact False.elim hq
    | cont => exact False.elim hq
/-- a == b, both of the class C, by its own __eq__, whatever it answers -/
theorem eq_own (F : FnOk X.prog X.w X.K X.mg X.base CX k f fd ps sp) (hr : Room k X.A) (hn : PySem.W.notFirst X.K C (.ref C) = true) (hs : PySem.W.findIn X.K (.ref C) "__eq__" = some (some (.ref f))) (hf : PySem.W.isFn X.K (.ref f) = true)
    (hb : Binds X.K fd ps []) (hx : Passes CX X E) : OpR X (compareOp .Eq) (rOwn C sp E) := by
  intro pins s σ H x y u v Q I rx ry hq
  obtain ⟨a, b, dx, dy, fs, gs, rfl, rfl, ha, hb', h⟩ := hq
  cases rx
  cases ry
  obtain ⟨mA, J, _⟩ := ins_get I.hok ha
  obtain ⟨mB, J', _⟩ := ins_get I.hok hb'
  obtain ⟨od, J, _⟩ := J.look
  obtain ⟨od', J', _⟩ := J'.look
  obtain ⟨m, hF⟩ := I.fr
  show wpAny (model X.prog X.w) X.A (richCompare .Eq (.ref a) (.ref b)) (EP X pins σ Q) X.xe s
  refine PySem.W.cmp_K (op := .Eq) (tb := .ref C) hr.units0 hF I.ok.mod.kin J J'.type hn hs hf ?_
  refine wpAny_mono (own_call F hr hb hx I (vs := [V.ref a, V.ref b]) (.cons rfl (.cons rfl .nil)) h) (fun w s' z => ?_) fun _ _ e => e
  obtain ⟨v, H', I', rv, q⟩ := z
  have := no_ni rv
  cases w <;> first | exact absurd rfl this | exact ⟨v, H', I', rv, q⟩
/-- len(a) by the class's own __len__ -/
def rLenOwn (C : Addr) (sp : Sp) (E : XK) : List V → Hp → VK → Prop := fun xs H Q => ∃ a dx fs, xs = [.ref a] ∧ H a = some (.ins C dx fs) ∧ sp [.ref a] H (fun v H' => ∃ n : Int, v = .int n ∧ 0 ≤ n ∧ n < 2 ^ 63 ∧ Q (.int n) H') E
theorem len_own (F : FnOk X.prog X.w X.K X.mg X.base CX k f fd ps sp) (hr : Room (k + 1) X.A) (hs : PySem.W.findIn X.K (.ref C) "__len__" = some (some (.ref f))) (hf : PySem.W.isFn X.K (.ref f) = true)
    (hb : Binds X.K fd ps []) (hx : Passes CX X E) : CallR X (.builtin "len") (rLenOwn C sp E) := by
  intro pins s σ H xs us Q I r hq
  obtain ⟨a, dx, fs, rfl, ha, h⟩ := hq
  obtain rfl := Vals.ref1 r
  obtain ⟨mA, J, _⟩ := ins_get I.hok ha
  obtain ⟨od, J, _⟩ := J.look
  obtain ⟨m, hF⟩ := I.fr
  refine PySem.W.len_K hF I.ok.mod.kin J hs hf ?_
  refine wpAny_mono (own_call1 (A := X.A.in1) rfl F hr.in1 hb hx I (vs := [V.ref a]) (.cons rfl .nil) h) (fun w s' z => ?_) fun _ _ e => e
  obtain ⟨v, H', I', rv, n, rfl, h0, h1, q⟩ := z
  obtain ⟨t, rfl⟩ := rv
  exact ⟨⟨h0, h1⟩, .int n, H', I'.tok _, ⟨_, rfl⟩, q⟩
end
end Ow

set_option Elab.async false
set_option linter.all false
set_option maxRecDepth 100000
set_option maxHeartbeats 3200000
/-! a != b, both of a class of the text that has only an own __eq__ -/
namespace Ow
open PySem PySem.Spec PyProof.Rows L2
theorem ifBound_b {A : Around} {E : Value → Shared → Prop} {s : Shared} {K : PySem.W.Frag} {x C : Addr} {ox : Obj} {od : Option Obj} {name : Str} {id : String} {M : Model} {args : List Value} {Q : Option Value → Shared → Prop} (X : K.In s.heap) (I : PySem.W.InstAt s.heap x ox C od)
    (hs : PySem.W.findIn K (.ref C) name = some (some (.builtin id))) (hb : ∀ self, bindSpecial (.builtin id) self = pure (.builtin id, [self]))
    (h : wpAny M A (call (.builtin id) (.ref x :: args)) (fun v => Q (some v)) E s) : wpAny M A (callSpecialIfBound? (.ref x) name args) Q E s := by
  simp only [callSpecialIfBound?, bindSpecialIfBound?]
  refine wpAny_holding (wpAny_bind (wpAny_bind (wpAny_bind (I.type.here ((PySem.W.looks_findIn X hs).here ?_)))))
  simp only [hb]
  refine wpAny_bind (wpAny_askSetting (wpAny_ite ?_))
  have fin : wpAny M A (call (.builtin id) ([.ref x] ++ args) >>= fun v => pure (some v)) Q E s := wpAny_bind (wpAny_mono h (fun v s' h' => wpAny_pure h') fun _ _ h' => h')
  split
  · exact wpAny_bind (wpAny_pure (wpAny_pure fin))
  · exact wpAny_tryCatch (wpAny_bind (wpAny_pure (wpAny_pure fin)))
section
variable {X : Cx} {CX : CXT} {C f : Addr} {fd : FuncData} {ps : List Str} {sp : Sp} {E : XK} {k : Nat}
def rOwnNe (C : Addr) (sp : Sp) (E : XK) : R2 := fun x y H Q => ∃ a b dx dy fs gs, x = .ref a ∧ y = .ref b ∧ H a = some (.ins C dx fs) ∧ H b = some (.ins C dy gs) ∧ sp [.ref a, .ref b] H (fun v H' => ∃ t : Bool, v = .bl t ∧ Q (.bl (!t)) H') E
theorem ne_own (F : FnOk X.prog X.w X.K X.mg X.base CX k f fd ps sp) (hr : Room (k + 1) X.A) (hob : PySem.W.subIn X.K (.ref C) (.type "object") = some true) (hn : PySem.W.findIn X.K (.ref C) "__ne__" = some (some (.builtin "object.__ne__")))
    (hs : PySem.W.findIn X.K (.ref C) "__eq__" = some (some (.ref f))) (hf : PySem.W.isFn X.K (.ref f) = true) (hb : Binds X.K fd ps []) (hx : Passes CX X E) : OpR X (compareOp .NotEq) (rOwnNe C sp E) := by
  intro pins s σ H x y u v Q I rx ry hq
  obtain ⟨a, b, dx, dy, fs, gs, rfl, rfl, ha, hb', h⟩ := hq
  cases rx
  cases ry
  obtain ⟨mA, J, _⟩ := ins_get I.hok ha
  obtain ⟨mB, J', _⟩ := ins_get I.hok hb'
  obtain ⟨od, J, _⟩ := J.look
  obtain ⟨od', J', _⟩ := J'.look
  obtain ⟨m, hF⟩ := I.fr
  have X0 := I.ok.mod.kin.keeps hF.keep
  have inner := own_call1 (A := X.A.in1) rfl F hr.in1 hb hx I (vs := [V.ref a, V.ref b]) (us := [.ref a, .ref b]) (.cons rfl (.cons rfl .nil)) h
  have one : wpAny (model X.prog X.w) X.A (tryCompare (.ref a) "__ne__" (.ref b)) (fun r s' => ∃ v, r = some v ∧ EP X pins σ Q v s') X.xe s := by
    unfold tryCompare
    refine wpAny_bind (ifBound_b X0 J hn PySem.F.cmp_object.ne.bind (wpAny_call (codeAny_call_builtin PySem.F.cmp_object.ne.plain PySem.F.cmpEntry_ne
      (PySem.W.check_slot PySem.F.cmpKind_ne PySem.F.cmpSplit_ne (J.type.andThen (PySem.W.looks_subIn X0 hob)) (PySem.F.cmpArgs_ne _ _) ?_))))
    unfold Builtin.«object.__ne__»
    repeat (first
      | with_reducible refine wpAny_cRoomFor hr.in1.units0 ?_
      | (refine wpAny_bind (m := callSpecialIfBound? (.ref a) (Str.ofString "__eq__") [.ref b]) (PySem.W.ifBound_K X0 J hs hf (wpAny_mono inner (fun r s' hr' => ?_) fun _ _ e => e)))
      | wp_step)
    obtain ⟨v, H', I', rv, t, rfl, q⟩ := hr'
    obtain rfl : r = Value.bool t := rv
    repeat (first | (refine wpAny_bind (m := truthy (.bool _)) (wpAny_truthy_bool ?_)) | wp_step)
    first
      | exact ⟨_, rfl, .bl (!t), H', I', rfl, q⟩
      | exact wpAny_pure ⟨_, rfl, .bl (!t), H', I', rfl, q⟩
  show wpAny (model X.prog X.w) X.A (richCompare .NotEq (.ref a) (.ref b)) (EP X pins σ Q) X.xe s
  unfold richCompare
  simp only [oneThing_ref]
  refine wpAny_holding (wpAny_bind (wpAny_cRoomFor hr.units0 ?_))
  refine wpAny_bind (J.type.here (wpAny_bind (J'.type.here ?_)))
  rw [show (Value.ref C != Value.ref C) = false from by simp]
  simp only [Bool.false_eq_true, if_false]
  refine wpAny_bind (wpAny_pure ?_)
  simp only [Bool.false_eq_true, if_false]
  refine wpAny_bind (wpAny_mono one (fun r s' z => ?_) fun _ _ e => e)
  obtain ⟨v, rfl, hq⟩ := z
  exact wpAny_pure hq
end
end Ow

set_option Elab.async false
set_option linter.all false
set_option maxRecDepth 100000
set_option maxHeartbeats 3200000
/-! a == v, a != v with v of another kind; a[i] by an own __getitem__; str(a) by an own __str__ -/
namespace Ow
open PySem PySem.Spec PyProof.Rows L2
section
variable {X : Cx} {CX : CXT} {C f : Addr} {fd : FuncData} {ps : List Str} {sp : Sp} {E : XK} {k : Nat}
def rOwnX (K : PySem.W.Frag) (C : Addr) (sp : Sp) (E : XK) : R2 := fun x y H Q => ∃ a dx fs t, x = .ref a ∧ H a = some (.ins C dx fs) ∧ TyX K H y t ∧ PySem.W.notFirst K C t = true ∧ sp [.ref a, y] H Q E
theorem eq_ownX (F : FnOk X.prog X.w X.K X.mg X.base CX k f fd ps sp) (hr : Room k X.A) (hs : PySem.W.findIn X.K (.ref C) "__eq__" = some (some (.ref f))) (hf : PySem.W.isFn X.K (.ref f) = true)
    (hb : Binds X.K fd ps []) (hx : Passes CX X E) : OpR X (compareOp .Eq) (rOwnX X.K C sp E) := by
  intro pins s σ H x y u v Q I rx ry hq
  obtain ⟨a, dx, fs, t, rfl, ha, ty, hn, h⟩ := hq
  cases rx
  obtain ⟨mA, J, _⟩ := ins_get I.hok ha
  obtain ⟨od, J, _⟩ := J.look
  obtain ⟨m, hF⟩ := I.fr
  obtain ⟨P, Z, hP, _⟩ := kit_of I ry ty
  show wpAny (model X.prog X.w) X.A (richCompare .Eq (.ref a) v) (EP X pins σ Q) X.xe s
  refine PySem.W.cmp_K (op := .Eq) (tb := t) hr.units0 hF I.ok.mod.kin J (Z.ty _ _ I.kIn hP) hn hs hf ?_
  refine wpAny_mono (own_call F hr hb hx I (vs := [V.ref a, y]) (.cons rfl (.cons ry .nil)) h) (fun w s' z => ?_) fun _ _ e => e
  obtain ⟨v, H', I', rv, q⟩ := z
  have := no_ni rv
  cases w <;> first | exact absurd rfl this | exact ⟨v, H', I', rv, q⟩
def rOwnNeX (K : PySem.W.Frag) (C : Addr) (sp : Sp) (E : XK) : R2 := fun x y H Q => ∃ a dx fs t, x = .ref a ∧ H a = some (.ins C dx fs) ∧ TyX K H y t ∧ PySem.W.notFirst K C t = true ∧ sp [.ref a, y] H (fun v H' => ∃ t : Bool, v = .bl t ∧ Q (.bl (!t)) H') E
theorem ne_ownX (F : FnOk X.prog X.w X.K X.mg X.base CX k f fd ps sp) (hr : Room (k + 1) X.A) (hob : PySem.W.subIn X.K (.ref C) (.type "object") = some true) (hn0 : PySem.W.findIn X.K (.ref C) "__ne__" = some (some (.builtin "object.__ne__")))
    (hs : PySem.W.findIn X.K (.ref C) "__eq__" = some (some (.ref f))) (hf : PySem.W.isFn X.K (.ref f) = true) (hb : Binds X.K fd ps []) (hx : Passes CX X E) : OpR X (compareOp .NotEq) (rOwnNeX X.K C sp E) := by
  intro pins s σ H x y u v Q I rx ry hq
  obtain ⟨a, dx, fs, ty, rfl, ha, hty, hn, h⟩ := hq
  cases rx
  obtain ⟨mA, J, _⟩ := ins_get I.hok ha
  obtain ⟨od, J, _⟩ := J.look
  obtain ⟨m, hF⟩ := I.fr
  obtain ⟨P, Z, hP, _⟩ := kit_of I ry hty
  have X0 := I.ok.mod.kin.keeps hF.keep
  have hv := Z.ty (model X.prog X.w) _ I.kIn hP
  have inner := own_call1 (A := X.A.in1) rfl F hr.in1 hb hx I (vs := [V.ref a, y]) (us := [.ref a, v]) (.cons rfl (.cons ry .nil)) h
  have one : wpAny (model X.prog X.w) X.A (tryCompare (.ref a) "__ne__" v) (fun r s' => ∃ v, r = some v ∧ EP X pins σ Q v s') X.xe s := by
    unfold tryCompare
    refine wpAny_bind (ifBound_b X0 J hn0 PySem.F.cmp_object.ne.bind (wpAny_call (codeAny_call_builtin PySem.F.cmp_object.ne.plain PySem.F.cmpEntry_ne
      (PySem.W.check_slot PySem.F.cmpKind_ne PySem.F.cmpSplit_ne (J.type.andThen (PySem.W.looks_subIn X0 hob)) (PySem.F.cmpArgs_ne _ _) ?_))))
    unfold Builtin.«object.__ne__»
    repeat (first
      | with_reducible refine wpAny_cRoomFor hr.in1.units0 ?_
      | (refine wpAny_bind (m := callSpecialIfBound? (.ref a) (Str.ofString "__eq__") [v]) (PySem.W.ifBound_K X0 J hs hf (wpAny_mono inner (fun r s' hr' => ?_) fun _ _ e => e)))
      | wp_step)
    obtain ⟨v, H', I', rv, t, rfl, q⟩ := hr'
    obtain rfl : r = Value.bool t := rv
    repeat (first | (refine wpAny_bind (m := truthy (.bool _)) (wpAny_truthy_bool ?_)) | wp_step)
    first
      | exact ⟨_, rfl, .bl (!t), H', I', rfl, q⟩
      | exact wpAny_pure ⟨_, rfl, .bl (!t), H', I', rfl, q⟩
  show wpAny (model X.prog X.w) X.A (richCompare .NotEq (.ref a) v) (EP X pins σ Q) X.xe s
  unfold richCompare
  simp only [oneThing_ref]
  refine wpAny_holding (wpAny_bind (wpAny_cRoomFor hr.units0 ?_))
  refine wpAny_bind (J.type.here (wpAny_bind (hv.here ?_)))
  split
  · rename_i q
    have e : PySem.W.subIn X.K ty (.ref C) = some false := by
      rcases Bool.or_eq_true_iff.mp hn with e | e
      · rw [beq_iff_eq.mp e] at q; simp at q
      · exact beq_iff_eq.mp e
    refine wpAny_bind ((PySem.W.looks_subIn X0 e).here ?_)
    simp only [Bool.false_eq_true, if_false]
    refine wpAny_bind (wpAny_mono one (fun r s' z => ?_) fun _ _ e => e)
    obtain ⟨v, rfl, hq⟩ := z
    exact wpAny_pure hq
  · refine wpAny_bind (wpAny_pure ?_)
    simp only [Bool.false_eq_true, if_false]
    refine wpAny_bind (wpAny_mono one (fun r s' z => ?_) fun _ _ e => e)
    obtain ⟨v, rfl, hq⟩ := z
    exact wpAny_pure hq
/-- a[i] -/
def rOwnIx (C : Addr) (sp : Sp) (E : XK) : R2 := fun x y H Q => ∃ a dx fs, x = .ref a ∧ H a = some (.ins C dx fs) ∧ sp [.ref a, y] H Q E
theorem pe_ixOwn {a b : Expr} {ta tb : TE} {pos : Pos} (F : FnOk X.prog X.w X.K X.mg X.base CX k f fd ps sp) (hr : Room (k + 1) X.A) (hs : PySem.W.findIn X.K (.ref C) "__getitem__" = some (some (.ref f))) (hf : PySem.W.fnIn X.K f = true) (hfn : PySem.W.isFn X.K (.ref f) = true)
    (hb : Binds X.K fd ps []) (hx : Passes CX X E) (ha : PE X a ta) (hbb : PE X b tb) (hsl : ∀ o i, subscripted b true o i = runValue (.builtin "lifetime.subscript" ⟨[o, i], []⟩)) : PE X (.Subscript a b pos) (tOp (rOwnIx C sp E) ta tb) := by
  refine ⟨fun pins s σ H Q I h => ?_⟩
  refine Subscript_ (binT ha hbb I (R := fun x y H2 => rOwnIx C sp E x y H2 Q) h fun v u s2 x y H2 I2 rx ry q => ?_)
  obtain ⟨a, dx, fs, rfl, ha, h⟩ := q
  cases rx
  obtain ⟨mA, J, _⟩ := ins_get I2.hok ha
  obtain ⟨od, J, _⟩ := J.look
  obtain ⟨m, hF⟩ := I2.fr
  exact PySem.W.sub_K hF I2.ok.mod.kin J hs hf hfn (own_call1 (A := X.A.in1) rfl F hr.in1 hb hx I2 (vs := [V.ref a, y]) (.cons rfl (.cons ry .nil)) h) (hsl _ _)
/-- str(a) -/
def rStrOwn (C : Addr) (sp : Sp) (E : XK) : List V → Hp → VK → Prop := fun xs H Q => ∃ a dx fs, xs = [.ref a] ∧ H a = some (.ins C dx fs) ∧ sp [.ref a] H (fun v H' => ∃ z, v = .str z ∧ Q (.str z) H') E
theorem str_own (F : FnOk X.prog X.w X.K X.mg X.base CX k f fd ps sp) (hr : Room (k + 2) X.A) (hs : PySem.W.findIn X.K (.ref C) "__str__" = some (some (.ref f))) (hf : PySem.W.isFn X.K (.ref f) = true)
    (hb : Binds X.K fd ps []) (hx : Passes CX X E) : CallR X (.type "str") (rStrOwn C sp E) := by
  intro pins s σ H xs us Q I r hq
  obtain ⟨a, dx, fs, rfl, ha, h⟩ := hq
  obtain rfl := Vals.ref1 r
  obtain ⟨mA, J, _⟩ := ins_get I.hok ha
  obtain ⟨od, J, _⟩ := J.look
  obtain ⟨m, hF⟩ := I.fr
  refine PySem.W.kso_call hr.in1.in1.units0 I.kIn J hs hf ?_
  refine wpAny_mono (own_call1 (A := X.A.in1.in1) rfl F hr.in1.in1 hb hx I (vs := [V.ref a]) (.cons rfl .nil) h) (fun w s' z => ?_) fun _ _ e => e
  obtain ⟨v, H', I', rv, n, rfl, q⟩ := z
  obtain ⟨t, rfl⟩ := rv
  exact ⟨.str n, H', I', ⟨t, rfl⟩, q⟩
end
end Ow

set_option Elab.async false
set_option linter.all false
set_option maxRecDepth 100000
set_option maxHeartbeats 3200000
/-! v in a, v not in a, by an own __contains__ -/
namespace Ow
open PySem PySem.Spec PyProof.Rows L2
section
variable {X : Cx} {CX : CXT} {k : Nat} {f C : Addr} {fd : FuncData} {ps : List Str} {sp : Sp} {E : XK}
def rOwnIn (C : Addr) (sp : Sp) (E : XK) : R2 := fun x y H Q => ∃ a dx fs, y = .ref a ∧ H a = some (.ins C dx fs) ∧ sp [.ref a, x] H (fun v H' => ∃ t : Bool, v = .bl t ∧ Q (.bl t) H') E
def rOwnNotIn (C : Addr) (sp : Sp) (E : XK) : R2 := fun x y H Q => ∃ a dx fs, y = .ref a ∧ H a = some (.ins C dx fs) ∧ sp [.ref a, x] H (fun v H' => ∃ t : Bool, v = .bl t ∧ Q (.bl (!t)) H') E
theorem in_own (F : FnOk X.prog X.w X.K X.mg X.base CX k f fd ps sp) (hr : Room k X.A) (hs : PySem.W.findIn X.K (.ref C) "__contains__" = some (some (.ref f))) (hf : PySem.W.isFn X.K (.ref f) = true)
    (hb : Binds X.K fd ps []) (hx : Passes CX X E) : OpR X (compareOp .In) (rOwnIn C sp E) := by
  intro pins s σ H x y u v Q I rx ry hq
  obtain ⟨a, dx, fs, rfl, ha, h⟩ := hq
  cases ry
  obtain ⟨mA, J, _⟩ := ins_get I.hok ha
  obtain ⟨od, J, _⟩ := J.look
  obtain ⟨m, hF⟩ := I.fr
  refine PySem.W.in_K hF I.ok.mod.kin J hs hf (wpAny_mono (own_call F hr hb hx I (vs := [V.ref a, x]) (us := [.ref a, u]) (.cons rfl (.cons rx .nil)) h) (fun r s' hr' => ?_) fun _ _ e => e)
  obtain ⟨z, H', I', rz, t, rfl, q⟩ := hr'
  obtain rfl : r = Value.bool t := rz
  exact wpAny_truthy_bool ⟨.bl t, H', I', rfl, q⟩
theorem notIn_own (F : FnOk X.prog X.w X.K X.mg X.base CX k f fd ps sp) (hr : Room k X.A) (hs : PySem.W.findIn X.K (.ref C) "__contains__" = some (some (.ref f))) (hf : PySem.W.isFn X.K (.ref f) = true)
    (hb : Binds X.K fd ps []) (hx : Passes CX X E) : OpR X (compareOp .NotIn) (rOwnNotIn C sp E) := by
  intro pins s σ H x y u v Q I rx ry hq
  obtain ⟨a, dx, fs, rfl, ha, h⟩ := hq
  cases ry
  obtain ⟨mA, J, _⟩ := ins_get I.hok ha
  obtain ⟨od, J, _⟩ := J.look
  obtain ⟨m, hF⟩ := I.fr
  refine PySem.W.notIn_K hF I.ok.mod.kin J hs hf (wpAny_mono (own_call F hr hb hx I (vs := [V.ref a, x]) (us := [.ref a, u]) (.cons rfl (.cons rx .nil)) h) (fun r s' hr' => ?_) fun _ _ e => e)
  obtain ⟨z, H', I', rz, t, rfl, q⟩ := hr'
  obtain rfl : r = Value.bool t := rz
  exact wpAny_truthy_bool ⟨.bl (!t), H', I', rfl, q⟩
end
end Ow

set_option Elab.async false
set_option linter.all false
set_option maxRecDepth 100000
set_option maxHeartbeats 6400000
namespace K24
open PySem L2 Tx Tg Tm Da RZ
/-! ### the class of readers -/
abbrev sInit : Stmt := inClass sReader 0
abbrev sLet : Stmt := inClass sReader 1
abbrev sMov : Stmt := inClass sReader 2
abbrev sYes : Stmt := inClass sReader 3
abbrev sLed : Stmt := inClass sReader 4
abbrev sLen : Stmt := inClass sReader 8
abbrev sIn : Stmt := inClass sReader 9
abbrev sEq : Stmt := inClass sReader 10
abbrev sStr : Stmt := inClass sReader 11
abbrev sLed2 : Stmt := inClass sReader 17
/-- a reader: its letters, its moves in their order, its states with yes, how many states -/
structure Rdr where
  sg : Str
  W : List Way
  G : List Nat
  n : Nat
structure okR (r : Rdr) : Prop where
  sg : Signs r.sg
  ord : r.W.map (·.1) = cds r.sg
  W : okW r.n r.sg r.W
  G : okG r.n r.G
  few : r.G.length ≤ 60
abbrev pf (sg : Str) (d g : Addr) : List (Str × V) := [("_letters", .str sg), ("_moves", .ref d), ("_yes", .ref g)]
def RdAt (C : Addr) (H : Hp) (p : Addr) (r : Rdr) : Prop := ∃ dx d g, H p = some (.ins C dx (pf r.sg d g)) ∧ MovAt H d r.W ∧ RowAt H g r.G ∧ okR r
theorem RdAt.same {C : Addr} {H H' : Hp} {p : Addr} {r : Rdr} (s : Same H H') (h : RdAt C H p r) : RdAt C H' p r := let ⟨dx, d, g, e, m, y, ok⟩ := h; ⟨dx, d, g, s _ _ e, m.same s, s _ _ y, ok⟩
theorem RdAt.but {C c : Addr} {H H' : Hp} {p : Addr} {r : Rdr} (hc : Cup H c) (b : But c H H') (h : RdAt C H p r) : RdAt C H' p r := by
  obtain ⟨dx, d, g, e, m, y, ok⟩ := h
  have := id hc
  obtain ⟨_, _, _, ec⟩ := this
  exact ⟨dx, d, g, b _ _ (ne_of e ec (by intro z; cases z)) e, m.but hc b, RowAt.but hc b y, ok⟩
theorem RdAt.ok {C : Addr} {H : Hp} {p : Addr} {r : Rdr} (h : RdAt C H p r) : okR r := let ⟨_, _, _, _, _, _, ok⟩ := h; ok
structure WR (K : PySem.W.Frag) (mg : Str → Option Value) (C : Addr) : Prop where
  gR : mg "Reader" = some (.ref C)
  cl : Cls K C
  nL : NoAttr K C "_letters"
  nM : NoAttr K C "_moves"
  nY : NoAttr K C "_yes"
  tyR : ∀ (H : Hp) (a dx : Addr) (fs : List (Str × V)), H a = some (.ins C dx fs) → TyX K H (.ref a) (.ref C)
  iRR : PySem.W.kitOne K (.ref C) (.ref C) = some true
/-- the moves, in the order of the letters -/
def ordW (sg : Str) (W : List Way) : List Way := (cds sg).map fun c => (c, row W c)
theorem ordW_ok {n : Nat} {sg : Str} {W : List Way} (h : okW n sg W) (hs : Signs sg) : okW n sg (ordW sg W) ∧ (ordW sg W).map (·.1) = cds sg := by
  have e : (ordW sg W).map (·.1) = cds sg := by
    unfold ordW
    rw [List.map_map]
    exact List.map_id' _
  refine ⟨⟨by rw [e], fun w hw => ?_, h.one, h.most⟩, e⟩
  obtain ⟨c, hc, rfl⟩ := List.mem_map.mp hw
  obtain ⟨l, hl, h1, h2⟩ := h.has hc
  rw [show row W c = l from row_eq (h.nodup hs) hl]
  exact ⟨h1, h2⟩
theorem putK_new {kvs : List (Key × V)} {k : Key} {v : V} (h : valV kvs k = none) : putK kvs k v = kvs ++ [(k, v)] := by
  unfold putK
  have : (kvs.any fun kv => decide (kv.1 = k)) = false := by
    rw [valV_any, h]
    rfl
  rw [this]
  rfl
section
variable {P : Program} {w : World} {K : PySem.W.Frag} {mg : Str → Option Value} {base : Heap}
abbrev nInit : List Str := ["self", "letters", "moves", "yes", "letter"]
def spInit (C : Addr) : Sp := fun vs H Q _ => ∃ (x dx : Addr) (sg : Str) (d g : Addr) (W : List Way) (G : List Nat) (n : Nat), vs = [.ref x, .str sg, .ref d, .ref g] ∧ H x = some (.ins C dx []) ∧ Signs sg ∧ MovAt H d W ∧ okW n sg W ∧ RowAt H g G ∧ okG n G ∧ G.length ≤ 60 ∧
  ∀ H', But x H H' → RdAt C H' x ⟨sg, ordW sg W, G, n⟩ → Q .non H'
theorem scInit : FnScope nInit ["self", "letters", "moves", "yes"] (defScope sInit) := ⟨rfl, rfl, rfl, by decide +kernel, rfl, by decide +kernel, by decide +kernel⟩
/-- what the class calls -/
structure LowR (K : PySem.W.Frag) (mg : Str → Option Value) (fI fH fL fC fT fS fR fM fY fX : Addr) (dI dH dL dC dT dS dR dM dY dX : FuncData) : Prop where
  L : Low K mg fI fH fL fC fT dI dH dL dC dT
  DS : Df K mg "is_state" sIsState ["value", "many"] fS dS
  DR : Df K mg "is_row_of_states" sRowOk ["value", "many"] fR dR
  DM : Df K mg "are_reader_moves" sMovesOk ["letters", "value"] fM dM
  DY : Df K mg "are_yes_states" sYesOk ["value", "many"] fY dY
  DX : Df K mg "check_text" sCText ["letters", "value"] fX dX
variable {fI fH fL fC fT fS fR fM fY fX : Addr} {dI dH dL dC dT dS dR dM dY dX : FuncData}
theorem ok_init {f C : Addr} {fd : FuncData} (F : Fun K "__init__" "Reader.__init__" sInit f fd) (T : Txt K mg) (W0 : WR K mg C) (B : LowR K mg fI fH fL fC fT fS fR fM fY fX dI dH dL dC dT dS dR dM dY dX) :
    FnOk P w K mg base CX0 5 f fd ["self", "letters", "moves", "yes"] (spInit C) := by
  have GC := ok_passL (P := P) (w := w) (base := base) B.L.DC.F T B.L.DH B.L.DL
  have GM := ok_movesok (P := P) (w := w) (base := base) B.DM.F T B.L.DI B.DS B.DR
  have GY := ok_yesok (P := P) (w := w) (base := base) B.DY.F T B.L.DI B.DS
  refine F.ok scInit (fun vs H Q E h => ?_) (fun cdv A outer s H vs Q E hr h => ?_)
  · obtain ⟨x, dx, sg, d, g, W, G, n, rfl, _⟩ := h
    rfl
  · obtain ⟨x, dx, sg, d, g, W, G, n, rfl, hx, hsg, hM, ok, hG, okg, lG, q⟩ := h
    have hu := hu_of hr
    have sgl : sg.length ≤ sizeLine := Nat.le_trans (sg_len hsg).2 (by decide)
    obtain ⟨x0, hx0, mx0⟩ := sg_head hsg
    obtain ⟨kvs, ed, hw⟩ := id hM
    obtain ⟨l0, hl0, ll0, lq0⟩ := ok.has mx0
    obtain ⟨p0, g0, r0⟩ := ways_get hw (ok.nodup hsg) hl0
    refine ⟨_, (pss_cons (ps_expr (pe_call GC (hr.mono (by decide)) (by rfl) B.L.DC.m B.L.DC.F.kp B.L.DC.b .nil pass0 (pa_cons (pv 1) pa_nil)))
    (pss_cons (ps_if (pt_not (pt_val (pe_call GM (hr.mono (by decide)) (by rfl) B.DM.m B.DM.F.kp B.DM.b .nil pass0 (pa_cons (pv 1) (pa_cons (pv 2) pa_nil))))) (pss_one ps_never) pss_nil)
    (pss_cons (ps_if (pt_not (pt_val (pe_call GY (hr.mono (by decide)) (by rfl) B.DY.m B.DY.F.kp B.DY.b .nil pass0 (pa_cons (pv 3) (pa_cons (pe_callB call_len_seq (by rfl) T.len PySem.boot_len (pa_cons (pe_dget hu (pv 2) (pe_ix ix_str (pv 1) pe_int (fun _ _ => rfl)) (fun _ _ => rfl)) pa_nil)) pa_nil))))) (pss_one ps_never) pss_nil)
    (pss_cons (ps_fld (pv 0) (pv 1) rfl)
    (pss_cons (ps_fld (pv 0) (pe_dc (own := [("letter", 4)]) (g := (gName 4)) (tt := tYes) (tk := tVar 4) (tv := tDGet (tVar 2) (tVar 4)) rfl scInit.nd (pi_str (pv 1)) (blkOk_by (own := [("letter", 4)]) (N := nInit) (sc := defScope sInit) (by decide +kernel)) (fun _ _ _ _ _ => (pg_name (i := 4) scInit.nd rfl (Or.inl rfl))) (fun _ _ _ _ _ => pts_nil) (fun _ _ _ _ _ => (pv 4)) (fun _ _ _ _ _ => (pe_dget hu (pv 2) (pv 4) (fun _ _ => rfl)))) rfl)
    (pss_one (ps_fld (pv 0) (pv 3) rfl))))))), ?_⟩
    refine ⟨_, rfl, sg, rfl, hsg, fun H1 s1 => ?_⟩
    refine ⟨_, rfl, _, rfl, sg, d, W, n, rfl, hsg, hM.same s1, ok, fun H2 s2 => ⟨_, rfl, iteF ?_⟩⟩
    have s12 := s1.trans s2
    have G0 : DGet H2 d (.str (one x0)) (some (.ref p0)) := by
      have := DGet.k (k := (Sum.inr (one x0) : Key)) (s12 _ _ ed)
      rw [g0] at this
      exact this
    refine ⟨_, rfl, _, rfl, _, rfl, sg, 0, x0, rfl, rfl, sgl, atI_nat (j := 0) hx0, d, _, rfl, G0, p0, _, rfl, .inr (SqT.of (s12 _ _ r0)), ?_⟩
    rw [List.length_map, ll0]
    refine ⟨g, G, n, rfl, s12 _ _ hG, okg, Nat.le_trans ok.most (by decide), Nat.le_trans lG (by decide), fun H3 s3 => ⟨_, rfl, iteF ?_⟩⟩
    have s13 := s12.trans s3
    have hx3 := s13 _ _ hx
    refine ⟨_, rfl, _, rfl, x, C, dx, [], rfl, hx3, W0.cl, W0.nL, by decide, ?_⟩
    have kx := KeepT.upd (o := .ins C dx (putF "_letters" (V.str sg) [])) (NoT.ins hx3)
    have b3 : But x H (upd H3 x (.ins C dx (putF "_letters" (V.str sg) []))) := fun b o n e => by
      rw [upd_ne n]
      exact s13 _ _ e
    have e3 : (upd H3 x (.ins C dx (putF "_letters" (V.str sg) []))) x = some (.ins C dx [("_letters", .str sg)]) := upd_same
    have ed3 : (upd H3 x (.ins C dx (putF "_letters" (V.str sg) []))) d = some (.dK kvs) := by
      rw [upd_ne (ne_of (s13 _ _ ed) hx3 (by intro z; cases z))]
      exact s13 _ _ ed
    have hw3 : WsAt (upd H3 x (.ins C dx (putF "_letters" (V.str sg) []))) kvs W := (hw.keep (.same s13)).keep kx
    have hG3 : RowAt (upd H3 x (.ins C dx (putF "_letters" (V.str sg) []))) g G := kx _ _ (s13 _ _ hG)
    generalize upd H3 x (.ins C dx (putF "_letters" (V.str sg) [])) = H4 at b3 e3 ed3 hw3 hG3 ⊢
    refine ⟨_, rfl, sg, rfl, fun D nD => ?_⟩
    obtain ⟨okO, eO⟩ := ordW_ok ok hsg
    refine Lc.dc_text (fun i H5 => Same H4 H5 ∧ ∃ kvs', H5 D = some (.dK kvs') ∧ WsAt H5 kvs' ((ordW sg W).take i)) ⟨same_upd nD, [], upd_same, .nil⟩ ?_ ?_
    · rintro i c H5 hc ⟨s5, kvs', e5, w5⟩
      have mc := List.mem_of_getElem? hc
      have hi := (List.getElem?_eq_some_iff.mp hc).1
      have hi3 := hi
      rw [cds_len] at hi3
      obtain ⟨l, hl, ll, lq⟩ := ok.has mc
      obtain ⟨p, g1, r1⟩ := ways_get hw3 (ok.nodup hsg) hl
      have G1 : DGet H5 d (.str (one c)) (some (.ref p)) := by
        have := DGet.k (k := (Sum.inr (one c) : Key)) (s5 _ _ ed3)
        rw [g1] at this
        exact this
      have el : (ordW sg W)[i]? = some (c, row W c) := by
        unfold ordW
        rw [List.getElem?_map, hc]
        rfl
      have er : row W c = l := row_eq (ok.nodup hsg) hl
      have lw : kvs'.length = i := by
        rw [ways_len w5, List.length_take]
        have : (ordW sg W).length = (cds sg).length := List.length_map _
        omega
      have nk : c ∉ ((ordW sg W).take i).map (·.1) := by
        rw [List.map_take, eO]
        intro hm
        obtain ⟨j, hj⟩ := List.mem_iff_getElem?.mp hm
        have hj1 := (List.getElem?_eq_some_iff.mp hj).1
        rw [List.length_take] at hj1
        rw [List.getElem?_take, if_pos (by omega)] at hj
        have := (List.getElem?_inj (by omega) (sg_nodup hsg)).mp (hj.trans hc.symm)
        omega
      refine ⟨rfl, iteT (B := False) ?_⟩
      refine ⟨_, rfl, _, rfl, _, rfl, d, _, rfl, G1, kvs', Sum.inr (one c), rfl, e5, Nat.lt_of_le_of_lt (show kvs'.length ≤ 3 by have := (sg_len hsg).2; omega) (by decide), same_put s5 nD, kvs' ++ [(Sum.inr (one c), .ref p)], ?_, ?_⟩
      · rw [upd_same, putK_new (ways_none w5 nk)]
      · rw [List.take_add_one, el]
        refine each_app ((w5.keep (KeepT.upd (.dK e5)))) (.cons ⟨p, rfl, ?_⟩ .nil)
        show _ = some (HO.tup (natsV (row W c)))
        rw [er]
        exact KeepT.upd (.dK e5) _ _ (KeepT.same s5 _ _ r1)
    · rintro H5 ⟨s5, kvs', e5, w5⟩
      have lo : (ordW sg W).length = (cds sg).length := List.length_map _
      rw [List.take_of_length_le (by omega)] at w5
      have hx5 := s5 _ _ e3
      refine ⟨_, rfl, x, C, dx, _, rfl, hx5, W0.cl, W0.nM, (by show 1 < 1000; decide), ?_⟩
      have nDx : D ≠ x := fun e => by rw [e, e3] at nD; cases nD
      refine ⟨_, rfl, _, rfl, x, C, dx, _, rfl, upd_same, W0.cl, W0.nY, (by show 2 < 1000; decide), ?_⟩
      have k1 := KeepT.upd (o := .ins C dx (putF "_moves" (V.ref D) [("_letters", .str sg)])) (NoT.ins hx5)
      have k2 := KeepT.upd (o := .ins C dx (pf sg D g)) (NoT.ins (upd_same (H := H5) (a := x) (o := .ins C dx (putF "_moves" (V.ref D) [("_letters", .str sg)]))))
      refine q _ (fun b o n e => ?_) ⟨dx, D, g, upd_same, ⟨kvs', ?_, (w5.keep k1).keep k2⟩, k2 _ _ (k1 _ _ (KeepT.same s5 _ _ hG3)), hsg, eO, okO, okg, lG⟩
      · rw [upd_ne n, upd_ne n]
        exact s5 _ _ (b3 _ _ n e)
      · rw [upd_ne nDx, upd_ne nDx]
        exact e5
end
end K24

set_option Elab.async false
set_option linter.all false
set_option maxRecDepth 100000
set_option maxHeartbeats 6400000
namespace K24
open PySem L2 Tx Tg Tm Da RZ
/-! ### the moves as data -/
abbrev natsD (l : List Nat) : List PyData := l.map fun (n : Nat) => PyData.int (n : Int)
abbrev waysD (W : List Way) : List (PyData × PyData) := W.map fun w => (PyData.str (one w.1), PyData.tuple (natsD w.2))
theorem nats_dr (K : PySem.W.Frag) (H : Hp) : ∀ l : List Nat, DrAll K H (natsV l) (natsD l)
  | [] => .nil
  | n :: l => .cons (.int _) (nats_dr K H l)
theorem nats_dp (K : PySem.W.Frag) (H : Hp) : ∀ l : List Nat, DpAll K H (natsV l) (natsD l)
  | [] => .nil
  | n :: l => .cons (.int _) (nats_dp K H l)
theorem row_dr {K : PySem.W.Frag} {H : Hp} {p : Addr} {l : List Nat} (h : RowAt H p l) : Dr K H (.ref p) (.tuple (natsD l)) := .tup (SqT.of h) (nats_dr K H l)
theorem ways_dr {K : PySem.W.Frag} {H : Hp} : ∀ {kvs : List (Key × V)} {W : List Way}, WsAt H kvs W → DrKv K H kvs (waysD W)
  | _, _, .nil => .nil
  | _, _, .cons ⟨p, e, r⟩ t => by
    subst e
    exact .cons (row_dr r) (ways_dr t)
theorem mov_dr {K : PySem.W.Frag} {H : Hp} {d : Addr} {W : List Way} (h : MovAt H d W) : Dr K H (.ref d) (.dict (waysD W)) := let ⟨_, e, w⟩ := h; .dct e (ways_dr w)
theorem nats_alike : ∀ l m : List Nat, AlikeAll (natsD l) (natsD m)
  | [], _ => .nilL _
  | _ :: _, [] => .nilR _
  | a :: l, b :: m => .cons (.int _ _) (nats_alike l m)
theorem ways_alike : ∀ {W W' : List Way}, W.map (·.1) = W'.map (·.1) → AlikeKv (waysD W) (waysD W')
  | [], [], _ => .nil
  | w :: W, w' :: W', h => by
    rw [List.map_cons, List.map_cons] at h
    injection h with h1 h2
    show AlikeKv ((.str (one w.1), .tuple (natsD w.2)) :: waysD W) ((.str (one w'.1), .tuple (natsD w'.2)) :: waysD W')
    rw [h1]
    exact .cons (.tup (nats_alike _ _)) (ways_alike h2)
  | [], _ :: _, h => nomatch h
  | _ :: _, [], h => nomatch h
theorem nats_dq : ∀ l m : List Nat, dqAll (natsD l) (natsD m) = decide (l = m)
  | [], [] => rfl
  | [], _ :: _ => rfl
  | _ :: _, [] => rfl
  | a :: l, b :: m => by
    show (((a : Int) == (b : Int)) && dqAll (natsD l) (natsD m)) = _
    rw [nats_dq l m]
    by_cases h : a = b
    · subst h
      rw [beq_self_eq_true, Bool.true_and]
      exact decide_eq_decide.mpr ⟨fun e => by rw [e], fun e => by injection e⟩
    · have hb : ((a : Int) == (b : Int)) = false := beq_eq_false_iff_ne.mpr (by omega)
      rw [hb, Bool.false_and]
      exact (decide_eq_false (fun e => h (by injection e))).symm
theorem ways_dq : ∀ {W W' : List Way}, W.map (·.1) = W'.map (·.1) → dqKv (waysD W) (waysD W') = decide (W = W')
  | [], [], _ => rfl
  | w :: W, w' :: W', h => by
    rw [List.map_cons, List.map_cons] at h
    injection h with h1 h2
    show (dqAll (natsD w.2) (natsD w'.2) && dqKv (waysD W) (waysD W')) = _
    rw [nats_dq, ways_dq h2, ← Bool.decide_and]
    exact decide_eq_decide.mpr ⟨fun ⟨a, b⟩ => by rw [b, Prod.ext h1 a], fun e => by injection e with e1 e2; exact ⟨by rw [e1], e2⟩⟩
  | [], _ :: _, h => nomatch h
  | _ :: _, [], h => nomatch h
theorem nats_eqv : ∀ l m : List Nat, PyData.eqvAll (natsD l) (natsD m) = decide (l = m)
  | [], [] => rfl
  | [], _ :: _ => rfl
  | _ :: _, [] => rfl
  | a :: l, b :: m => by
    show (((a : Int) == (b : Int)) && PyData.eqvAll (natsD l) (natsD m)) = _
    rw [nats_eqv l m]
    by_cases h : a = b
    · subst h
      rw [beq_self_eq_true, Bool.true_and]
      exact decide_eq_decide.mpr ⟨fun e => by rw [e], fun e => by injection e⟩
    · have hb : ((a : Int) == (b : Int)) = false := beq_eq_false_iff_ne.mpr (by omega)
      rw [hb, Bool.false_and]
      exact (decide_eq_false (fun e => h (by injection e))).symm
theorem nats_lay : ∀ l : List Nat, PyData.canLayAll0 (natsD l) = true
  | [] => rfl
  | a :: l => by
    show ((true : Bool) && PyData.canLayAll0 (natsD l)) = true
    rw [nats_lay l]
    rfl
theorem nats_deep : ∀ l : List Nat, PyData.depthAll (natsD l) = 0
  | [] => rfl
  | a :: l => by
    show max 0 (PyData.depthAll (natsD l)) = 0
    rw [nats_deep l]
    rfl
theorem nats_shaped (l : List Nat) : SeqAt.shaped (.tuple (natsD l)) = true := by
  unfold SeqAt.shaped
  rw [Bool.and_eq_true]
  exact ⟨nats_lay l, decide_eq_true (by show PyData.depthAll (natsD l) + 1 ≤ 64; rw [nats_deep]; decide)⟩
theorem ways_deep : ∀ W : List Way, PyData.depthKv (waysD W) ≤ 1
  | [] => Nat.zero_le _
  | w :: W => by
    have := ways_deep W
    show max (max 0 (PyData.depthAll (natsD w.2) + 1)) (PyData.depthKv (waysD W)) ≤ 1
    rw [nats_deep]
    omega
theorem flat_nats (l : List Nat) : ∀ v ∈ natsV l, flatV v = true := fun v hv => by
  obtain ⟨n, _, rfl⟩ := List.mem_map.mp hv
  rfl
theorem inV_nats (q : Nat) : ∀ l : List Nat, inV (.int (q : Int)) (natsV l) = decide (q ∈ l)
  | [] => rfl
  | a :: l => by
    have ih := inV_nats q l
    show (((a : Int) == (q : Int)) || inV (.int (q : Int)) (natsV l)) = _
    rw [ih]
    by_cases h : a = q
    · subst h
      rw [beq_self_eq_true, Bool.true_or]
      exact (decide_eq_true List.mem_cons_self).symm
    · have hb : ((a : Int) == (q : Int)) = false := beq_eq_false_iff_ne.mpr (by omega)
      rw [hb, Bool.false_or]
      exact decide_eq_decide.mpr ⟨fun e => List.mem_cons_of_mem _ e, fun e => (List.mem_cons.mp e).resolve_left (fun z => h z.symm)⟩
section
variable {P : Program} {w : World} {K : PySem.W.Frag} {mg : Str → Option Value} {base : Heap} {C : Addr}
/-! ### the properties -/
def spLet (C : Addr) : Sp := fun vs H Q _ => ∃ (p : Addr) (r : Rdr), vs = [.ref p] ∧ RdAt C H p r ∧ Q (.str r.sg) H
def spMov (C : Addr) : Sp := fun vs H Q _ => ∃ (p : Addr) (r : Rdr), vs = [.ref p] ∧ RdAt C H p r ∧ ∀ d H', Same H H' → MovAt H' d r.W → Q (.ref d) H'
def spYesP (C : Addr) : Sp := fun vs H Q _ => ∃ (p : Addr) (r : Rdr), vs = [.ref p] ∧ RdAt C H p r ∧ ∀ g, RowAt H g r.G → Q (.ref g) H
theorem scLet : FnScope ["self"] ["self"] (defScope sLet) := ⟨rfl, rfl, rfl, by decide +kernel, rfl, by decide +kernel, by decide +kernel⟩
theorem scMov : FnScope ["self"] ["self"] (defScope sMov) := ⟨rfl, rfl, rfl, by decide +kernel, rfl, by decide +kernel, by decide +kernel⟩
theorem scYesP : FnScope ["self"] ["self"] (defScope sYes) := ⟨rfl, rfl, rfl, by decide +kernel, rfl, by decide +kernel, by decide +kernel⟩
theorem ok_let {f : Addr} {fd : FuncData} (F : Fun K "letters" "Reader.letters" sLet f fd) (W0 : WR K mg C) : FnOk P w K mg base CX0 1 f fd ["self"] (spLet C) := by
  refine F.ok scLet (fun vs H Q E h => ?_) (fun cdv A outer s H vs Q E hr h => ?_)
  · obtain ⟨p, r, rfl, _⟩ := h
    rfl
  · obtain ⟨p, r, rfl, ⟨dx, d, g, hp, _⟩, q⟩ := h
    refine ⟨_, (pss_one (ps_ret (pe_fld (pv 0) rfl))), ?_⟩
    exact ⟨_, rfl, p, C, dx, _, _, rfl, hp, W0.cl, W0.nL, rfl, q⟩
theorem ok_mov {f : Addr} {fd : FuncData} (F : Fun K "moves" "Reader.moves" sMov f fd) (T : Txt K mg) (W0 : WR K mg C) : FnOk P w K mg base CX0 1 f fd ["self"] (spMov C) := by
  refine F.ok scMov (fun vs H Q E h => ?_) (fun cdv A outer s H vs Q E hr h => ?_)
  · obtain ⟨p, r, rfl, _⟩ := h
    rfl
  · obtain ⟨p, r, rfl, ⟨dx, d, g, hp, ⟨kvs, ed, hw⟩, _⟩, q⟩ := h
    refine ⟨_, (pss_one (ps_ret (pe_callTy call_dictD (by rfl) T.dict (by decide +kernel) (pa_cons (pe_fld (pv 0) rfl) pa_nil)))), ?_⟩
    refine ⟨_, rfl, p, C, dx, _, _, rfl, hp, W0.cl, W0.nM, rfl, d, kvs, rfl, .inl ed, fun d' nd => ?_⟩
    have s1 := same_upd (o := .dK kvs) nd
    exact q d' _ s1 ⟨kvs, upd_same, hw.keep (.same s1)⟩
theorem ok_yesp {f : Addr} {fd : FuncData} (F : Fun K "yes" "Reader.yes" sYes f fd) (W0 : WR K mg C) : FnOk P w K mg base CX0 1 f fd ["self"] (spYesP C) := by
  refine F.ok scYesP (fun vs H Q E h => ?_) (fun cdv A outer s H vs Q E hr h => ?_)
  · obtain ⟨p, r, rfl, _⟩ := h
    rfl
  · obtain ⟨p, r, rfl, ⟨dx, d, g, hp, _, hg, _⟩, q⟩ := h
    refine ⟨_, (pss_one (ps_ret (pe_fld (pv 0) rfl))), ?_⟩
    exact ⟨_, rfl, p, C, dx, _, _, rfl, hp, W0.cl, W0.nY, rfl, q g hg⟩
/-! ### len, led -/
def spLen (C : Addr) : Sp := fun vs H Q _ => ∃ (p : Addr) (r : Rdr), vs = [.ref p] ∧ RdAt C H p r ∧ Q (.int (r.n : Int)) H
theorem scLen : FnScope ["self"] ["self"] (defScope sLen) := ⟨rfl, rfl, rfl, by decide +kernel, rfl, by decide +kernel, by decide +kernel⟩
theorem ok_len {f : Addr} {fd : FuncData} (F : Fun K "__len__" "Reader.__len__" sLen f fd) (T : Txt K mg) (W0 : WR K mg C) : FnOk P w K mg base CX0 1 f fd ["self"] (spLen C) := by
  refine F.ok scLen (fun vs H Q E h => ?_) (fun cdv A outer s H vs Q E hr h => ?_)
  · obtain ⟨p, r, rfl, _⟩ := h
    rfl
  · obtain ⟨p, r, rfl, ⟨dx, d, g, hp, ⟨kvs, ed, hw⟩, _, ok⟩, q⟩ := h
    have hu := hu_of hr
    have sgl : r.sg.length ≤ sizeLine := Nat.le_trans (sg_len ok.sg).2 (by decide)
    obtain ⟨x0, hx0, mx0⟩ := sg_head ok.sg
    obtain ⟨l0, hl0, ll0, lq0⟩ := ok.W.has mx0
    obtain ⟨p0, g0, r0⟩ := ways_get hw (ok.W.nodup ok.sg) hl0
    have G0 : DGet H d (.str (one x0)) (some (.ref p0)) := by
      have := DGet.k (k := (Sum.inr (one x0) : Key)) ed
      rw [g0] at this
      exact this
    refine ⟨_, (pss_one (ps_ret (pe_callB call_len_seq (by rfl) T.len PySem.boot_len (pa_cons (pe_dget hu (pe_fld (pv 0) rfl) (pe_ix ix_str (pe_fld (pv 0) rfl) pe_int (fun _ _ => rfl)) (fun _ _ => rfl)) pa_nil)))), ?_⟩
    refine ⟨_, rfl, p, C, dx, _, _, rfl, hp, W0.cl, W0.nM, rfl, _, rfl, p, C, dx, _, _, rfl, hp, W0.cl, W0.nL, rfl, r.sg, 0, x0, rfl, rfl, sgl, atI_nat (j := 0) hx0, d, _, rfl, G0, p0, _, rfl, .inr (SqT.of r0), ?_⟩
    rw [List.length_map, ll0]
    exact q
abbrev nLed2 : List Str := ["self", "state", "text", "led", "letter"]
def spLed2 (C : Addr) : Sp := fun vs H Q _ => ∃ (p : Addr) (r : Rdr) (q : Nat) (z : Str), vs = [.ref p, .int (q : Int), .str z] ∧ RdAt C H p r ∧ q < r.n ∧ Over r.sg z ∧ (run r.W q (cds z) < r.n → Q (.int (run r.W q (cds z) : Int)) H)
theorem scLed2 : FnScope nLed2 ["self", "state", "text"] (defScope sLed2) := ⟨rfl, rfl, rfl, by decide +kernel, rfl, by decide +kernel, by decide +kernel⟩
theorem run_snoc (W : List Way) (q : Nat) (l : List Nat) (c : Nat) : run W q (l ++ [c]) = step W (run W q l) c := List.foldl_append ..
theorem ok_led2 {f : Addr} {fd : FuncData} (F : Fun K "_led" "Reader._led" sLed2 f fd) (W0 : WR K mg C) : FnOk P w K mg base CX0 1 f fd ["self", "state", "text"] (spLed2 C) := by
  refine F.ok scLed2 (fun vs H Q E h => ?_) (fun cdv A outer s H vs Q E hr h => ?_)
  · obtain ⟨p, r, q, z, rfl, _⟩ := h
    rfl
  · obtain ⟨p, r, q, z, rfl, ⟨dx, d, g, hp, ⟨kvs, ed, hw⟩, _, ok⟩, hq, hz, qq⟩ := h
    have hu := hu_of hr
    refine ⟨_, (pss_cons (ps_set (i := 3) scLed2.nd rfl (Or.inl rfl) (pv 1))
    (pss_cons (ps_for PassesOwn.never rfl (pi_str (pv 2)) (pg_name (i := 4) scLed2.nd rfl (Or.inl rfl))
      (pss_one (ps_set (i := 3) scLed2.nd rfl (Or.inl rfl) (pe_ix ix_tup (pe_dget hu (pe_fld (pv 0) rfl) (pv 4) (fun _ _ => rfl)) (pv 3) (fun _ _ => rfl)))))
    (pss_one (ps_ret (pv 3))))), ?_⟩
    refine ⟨_, rfl, _, rfl, z, rfl, ?_⟩
    refine Lc.for_text (fun i σ H1 => ∃ t4 : Option V, σ = [some (.ref p), some (.int (q : Int)), some (.str z), some (.int (run r.W q ((cds z).take i) : Int)), t4] ∧ H1 = H ∧ run r.W q ((cds z).take i) < r.n) ⟨none, rfl, rfl, hq⟩ ?_ ?_
    · rintro i c σ H1 hc ⟨t4, rfl, rfl, hlt⟩
      obtain ⟨p1, l1, g1, r1, a1, b1⟩ := step_at ok.W ok.sg hw (hz c (List.mem_of_getElem? hc)) hlt
      have G1 : DGet H1 d (.str (one c)) (some (.ref p1)) := by
        have := DGet.k (k := (Sum.inr (one c) : Key)) ed
        rw [g1] at this
        exact this
      have e : run r.W q ((cds z).take (i + 1)) = step r.W (run r.W q ((cds z).take i)) c := by
        rw [List.take_add_one, hc]
        exact run_snoc ..
      refine ⟨_, rfl, p, C, dx, _, _, rfl, hp, W0.cl, W0.nM, rfl, _, rfl, d, _, rfl, G1, _, rfl, p1, _, _, _, rfl, rfl, SqT.of r1, atI_nat a1, some (.str (one c)), ?_, rfl, by rw [e]; exact b1⟩
      rw [e]
      rfl
    · rintro σ H1 ⟨t4, rfl, rfl, hlt⟩
      rw [List.take_of_length_le (Nat.le_refl _)] at hlt ⊢
      exact ⟨_, rfl, qq hlt⟩
end
end K24

set_option Elab.async false
set_option linter.all false
set_option maxRecDepth 100000
set_option maxHeartbeats 6400000
namespace K24
open PySem L2 Tx Tg Tm Da RZ
structure LenR (P : Program) (w : World) (K : PySem.W.Frag) (mg : Str → Option Value) (base : Heap) (C f : Addr) (d : FuncData) : Prop where
  g : FnOk P w K mg base CX0 1 f d ["self"] (spLen C)
  b : Binds K d ["self"] []
  s : PySem.W.findIn K (.ref C) "__len__" = some (some (.ref f))
  fn : PySem.W.isFn K (.ref f) = true
structure LedR (P : Program) (w : World) (K : PySem.W.Frag) (mg : Str → Option Value) (base : Heap) (C f : Addr) (d : FuncData) : Prop where
  g : FnOk P w K mg base CX0 1 f d ["self", "state", "text"] (spLed2 C)
  b : Binds K d ["self", "state", "text"] []
  m : Meth K C "_led" f
section
variable {P : Program} {w : World} {K : PySem.W.Frag} {mg : Str → Option Value} {base : Heap} {C : Addr} {fI fH fL fC fT fS fR fM fY fX fN fD : Addr} {dI dH dL dC dT dS dR dM dY dX dN dD : FuncData}
theorem run_lt {r : Rdr} (ok : okR r) : ∀ {l : List Nat} {q : Nat}, q < r.n → (∀ c ∈ l, c ∈ cds r.sg) → run r.W q l < r.n
  | [], _, hq, _ => hq
  | c :: l, q, hq, h => by
    obtain ⟨x, hx, h1, h2⟩ := ok.W.has (h c List.mem_cons_self)
    have er := row_eq (ok.W.nodup ok.sg) hx
    refine run_lt ok (l := l) (q := step r.W q c) ?_ fun c hc => h c (List.mem_cons_of_mem _ hc)
    unfold step
    rw [er, List.getD_eq_getElem?_getD, List.getElem?_eq_getElem (by omega)]
    exact h2 _ (List.getElem_mem _)
def spLed (C : Addr) : Sp := fun vs H Q _ => ∃ (p : Addr) (r : Rdr) (q : Nat) (z : Str), vs = [.ref p, .int (q : Int), .str z] ∧ RdAt C H p r ∧ q < r.n ∧ Over r.sg z ∧ z.length ≤ 100 ∧ ∀ H', Same H H' → Q (.int (run r.W q (cds z) : Int)) H'
theorem scLed : FnScope ["self", "state", "text"] ["self", "state", "text"] (defScope sLed) := ⟨rfl, rfl, rfl, by decide +kernel, rfl, by decide +kernel, by decide +kernel⟩
theorem ok_led {f : Addr} {fd : FuncData} (F : Fun K "led" "Reader.led" sLed f fd) (T : Txt K mg) (W0 : WR K mg C) (B : LowR K mg fI fH fL fC fT fS fR fM fY fX dI dH dL dC dT dS dR dM dY dX) (N : LenR P w K mg base C fN dN) (L2' : LedR P w K mg base C fD dD) :
    FnOk P w K mg base CX0 6 f fd ["self", "state", "text"] (spLed C) := by
  have GS := ok_isstate (P := P) (w := w) (base := base) B.DS.F T B.L.DI
  have GX := ok_ctext (P := P) (w := w) (base := base) B.DX.F T B.L
  refine F.ok scLed (fun vs H Q E h => ?_) (fun cdv A outer s H vs Q E hr h => ?_)
  · obtain ⟨p, r, q, z, rfl, _⟩ := h
    rfl
  · obtain ⟨p, r, q, z, rfl, hP, hq, hz, lz, qq⟩ := h
    refine ⟨_, (pss_cons (ps_if (pt_not (pt_val (pe_call GS (hr.mono (by decide)) (by rfl) B.DS.m B.DS.F.kp B.DS.b .nil pass0 (pa_cons (pv 1) (pa_cons (pe_callB (Ow.len_own N.g (hr.mono (by decide)) N.s N.fn N.b pass0) (by rfl) T.len PySem.boot_len (pa_cons (pv 0) pa_nil)) pa_nil))))) (pss_one ps_never) pss_nil)
    (pss_cons (ps_expr (pe_call GX (hr.mono (by decide)) (by rfl) B.DX.m B.DX.F.kp B.DX.b .nil pass0 (pa_cons (pe_fld (pv 0) rfl) (pa_cons (pv 2) pa_nil))))
    (pss_one (ps_ret (pe_meth (pv 0) W0.cl L2'.m L2'.g (hr.mono (by decide)) L2'.b .nil pass0 (pa_cons (pv 1) (pa_cons (pv 2) pa_nil))))))), ?_⟩
    obtain ⟨dx, d, g, hp, _⟩ := id hP
    refine ⟨_, rfl, _, rfl, p, dx, _, rfl, hp, p, r, rfl, hP, _, rfl, by omega, by have := hP.ok.W.most; omega, q, r.n, rfl, hq, Nat.le_trans hP.ok.W.most (by decide), _, rfl, iteF ?_⟩
    refine ⟨_, rfl, p, C, dx, _, _, rfl, hp, W0.cl, W0.nL, rfl, _, rfl, r.sg, z, rfl, hP.ok.sg, hz, lz, fun H1 s1 => ?_⟩
    exact ⟨_, rfl, p, dx, _, rfl, s1 _ _ hp, rfl, _, rfl, _, rfl, p, r, q, z, rfl, hP.same s1, hq, hz, fun _ => qq H1 s1⟩
def yesOf (r : Rdr) : PyData → Bool
  | .str z => decide (run r.W 0 (cds z) ∈ r.G)
  | _ => false
def spIn (C : Addr) : Sp := fun vs H Q _ => ∃ (p : Addr) (r : Rdr) (v : V) (d : PyData), vs = [.ref p, v] ∧ RdAt C H p r ∧ Val H v d ∧ Ok d ∧ Q (.bl (has r.sg 4000 d && yesOf r d)) H
theorem scIn : FnScope ["self", "value"] ["self", "value"] (defScope sIn) := ⟨rfl, rfl, rfl, by decide +kernel, rfl, by decide +kernel, by decide +kernel⟩
theorem ok_in {f : Addr} {fd : FuncData} (F : Fun K "__contains__" "Reader.__contains__" sIn f fd) (T : Txt K mg) (W0 : WR K mg C) (B : LowR K mg fI fH fL fC fT fS fR fM fY fX dI dH dL dC dT dS dR dM dY dX) (L2' : LedR P w K mg base C fD dD) :
    FnOk P w K mg base CX0 2 f fd ["self", "value"] (spIn C) := by
  have GH := ok_has (P := P) (w := w) (base := base) B.L.DH.F T
  refine F.ok scIn (fun vs H Q E h => ?_) (fun cdv A outer s H vs Q E hr h => ?_)
  · obtain ⟨p, r, v, d, rfl, _⟩ := h
    rfl
  · obtain ⟨p, r, v, d, rfl, hP, hv, hd, q⟩ := h
    obtain ⟨tn, hn⟩ := T.mText
    refine ⟨_, (pss_one (ps_ret (pe_and (pe_call GH (hr.mono (by decide)) (by rfl) B.L.DH.m B.L.DH.F.kp B.L.DH.b .nil pass0 (pa_cons (pv 1) (pa_cons (pe_fld (pv 0) rfl) (pa_cons (pe_glob (v := .int 4000) rfl hn ⟨_, rfl⟩) pa_nil)))) (pe_one (pe_cmpR op_in_seq (pe_meth (pv 0) W0.cl L2'.m L2'.g (hr.mono (by decide)) L2'.b .nil pass0 (pa_cons pe_int (pa_cons (pv 1) pa_nil))) (pe_fld (pv 0) rfl) (by rfl)))))), ?_⟩
    obtain ⟨dx, d', g, hp, hm, hg, ok⟩ := id hP
    refine ⟨_, rfl, _, rfl, p, C, dx, _, _, rfl, hp, W0.cl, W0.nL, rfl, v, d, r.sg, 4000, rfl, hv, hd, _, rfl, ?_⟩
    cases hh : has r.sg 4000 d with
    | false =>
      rw [hh, Bool.false_and] at q
      exact iteF q
    | true =>
      rw [hh, Bool.true_and] at q
      refine iteT ?_
      cases hv with
      | str z =>
        have ho : Over r.sg z := by
          have hh : (decide (z.length ≤ 4000) && only z r.sg) = true := hh
          rw [Bool.and_eq_true] at hh
          exact only_iff.mp hh.2
        refine ⟨_, rfl, p, dx, _, rfl, hp, rfl, _, rfl, p, r, 0, z, rfl, hP, ok.W.one, ho, fun hlt => ?_⟩
        refine ⟨_, rfl, p, C, dx, _, _, rfl, hp, W0.cl, W0.nY, rfl, g, natsV r.G, rfl, .inr (SqT.of hg), rfl, List.all_eq_true.mpr (flat_nats r.G), ?_⟩
        have e : (if false = true then !inV (V.int (run r.W 0 (cds z) : Int)) (natsV r.G) else inV (V.int (run r.W 0 (cds z) : Int)) (natsV r.G)) = yesOf r (.str z) := inV_nats _ _
        rw [e]
        exact q
      | _ => cases hh
/-- two readers are one -/
def reqB (r r' : Rdr) : Bool := decide (r.sg = r'.sg ∧ r.W = r'.W ∧ r.G = r'.G)
def spEq (C : Addr) : Sp := fun vs H Q _ => ∃ (p o : Addr) (r r' : Rdr), vs = [.ref p, .ref o] ∧ RdAt C H p r ∧ RdAt C H o r' ∧ Q (.bl (reqB r r')) H
theorem scEq : FnScope ["self", "other"] ["self", "other"] (defScope sEq) := ⟨rfl, rfl, rfl, by decide +kernel, rfl, by decide +kernel, by decide +kernel⟩
theorem ok_eq {f : Addr} {fd : FuncData} (F : Fun K "__eq__" "Reader.__eq__" sEq f fd) (T : Txt K mg) (W0 : WR K mg C) : FnOk P w K mg base CX0 1 f fd ["self", "other"] (spEq C) := by
  refine F.ok scEq (fun vs H Q E h => ?_) (fun cdv A outer s H vs Q E hr h => ?_)
  · obtain ⟨p, o, r, r', rfl, _⟩ := h
    rfl
  · obtain ⟨p, o, r, r', rfl, hP, hO, q⟩ := h
    obtain ⟨dx, d, g, hp, hm, hg, ok⟩ := id hP
    obtain ⟨dy, d', g', ho, hm', hg', ok'⟩ := id hO
    refine ⟨_, (pss_one (ps_ret (pe_and (pe_callB call_isi (by rfl) T.isi (by decide +kernel) (pa_cons (pv 1) (pa_cons (pe_glob (v := .ref C) (by rfl) W0.gR rfl) pa_nil))) (pe_and (pe_cmpR op_eq (pe_fld (pv 0) rfl) (pe_fld (pv 1) rfl) (nomark _)) (pe_and (pe_cmpR (Da.op_eqK hr.units) (pe_fld (pv 0) rfl) (pe_fld (pv 1) rfl) (nomark _)) (pe_one (pe_cmpR (op_eqD hr.units) (pe_fld (pv 0) rfl) (pe_fld (pv 1) rfl) (nomark _)))))))), ?_⟩
    refine ⟨_, rfl, _, _, _, _, _, rfl, .own C, W0.tyR _ _ _ _ ho, W0.iRR, true, rfl, iteT ?_⟩
    refine ⟨_, rfl, p, C, dx, _, _, rfl, hp, W0.cl, W0.nL, rfl, _, rfl, o, C, dy, _, _, rfl, ho, W0.cl, W0.nL, rfl, rfl, _, rfl, ?_⟩
    have dl : decide (V.str r.sg = V.str r'.sg) = decide (r.sg = r'.sg) := decide_eq_decide.mpr ⟨fun e => by injection e, fun e => by rw [e]⟩
    rw [dl]
    by_cases e1 : r.sg = r'.sg
    · rw [decide_eq_true e1]
      refine iteT ?_
      have ek : r.W.map (·.1) = r'.W.map (·.1) := by rw [ok.ord, ok'.ord, e1]
      refine ⟨_, rfl, p, C, dx, _, _, rfl, hp, W0.cl, W0.nM, rfl, _, rfl, o, C, dy, _, _, rfl, ho, W0.cl, W0.nM, rfl, waysD r.W, waysD r'.W, mov_dr hm, mov_dr hm', ways_alike ek, Nat.le_trans (ways_deep _) (by decide), _, rfl, ?_⟩
      rw [ways_dq ek]
      by_cases e2 : r.W = r'.W
      · rw [decide_eq_true e2]
        refine iteT ?_
        refine ⟨_, rfl, p, C, dx, _, _, rfl, hp, W0.cl, W0.nY, rfl, _, rfl, o, C, dy, _, _, rfl, ho, W0.cl, W0.nY, rfl, .tuple (natsD r.G), .tuple (natsD r'.G), .tup (SqT.of hg) (nats_dp _ _ _), .tup (SqT.of hg') (nats_dp _ _ _), nats_shaped _, nats_shaped _, ?_⟩
        have e3 : PyData.eqv (.tuple (natsD r.G)) (.tuple (natsD r'.G)) = reqB r r' := (nats_eqv _ _).trans (decide_eq_decide.mpr ⟨fun e => ⟨e1, e2, e⟩, fun e => e.2.2⟩)
        rw [e3]
        exact q
      · rw [decide_eq_false e2]
        rw [show reqB r r' = false from decide_eq_false fun e => e2 e.2.1] at q
        exact iteF q
    · rw [decide_eq_false e1]
      rw [show reqB r r' = false from decide_eq_false fun e => e1 e.1] at q
      exact iteF q
def spEqX (K : PySem.W.Frag) (C : Addr) : Sp := fun vs H Q _ => ∃ (p : Addr) (v : V) (t : Value), vs = [.ref p, v] ∧ TyX K H v t ∧ PySem.W.kitOne K t (.ref C) = some false ∧ Q (.bl false) H
theorem ok_eqX {f : Addr} {fd : FuncData} (F : Fun K "__eq__" "Reader.__eq__" sEq f fd) (T : Txt K mg) (W0 : WR K mg C) : FnOk P w K mg base CX0 1 f fd ["self", "other"] (spEqX K C) := by
  refine F.ok scEq (fun vs H Q E h => ?_) (fun cdv A outer s H vs Q E hr h => ?_)
  · obtain ⟨p, v, t, rfl, _⟩ := h
    rfl
  · obtain ⟨p, v, t, rfl, ty, k, q⟩ := h
    refine ⟨_, (pss_one (ps_ret (pe_and (pe_callB call_isi (by rfl) T.isi (by decide +kernel) (pa_cons (pv 1) (pa_cons (pe_glob (v := .ref C) (by rfl) W0.gR rfl) pa_nil))) (pe_and (pe_cmpR op_eq (pe_fld (pv 0) rfl) (pe_fld (pv 1) rfl) (nomark _)) (pe_and (pe_cmpR (Da.op_eqK hr.units) (pe_fld (pv 0) rfl) (pe_fld (pv 1) rfl) (nomark _)) (pe_one (pe_cmpR (op_eqD hr.units) (pe_fld (pv 0) rfl) (pe_fld (pv 1) rfl) (nomark _)))))))), ?_⟩
    exact ⟨_, rfl, _, _, _, _, _, rfl, .own C, ty, k, false, rfl, iteF q⟩
def toldR (n : Nat) (sg : Str) : Str := (("reader of " : Str) ++ ((toString (n : Int) : String) : Str) ++ (" states over " : Str)) ++ sg
def spStr (C : Addr) : Sp := fun vs H Q _ => ∃ (p : Addr) (r : Rdr), vs = [.ref p] ∧ RdAt C H p r ∧ Q (.str (toldR r.n r.sg)) H
theorem scStr : FnScope ["self"] ["self"] (defScope sStr) := ⟨rfl, rfl, rfl, by decide +kernel, rfl, by decide +kernel, by decide +kernel⟩
theorem small_text : ∀ n < 61, ((toString ((n : Nat) : Int) : String) : Str).length ≤ 10 ∧ ((n : Nat) : Int).natAbs.log2 < 1920 := by decide +kernel
theorem ok_str {f : Addr} {fd : FuncData} (F : Fun K "__str__" "Reader.__str__" sStr f fd) (T : Txt K mg) (W0 : WR K mg C) (N : LenR P w K mg base C fN dN) : FnOk P w K mg base CX0 3 f fd ["self"] (spStr C) := by
  refine F.ok scStr (fun vs H Q E h => ?_) (fun cdv A outer s H vs Q E hr h => ?_)
  · obtain ⟨p, r, rfl, _⟩ := h
    rfl
  · obtain ⟨p, r, rfl, hP, q⟩ := h
    obtain ⟨dx, d, g, hp, hm, hg, ok⟩ := id hP
    refine ⟨_, (pss_one (ps_ret (pe_joined (.cons pe_str (.cons (pe_fmt (pe_callB (Ow.len_own N.g (hr.mono (by decide)) N.s N.fn N.b pass0) (by rfl) T.len PySem.boot_len (pa_cons (pv 0) pa_nil))) (.cons pe_str (.cons (pe_fmt (pe_fld (pv 0) rfl)) .nil))))))), ?_⟩
    have st := small_text r.n (by have := ok.W.most; omega)
    have sl := (sg_len ok.sg).2
    have l1 : ("reader of " : Str).length = 10 := by decide +kernel
    have l2 : (" states over " : Str).length = 13 := by decide +kernel
    have le : (Str.empty : Str).length = 0 := rfl
    refine ⟨_, rfl, ?_, _, rfl, p, dx, _, rfl, hp, p, r, rfl, hP, _, rfl, by omega, by have := ok.W.most; omega, .inr ⟨_, rfl, st.2, _, rfl, ?_, _, rfl, ?_, _, rfl, p, C, dx, _, _, rfl, hp, W0.cl, W0.nL, rfl, .inl ⟨r.sg, rfl, ?_, r.sg, rfl, ?_, ?_⟩⟩⟩
    · rw [str_len, le, l1]
      decide
    · rw [str_len, str_len, le, l1]
      exact Nat.le_trans (show _ ≤ 100 by omega) (by decide)
    · rw [str_len, str_len, str_len, le, l1, l2]
      exact Nat.le_trans (show _ ≤ 100 by omega) (by decide)
    · exact Nat.le_trans sl (by decide)
    · rw [str_len, str_len, str_len, str_len, le, l1, l2]
      exact Nat.le_trans (show _ ≤ 100 by omega) (by decide)
    · rw [empty_app]
      exact q
end
end K24

set_option Elab.async false
set_option linter.all false
set_option maxRecDepth 100000
set_option maxHeartbeats 6400000
namespace K24
open PySem L2 Tx Tg Tm Da RZ
theorem perm_map {α β : Type} {f : α → β} {ys m : List β} (h : ys.Perm m) : ∀ l : List α, m = l.map f → ∃ t : List α, ys = t.map f ∧ t.Perm l := by
  induction h with
  | nil =>
    intro l e
    exact ⟨[], rfl, by rw [List.map_eq_nil_iff.mp e.symm]⟩
  | cons x _ ih =>
    intro l e
    cases l with
    | nil => cases e
    | cons a l =>
      rw [List.map_cons] at e
      injection e with e1 e2
      obtain ⟨t, h1, h2⟩ := ih l e2
      exact ⟨a :: t, by rw [List.map_cons, e1, h1], h2.cons a⟩
  | swap x y l' =>
    intro l e
    match l, e with
    | a :: b :: l, e =>
      rw [List.map_cons, List.map_cons] at e
      injection e with e1 e2
      injection e2 with e2 e3
      exact ⟨b :: a :: l, by rw [List.map_cons, List.map_cons, e1, e2, e3], .swap _ _ _⟩
  | trans _ _ ih1 ih2 =>
    intro l e
    obtain ⟨t, h1, h2⟩ := ih2 l e
    obtain ⟨u, h3, h4⟩ := ih1 t h1
    exact ⟨u, h3, h4.trans h2⟩
theorem erase_map {α β : Type} (f : α → β) : ∀ (l : List α) (r : Nat), (l.map f).eraseIdx r = (l.eraseIdx r).map f
  | [], _ => rfl
  | _ :: _, 0 => rfl
  | a :: l, r + 1 => by
    show f a :: (l.map f).eraseIdx r = f a :: (l.eraseIdx r).map f
    rw [erase_map f l r]
theorem erase_perm {α : Type} : ∀ (l : List α) (r : Nat) (h : r < l.length), (l[r] :: l.eraseIdx r).Perm l
  | [], _, h => absurd h (Nat.not_lt_zero _)
  | _ :: _, 0, _ => List.Perm.refl _
  | a :: l, r + 1, h => (List.Perm.swap _ _ _).trans ((erase_perm l r (Nat.lt_of_succ_lt_succ h)).cons a)
theorem idx_nat {r n : Nat} (h : r < n) : seqIndex? (r : Int) n = some r := by
  unfold seqIndex?
  have h0 : ¬ ((r : Int) < 0) := by omega
  simp only [h0, if_false]
  have h1 : (0 : Int) ≤ (r : Int) ∧ (r : Int) < (n : Int) := by omega
  simp [h1.2]
  try omega

section
variable {P : Program} {w : World} {K : PySem.W.Frag} {mg : Str → Option Value} {base : Heap}
abbrev nDealt : List Str := ["_law_cup_here", "_law_items", "_law_waits", "_law_turn"]
def spDealtL : Sp := fun vs H Q _ => ∃ (c a : Addr) (xs : List V), vs = [.ref c, .ref a] ∧ Cup H c ∧ H a = some (.lst xs) ∧ a ≠ c ∧ xs.length ≤ 60 ∧ ∀ p H' ys, Cup H' c → But c H H' → H p = none → H' p = some (.lst ys) → ys.Perm xs → Q (.ref p) H'
def spDealtS : Sp := fun vs H Q _ => ∃ (c : Addr) (z : Str), vs = [.ref c, .str z] ∧ Cup H c ∧ z.length ≤ 60 ∧ ∀ p H' ys, Cup H' c → But c H H' → H p = none → H' p = some (.lst ys) → ys.Perm (ones (cds z)) → Q (.ref p) H'
theorem scDealt : FnScope nDealt ["_law_cup_here", "_law_items"] (defScope sDealt) := ⟨rfl, rfl, rfl, by decide +kernel, rfl, by decide +kernel, by decide +kernel⟩
theorem ok_dealtL {f fB : Addr} {fd dB : FuncData} (F : Fun K "_law_dealt" "_law_dealt" sDealt f fd) (T : Txt K mg) (DB : Df K mg "_law_bit" sBit ["_law_cup_here", "_law_much"] fB dB) : FnOk P w K mg base CX0 2 f fd ["_law_cup_here", "_law_items"] spDealtL := by
  have GB := ok_bit (P := P) (w := w) (base := base) DB.F T
  refine F.ok scDealt (fun vs H Q E h => ?_) (fun cdv A outer s H vs Q E hr h => ?_)
  · obtain ⟨c, a, xs, rfl, _⟩ := h
    rfl
  · obtain ⟨c, a, xs, rfl, hc, ha, nac, n9, q⟩ := h
    refine ⟨_, (pss_cons (ps_set (i := 2) scDealt.nd rfl (Or.inr rfl) (pe_callTy call_list_of (by rfl) T.list (by decide +kernel) (pa_cons (pv 1) pa_nil)))
    (pss_one (ps_ret (pe_lc (own := [("_law_turn", 3)]) (g := (gName 3)) (tt := tYes) (te := tBM K "list" rPopAt (tVar 2) (tCons (tCall spBit [] E0 (tCons (tVar 0) (tCons (tCB (fun xs H Q => ∃ p ys, xs = [.ref p] ∧ (SqL K H p ys ∨ SqT K H p ys) ∧ Q (.int ys.length) H) (tCons (tVar 2) tNil)) tNil))) tNil)) rfl scDealt.nd (pi_range1 rfl T.range (pa_cons (pe_callB call_len_seq (by rfl) T.len PySem.boot_len (pa_cons (pv 1) pa_nil)) pa_nil)) (blkOk_by (own := [("_law_turn", 3)]) (N := nDealt) (sc := defScope sDealt) (by decide +kernel)) (fun _ _ _ _ _ => (pg_name (i := 3) scDealt.nd rfl (Or.inl rfl))) (fun _ _ _ _ _ => pts_nil) (fun _ _ _ _ _ => (pe_bm PySem.F.plainAttrs_list PySem.F.slot_list_pop PySem.F.type_list_pop mt_popAt (pv 2) (pa_cons (pe_call GB (hr.mono (by decide)) (by rfl) DB.m DB.F.kp DB.b .nil pass0 (pa_cons (pv 0) (pa_cons (pe_callB call_len_seq (by rfl) T.len PySem.boot_len (pa_cons (pv 2) pa_nil)) pa_nil))) pa_nil))))))), ?_⟩
    refine ⟨_, rfl, a, _, rfl, .inl (SqL.of ha), fun W nW => ?_⟩
    have xl : (xs : List V).length ≤ 60 := n9
    have sW := same_upd (o := .lst xs) nW
    have eW : (upd H W (.lst xs)) W = some (.lst xs) := upd_same
    have nWc : W ≠ c := hc.ne nW
    have hc1 := hc.same sW
    have ha1 := sW _ _ ha
    have hf1 : ∀ b, b ≠ W → H b = none → (upd H W (.lst xs)) b = none := fun b hb e => by rw [upd_ne hb]; exact e
    have nW0 := nW
    generalize upd H W (.lst xs) = H1 at sW eW hc1 ha1 hf1 ⊢
    refine ⟨_, rfl, a, _, rfl, .inl (SqL.of ha1), _, rfl, by omega, by omega, fun D nD => ?_⟩
    have nDc : D ≠ c := hc1.ne nD
    have nDW : D ≠ W := (ne_of_none eW nD).symm
    have nD0 : H D = none := free_none sW nD
    have en : ((xs.length : Nat) : Int).toNat = xs.length := by omega
    rw [en]
    refine lc_range (lo := 0) (n := (xs : List V).length) (fun i H2 => ∃ got left : List V, H2 D = some (.lst got) ∧ H2 W = some (.lst left) ∧ got.length = i ∧ (got ++ left).Perm xs ∧ Cup H2 c ∧ But c H H2)
      ⟨[], xs, upd_same, by rw [upd_ne nDW.symm]; exact eW, rfl, List.Perm.refl _, hc1.same (same_upd nD), But.of (sW.trans (same_upd nD))⟩ ?_ ?_
    · rintro i H2 hi ⟨got, left, eD, eW2, hg, hp, hc2, b2⟩
      have hl : left.length = (xs : List V).length - i := by
        have := hp.length_eq
        rw [List.length_append] at this
        omega
      refine ⟨rfl, iteT (B := False) ?_⟩
      refine ⟨_, rfl, .inl ⟨rfl, _, SqL.of eW2⟩, _, rfl, _, rfl, W, _, rfl, .inl (SqL.of eW2), c, _, rfl, hc2, by omega, ?_, fun r H3 r0 rm hc3 b3 => ?_⟩
      · exact small9000 (by omega) (by omega)
      · obtain ⟨r, rfl⟩ : ∃ k : Nat, r = (k : Int) := ⟨r.toNat, by omega⟩
        have hrl2 : r < left.length := by omega
        have eD3 := b3 _ _ nDc eD
        have eW3 := b3 _ _ nWc eW2
        refine ⟨W, _, (r : Int), r, _, rfl, rfl, eW3, by omega, by omega, idx_nat hrl2, List.getElem?_eq_getElem hrl2, ?_⟩
        refine ⟨got, by rw [upd_ne nDW]; exact eD3, ?_, got ++ [left[r]], left.eraseIdx r, upd_same, ?_, ?_, ?_, ?_, ?_⟩
        · rw [hg]
          exact Nat.lt_of_le_of_lt (show _ ≤ 60 by omega) (by decide)
        · rw [upd_ne nDW.symm, upd_same]
        · rw [List.length_append, hg]
          rfl
        · rw [List.append_assoc]
          exact (List.Perm.append_left got (erase_perm left r hrl2)).trans hp
        · obtain ⟨c0, c1, c2, ec⟩ := hc3
          exact ⟨c0, c1, c2, by rw [upd_ne nDc.symm, upd_ne nWc.symm]; exact ec⟩
        · intro b o n' e
          rw [upd_ne (ne_of_none e nD0), upd_ne (ne_of_none e nW0)]
          exact b3 _ _ n' (b2 _ _ n' e)
    · rintro H2 ⟨got, left, eD, eW2, hg, hp, hc2, b2⟩
      have hl : left = [] := by
        have := hp.length_eq
        rw [List.length_append] at this
        exact List.length_eq_zero_iff.mp (by omega)
      rw [hl, List.append_nil] at hp
      exact q D H2 got hc2 b2 nD0 eD hp

theorem ok_dealtS {f fB : Addr} {fd dB : FuncData} (F : Fun K "_law_dealt" "_law_dealt" sDealt f fd) (T : Txt K mg) (DB : Df K mg "_law_bit" sBit ["_law_cup_here", "_law_much"] fB dB) : FnOk P w K mg base CX0 2 f fd ["_law_cup_here", "_law_items"] spDealtS := by
  have GB := ok_bit (P := P) (w := w) (base := base) DB.F T
  refine F.ok scDealt (fun vs H Q E h => ?_) (fun cdv A outer s H vs Q E hr h => ?_)
  · obtain ⟨c, z, rfl, _⟩ := h
    rfl
  · obtain ⟨c, z, rfl, hc, n9, q⟩ := h
    refine ⟨_, (pss_cons (ps_set (i := 2) scDealt.nd rfl (Or.inr rfl) (pe_callTy (cr_listTx rfl) (by rfl) T.list (by decide +kernel) (pa_cons (pv 1) pa_nil)))
    (pss_one (ps_ret (pe_lc (own := [("_law_turn", 3)]) (g := (gName 3)) (tt := tYes) (te := tBM K "list" rPopAt (tVar 2) (tCons (tCall spBit [] E0 (tCons (tVar 0) (tCons (tCB (fun xs H Q => ∃ p ys, xs = [.ref p] ∧ (SqL K H p ys ∨ SqT K H p ys) ∧ Q (.int ys.length) H) (tCons (tVar 2) tNil)) tNil))) tNil)) rfl scDealt.nd (pi_range1 rfl T.range (pa_cons (pe_callB call_len_str (by rfl) T.len PySem.boot_len (pa_cons (pv 1) pa_nil)) pa_nil)) (blkOk_by (own := [("_law_turn", 3)]) (N := nDealt) (sc := defScope sDealt) (by decide +kernel)) (fun _ _ _ _ _ => (pg_name (i := 3) scDealt.nd rfl (Or.inl rfl))) (fun _ _ _ _ _ => pts_nil) (fun _ _ _ _ _ => (pe_bm PySem.F.plainAttrs_list PySem.F.slot_list_pop PySem.F.type_list_pop mt_popAt (pv 2) (pa_cons (pe_call GB (hr.mono (by decide)) (by rfl) DB.m DB.F.kp DB.b .nil pass0 (pa_cons (pv 0) (pa_cons (pe_callB call_len_seq (by rfl) T.len PySem.boot_len (pa_cons (pv 2) pa_nil)) pa_nil))) pa_nil))))))), ?_⟩
    refine ⟨_, rfl, z, rfl, Nat.le_trans n9 (by decide), fun W nW => ?_⟩
    have xl : ((ones (cds z)) : List V).length ≤ 60 := by rw [List.length_map, cds_len]; exact n9
    have sW := same_upd (o := .lst (ones (cds z))) nW
    have eW : (upd H W (.lst (ones (cds z)))) W = some (.lst (ones (cds z))) := upd_same
    have nWc : W ≠ c := hc.ne nW
    have hc1 := hc.same sW
    have ha1 := trivial
    have hf1 : ∀ b, b ≠ W → H b = none → (upd H W (.lst (ones (cds z)))) b = none := fun b hb e => by rw [upd_ne hb]; exact e
    have nW0 := nW
    generalize upd H W (.lst (ones (cds z))) = H1 at sW eW hc1 ha1 hf1 ⊢
    refine ⟨_, rfl, z, rfl, Nat.le_trans n9 (by decide), _, rfl, by omega, by omega, fun D nD => ?_⟩
    have nDc : D ≠ c := hc1.ne nD
    have nDW : D ≠ W := (ne_of_none eW nD).symm
    have nD0 : H D = none := free_none sW nD
    have en : ((z.length : Nat) : Int).toNat = (ones (cds z)).length := by rw [List.length_map, cds_len]; omega
    rw [en]
    refine lc_range (lo := 0) (n := ((ones (cds z)) : List V).length) (fun i H2 => ∃ got left : List V, H2 D = some (.lst got) ∧ H2 W = some (.lst left) ∧ got.length = i ∧ (got ++ left).Perm (ones (cds z)) ∧ Cup H2 c ∧ But c H H2)
      ⟨[], (ones (cds z)), upd_same, by rw [upd_ne nDW.symm]; exact eW, rfl, List.Perm.refl _, hc1.same (same_upd nD), But.of (sW.trans (same_upd nD))⟩ ?_ ?_
    · rintro i H2 hi ⟨got, left, eD, eW2, hg, hp, hc2, b2⟩
      have hl : left.length = ((ones (cds z)) : List V).length - i := by
        have := hp.length_eq
        rw [List.length_append] at this
        omega
      refine ⟨rfl, iteT (B := False) ?_⟩
      refine ⟨_, rfl, .inl ⟨rfl, _, SqL.of eW2⟩, _, rfl, _, rfl, W, _, rfl, .inl (SqL.of eW2), c, _, rfl, hc2, by omega, ?_, fun r H3 r0 rm hc3 b3 => ?_⟩
      · exact small9000 (by omega) (by omega)
      · obtain ⟨r, rfl⟩ : ∃ k : Nat, r = (k : Int) := ⟨r.toNat, by omega⟩
        have hrl2 : r < left.length := by omega
        have eD3 := b3 _ _ nDc eD
        have eW3 := b3 _ _ nWc eW2
        refine ⟨W, _, (r : Int), r, _, rfl, rfl, eW3, by omega, by omega, idx_nat hrl2, List.getElem?_eq_getElem hrl2, ?_⟩
        refine ⟨got, by rw [upd_ne nDW]; exact eD3, ?_, got ++ [left[r]], left.eraseIdx r, upd_same, ?_, ?_, ?_, ?_, ?_⟩
        · rw [hg]
          exact Nat.lt_of_le_of_lt (show _ ≤ 60 by omega) (by decide)
        · rw [upd_ne nDW.symm, upd_same]
        · rw [List.length_append, hg]
          rfl
        · rw [List.append_assoc]
          exact (List.Perm.append_left got (erase_perm left r hrl2)).trans hp
        · obtain ⟨c0, c1, c2, ec⟩ := hc3
          exact ⟨c0, c1, c2, by rw [upd_ne nDc.symm, upd_ne nWc.symm]; exact ec⟩
        · intro b o n' e
          rw [upd_ne (ne_of_none e nD0), upd_ne (ne_of_none e nW0)]
          exact b3 _ _ n' (b2 _ _ n' e)
    · rintro H2 ⟨got, left, eD, eW2, hg, hp, hc2, b2⟩
      have hl : left = [] := by
        have := hp.length_eq
        rw [List.length_append] at this
        exact List.length_eq_zero_iff.mp (by omega)
      rw [hl, List.append_nil] at hp
      exact q D H2 got hc2 b2 nD0 eD hp

/-! ### drawn states with yes -/
abbrev nSome : List Str := ["_law_cup_here", "_law_many", "_law_at"]
def spSome : Sp := fun vs H Q _ => ∃ (c : Addr) (n : Nat), vs = [.ref c, .int (n : Int)] ∧ Cup H c ∧ n ≤ 60 ∧ ∀ g G H', RowAt H' g G → okG n G → G.length ≤ n → Cup H' c → But c H H' → Q (.ref g) H'
theorem scSome : FnScope nSome ["_law_cup_here", "_law_many"] (defScope sSome) := ⟨rfl, rfl, rfl, by decide +kernel, rfl, by decide +kernel, by decide +kernel⟩
theorem ok_some {f fB : Addr} {fd dB : FuncData} (F : Fun K "_law_some_of" "_law_some_of" sSome f fd) (T : Txt K mg) (DB : Df K mg "_law_bit" sBit ["_law_cup_here", "_law_much"] fB dB) : FnOk P w K mg base CX0 2 f fd ["_law_cup_here", "_law_many"] spSome := by
  have GB := ok_bit (P := P) (w := w) (base := base) DB.F T
  refine F.ok scSome (fun vs H Q E h => ?_) (fun cdv A outer s H vs Q E hr h => ?_)
  · obtain ⟨c, n, rfl, _⟩ := h
    rfl
  · obtain ⟨c, n, rfl, hc, hn, q⟩ := h
    refine ⟨_, (pss_one (ps_ret (pe_callTy call_tuple_of (by rfl) T.tuple (by decide +kernel) (pa_cons (pe_lc (own := [("_law_at", 2)]) (g := (gName 2))   rfl scSome.nd (pi_range1 rfl T.range (pa_cons (pv 1) pa_nil)) (blkOk_by (own := [("_law_at", 2)]) (N := nSome) (sc := defScope sSome) (by decide +kernel)) (fun _ _ _ _ _ => (pg_name (i := 2) scSome.nd rfl (Or.inl rfl))) (fun _ _ _ _ _ => pts_one (pt_cmpR op_eq (pe_call GB (hr.mono (by decide)) (by rfl) DB.m DB.F.kp DB.b .nil pass0 (pa_cons (pv 0) (pa_cons pe_int pa_nil))) pe_int (nomark _))) (fun _ _ _ _ _ => (pv 2))) pa_nil)))), ?_⟩
    refine ⟨_, rfl, _, rfl, by omega, by omega, fun D nD => ?_⟩
    have nDc : D ≠ c := hc.ne nD
    rw [Int.toNat_natCast]
    refine lc_range (lo := 0) (n := n) (fun i H2 => Cup H2 c ∧ But c H H2 ∧ ∃ G, H2 D = some (.lst (natsV G)) ∧ okG i G ∧ G.length ≤ i) ⟨hc.same (same_upd nD), But.of (same_upd nD), [], upd_same, ⟨nofun, .nil⟩, Nat.le_refl _⟩ ?_ ?_
    · rintro i H2 hi ⟨hc2, b2, G, e2, ok, hl⟩
      rw [Int.zero_add]
      refine ⟨rfl, ?_⟩
      refine ⟨_, rfl, c, 2, rfl, hc2, by decide, small9000 (by decide) (by decide), fun r H3 r0 r2 hc3 b3 => ?_⟩
      have e3 := b3 _ _ nDc e2
      refine ⟨rfl, _, rfl, ?_⟩
      by_cases h : r = 0
      · rw [decide_eq_true (congrArg V.int h)]
        refine iteT ?_
        refine ⟨_, rfl, _, e3, ?_, hc3.put nDc, (b2.trans b3).putN nD, G ++ [i], ?_, ⟨fun q hq => ?_, ?_⟩, by rw [List.length_append]; exact Nat.succ_le_succ hl⟩
        · rw [List.length_map]
          exact Nat.lt_of_le_of_lt (show _ ≤ 60 by omega) (by decide)
        · rw [upd_same]
          show _ = some (HO.lst ((G ++ [i]).map _))
          rw [List.map_append]
          rfl
        · rcases List.mem_append.mp hq with hq | hq
          · exact Nat.lt_succ_of_lt (ok.lt q hq)
          · rw [List.mem_singleton.mp hq]
            exact Nat.lt_succ_self _
        · refine List.pairwise_append.mpr ⟨ok.up, List.pairwise_singleton _ _, fun a ha b hb => ?_⟩
          rw [List.mem_singleton.mp hb]
          exact ok.lt a ha
      · rw [decide_eq_false (fun e => h (by injection e))]
        exact iteF ⟨hc3, b2.trans b3, G, e3, ⟨fun q hq => Nat.lt_succ_of_lt (ok.lt q hq), ok.up⟩, Nat.le_succ_of_le hl⟩
    · rintro H2 ⟨hc2, b2, G, e2, ok, hl⟩
      refine ⟨D, _, rfl, .inl ⟨SqL.of e2, fun p np => ?_⟩⟩
      have s3 := same_upd (o := .tup (natsV G)) np
      exact q p G _ upd_same ok hl (hc2.same s3) (b2.trans (But.of s3))
end
end K24

set_option Elab.async false
set_option linter.all false
set_option maxRecDepth 100000
set_option maxHeartbeats 6400000
namespace K24
open PySem L2 Tx Tg Tm Da RZ
/-! ### drawn moves -/
/-- a pair of a letter and its row, as a tuple -/
def PairW (H : Hp) (p : Addr) (w : Way) : Prop := ∃ r, H p = some (.tup [.str (one w.1), .ref r]) ∧ RowAt H r w.2
abbrev PairsW (H : Hp) (ps : List Addr) (W : List Way) : Prop := PySem.W.EachIs (PairW H) ps W
theorem PairsW.keep {H H' : Hp} {ps : List Addr} {W : List Way} (k : KeepT H H') (h : PairsW H ps W) : PairsW H' ps W := PySem.W.EachIs.mono (fun _ _ ⟨r, e, h⟩ => ⟨r, k _ _ e, k _ _ h⟩) h
theorem merge_new : ∀ {kvs : List (Key × V)} {acc : List (Key × V)}, ((acc ++ kvs).map (·.1)).Nodup → mergeK acc kvs = acc ++ kvs
  | [], acc, _ => (List.append_nil acc).symm
  | kv :: kvs, acc, nd => by
    show mergeK (putK acc kv.1 kv.2) kvs = _
    have hn : valV acc kv.1 = none := by
      cases h : valV acc kv.1 with
      | none => rfl
      | some v =>
        rw [List.map_append, List.nodup_append] at nd
        have m1 : kv.1 ∈ acc.map (·.1) := by
          unfold valV at h
          cases hf : acc.find? (fun x => decide (x.1 = kv.1)) with
          | none => rw [hf] at h; cases h
          | some x =>
            have := List.find?_some hf
            exact List.mem_map.mpr ⟨x, List.mem_of_find?_eq_some hf, of_decide_eq_true this⟩
        exact absurd rfl (nd.2.2 _ m1 _ List.mem_cons_self)
    rw [putK_new hn, merge_new (by rw [List.append_assoc]; exact nd), List.append_assoc]
    rfl
theorem refs_of {ps : List Addr} {i : Nat} (h : i < ps.length) : (ps.map V.ref)[i]? = some (.ref ps[i]) := by
  rw [List.getElem?_map, List.getElem?_eq_getElem h]
  rfl
/-- the dict of such pairs -/
def kvsW : List Addr → List Way → List (Key × V)
  | r :: rs, w :: W => (Sum.inr (one w.1), V.ref r) :: kvsW rs W
  | _, _ => []
theorem pairs_dict {K : PySem.W.Frag} {H : Hp} : ∀ {ps : List Addr} {W : List Way}, PairsW H ps W → ∃ kvs, Paired (fun p kv => SqT K H p [kV kv.1, kv.2]) ps kvs ∧ WsAt H kvs W ∧ kvs.map (·.1) = W.map (fun w => (Sum.inr (one w.1) : Key))
  | _, _, .nil => ⟨[], .nil, .nil, rfl⟩
  | _, _, .cons (b := w) ⟨r, e, h⟩ t => by
    obtain ⟨kvs, p1, p2, p3⟩ := pairs_dict (K := K) t
    exact ⟨(Sum.inr (one w.1), .ref r) :: kvs, .cons (SqT.of e) p1, .cons ⟨r, rfl, h⟩ p2, by rw [List.map_cons, p3]; rfl⟩
theorem keys_nodup {sg : Str} {W : List Way} (hs : Signs sg) (e : W.map (·.1) = cds sg) : (W.map (fun w => (Sum.inr (one w.1) : Key))).Nodup := by
  have : W.map (fun w => (Sum.inr (one w.1) : Key)) = (W.map (·.1)).map fun c => (Sum.inr (one c) : Key) := by rw [List.map_map]; rfl
  rw [this, e]
  exact List.Pairwise.map _ (fun a b (h : a ≠ b) e => h (key_one.mp e)) (sg_nodup hs)
/-- dict([..]) of the pairs that a list holds -/
theorem dict_pairs {K : PySem.W.Frag} {H : Hp} {D : Addr} {ps : List Addr} {W : List Way} {sg : Str} {Q : VK} (hs : Signs sg) (e : H D = some (.lst (ps.map V.ref))) (h : PairsW H ps W) (ek : W.map (·.1) = cds sg)
    (q : ∀ d H', Same H H' → MovAt H' d W → Q (.ref d) H') : ∃ (a : Addr) (ps : List Addr) (kvs : List (Key × V)), [V.ref D] = [.ref a] ∧ SqL K H a (ps.map V.ref) ∧ Paired (fun p kv => SqT K H p [kV kv.1, kv.2]) ps kvs ∧
    ∀ p, H p = none → Q (.ref p) (upd H p (.dK (mergeK [] kvs))) := by
  obtain ⟨kvs, p1, p2, p3⟩ := pairs_dict (K := K) h
  refine ⟨D, ps, kvs, rfl, SqL.of e, p1, fun p np => ?_⟩
  have s1 := same_upd (o := .dK (mergeK [] kvs)) np
  refine q p _ s1 ⟨kvs, ?_, p2.keep (.same s1)⟩
  rw [upd_same, merge_new (by rw [List.nil_append, p3]; exact keys_nodup hs ek), List.nil_append]
theorem nats_of {n : Nat} : ∀ {zs : List V}, (∀ (i : Nat) (y : V), zs[i]? = some y → ∃ q : Nat, y = .int (q : Int) ∧ q < n) → ∃ l : List Nat, zs = natsV l ∧ ∀ q ∈ l, q < n
  | [], _ => ⟨[], rfl, nofun⟩
  | z :: zs, h => by
    obtain ⟨q, e, hq⟩ := h 0 z rfl
    obtain ⟨l, e2, h2⟩ := nats_of (zs := zs) fun i y hy => h (i + 1) y hy
    exact ⟨q :: l, by rw [e, e2]; rfl, fun x hx => by
      rcases List.mem_cons.mp hx with rfl | hx
      · exact hq
      · exact h2 x hx⟩
theorem rg_nats (n : Nat) : rgV 0 (n : Int) = natsV (List.range n) := by
  unfold rgV
  have e : ((n : Int) - 0).toNat = n := by omega
  rw [e]
  refine List.map_congr_left fun i _ => ?_
  rw [Int.zero_add]
def rTupOf (K : PySem.W.Frag) : List V → Hp → VK → Prop := fun xs H Q => ∃ p ys, xs = [.ref p] ∧ ((SqL K H p ys ∧ ∀ l, H l = none → Q (.ref l) (upd H l (.tup ys))) ∨ (SqT K H p ys ∧ Q (.ref p) H))
section
variable {P : Program} {w : World} {K : PySem.W.Frag} {mg : Str → Option Value} {base : Heap}
def spWays (most : Nat) : Sp := fun vs H Q _ => ∃ (c : Addr) (sg : Str) (n : Nat), vs = [.ref c, .str sg, .int (n : Int)] ∧ Cup H c ∧ Signs sg ∧ 1 ≤ n ∧ n ≤ most ∧ ∀ d W H', MovAt H' d W → okW n sg W → W.map (·.1) = cds sg → Cup H' c → But c H H' → Q (.ref d) H'
abbrev nAny : List Str := ["_law_cup_here", "_law_signs_here", "_law_many", "_law_sign", "_law_at"]
theorem scAny : FnScope nAny ["_law_cup_here", "_law_signs_here", "_law_many"] (defScope sAny) := ⟨rfl, rfl, rfl, by decide +kernel, rfl, by decide +kernel, by decide +kernel⟩
abbrev nTurning : List Str := ["_law_cup_here", "_law_signs_here", "_law_many", "_law_sign"]
theorem scTurning : FnScope nTurning ["_law_cup_here", "_law_signs_here", "_law_many"] (defScope sTurning) := ⟨rfl, rfl, rfl, by decide +kernel, rfl, by decide +kernel, by decide +kernel⟩
theorem ok_any {f fB : Addr} {fd dB : FuncData} (F : Fun K "_law_any_ways" "_law_any_ways" sAny f fd) (T : Txt K mg) (DB : Df K mg "_law_bit" sBit ["_law_cup_here", "_law_much"] fB dB) : FnOk P w K mg base CX0 2 f fd ["_law_cup_here", "_law_signs_here", "_law_many"] (spWays 60) := by
  have GB := ok_bit (P := P) (w := w) (base := base) DB.F T
  refine F.ok scAny (fun vs H Q E h => ?_) (fun cdv A outer s H vs Q E hr h => ?_)
  · obtain ⟨c, sg, n, rfl, _⟩ := h
    rfl
  · obtain ⟨c, sg, n, rfl, hc, hsg, n1, n60, q⟩ := h
    refine ⟨_, (pss_one (ps_ret (pe_callTy (call_dictP rfl) (by rfl) T.dict (by decide +kernel) (pa_cons (pe_lc (own := [("_law_sign", 3)]) (g := (gName 3)) (tt := tYes) (te := tTup (tCons (tVar 3) (tCons (tCB (rTupOf K) (tCons (tLc (iRng1 (tCons (tVar 2) tNil)) (gName 4) tYes (tCall spBit [] E0 (tCons (tVar 0) (tCons (tVar 2) tNil))) [4]) tNil)) tNil))) rfl scAny.nd (pi_str (pv 1)) (blkOk_by (own := [("_law_sign", 3)]) (N := nAny) (sc := defScope sAny) (by decide +kernel)) (fun _ _ _ _ _ => (pg_name (i := 3) scAny.nd rfl (Or.inl rfl))) (fun _ _ _ _ _ => pts_nil) (fun _ _ _ _ _ => (pe_tup (pa_cons (pv 3) (pa_cons (pe_callTy call_tuple_of (by rfl) T.tuple (by decide +kernel) (pa_cons (pe_lc (own := [("_law_at", 4)]) (g := (gName 4)) (tt := tYes) (te := tCall spBit [] E0 (tCons (tVar 0) (tCons (tVar 2) tNil))) rfl scAny.nd (pi_range1 rfl T.range (pa_cons (pv 2) pa_nil)) (blkOk_by (own := [("_law_at", 4)]) (N := nAny) (by rfl)) (fun _ _ _ _ _ => (pg_name (i := 4) scAny.nd rfl (Or.inl rfl))) (fun _ _ _ _ _ => pts_nil) (fun _ _ _ _ _ => (pe_call GB (hr.mono (by decide)) (by rfl) DB.m DB.F.kp DB.b .nil pass0 (pa_cons (pv 0) (pa_cons (pv 2) pa_nil))))) pa_nil)) pa_nil))))) pa_nil)))), ?_⟩
    refine ⟨_, rfl, sg, rfl, fun D nD => ?_⟩
    have nDc : D ≠ c := hc.ne nD
    refine Lc.lc_text (fun i H2 => Cup H2 c ∧ But c H H2 ∧ ∃ ps W, H2 D = some (.lst (ps.map V.ref)) ∧ PairsW H2 ps W ∧ W.map (·.1) = (cds sg).take i ∧ ∀ w ∈ W, w.2.length = n ∧ ∀ q ∈ w.2, q < n) ⟨hc.same (same_upd nD), But.of (same_upd nD), [], [], upd_same, .nil, rfl, nofun⟩ ?_ ?_
    · rintro i x H2 hx ⟨hc2, b2, ps, W, e2, hps, hW, hr2⟩
      have hi := (List.getElem?_eq_some_iff.mp hx).1
      rw [cds_len] at hi
      have sg3 := (sg_len hsg).2
      have lps : ps.length ≤ 3 := by
        have h1 := hps.length
        have h2 := congrArg List.length hW
        rw [List.length_map, List.length_take] at h2
        omega
      refine ⟨rfl, iteT (B := False) ?_⟩
      refine ⟨_, rfl, _, rfl, _, rfl, by omega, by omega, fun D2 nD2 => ?_⟩
      have nD2c : D2 ≠ c := hc2.ne nD2
      rw [Int.toNat_natCast]
      refine Lc.lcRD (c := c) (I := fun H => Cup H c) (P := fun _ v => ∃ q : Nat, v = .int (q : Int) ∧ q < n) nD2 nD2c (hc2.same (same_upd nD2)) (Nat.lt_of_le_of_lt n60 (by decide)) (fun _ => rfl) (fun H o h => h.put nD2c) ?_ ?_
      · intro i H3 hi hc3 b3 Q' q'
        refine ⟨_, rfl, _, rfl, c, (n : Int), rfl, hc3, by omega, small9000 (by omega) (by omega), fun r H4 r0 r1 hc4 b4 => ?_⟩
        exact q' _ _ ⟨r.toNat, congrArg V.int (by omega), by omega⟩ hc4 b4
      intro H3 zs hc3 b3 e3 lz hz
      have b3 : But c H2 H3 := b3
      obtain ⟨l, rfl, hq⟩ := nats_of hz
      have hl : l.length = n := by rw [List.length_map] at lz; exact lz
      refine ⟨D2, _, rfl, .inl ⟨SqL.of e3, fun rr nr => ?_⟩⟩
      have s35 := same_upd (o := .tup (natsV l)) nr
      have hrr : RowAt (upd H3 rr (.tup (natsV l))) rr l := upd_same
      have hc5 := hc3.same s35
      generalize upd H3 rr (.tup (natsV l)) = H5 at s35 hrr hc5 ⊢
      have e5 := s35 _ _ (b3 _ _ nDc e2)
      have k25 : KeepT H2 H5 := (KeepT.but hc2.noT b3).trans (.same s35)
      refine ⟨(by show 2 ≤ sizeLine; decide), fun p np => ?_⟩
      have s6 := same_upd (o := .tup [.str (one x), .ref rr]) np
      refine ⟨ps.map V.ref, s6 _ _ e5, ?_, (hc5.same s6).put nDc, (b2.trans (b3.trans (But.of (s35.trans s6)))).putN nD, ps ++ [p], W ++ [(x, l)], ?_, ?_, ?_, ?_⟩
      · rw [List.length_map]
        exact Nat.lt_of_le_of_lt lps (by decide)
      · rw [upd_same, List.map_append]
        rfl
      · have k7 : KeepT (upd H5 p (.tup [.str (one x), .ref rr])) (upd (upd H5 p (.tup [.str (one x), .ref rr])) D (.lst (ps.map V.ref ++ [V.ref p]))) := KeepT.upd (.lst (s6 _ _ e5))
        exact each_app (hps.keep ((k25.trans (.same s6)).trans k7)) (.cons ⟨rr, k7 _ _ upd_same, k7 _ _ (s6 _ _ hrr)⟩ .nil)
      · rw [List.map_append, hW, List.take_add_one, hx]
        rfl
      · intro w hw
        rcases List.mem_append.mp hw with hw | hw
        · exact hr2 w hw
        · rw [List.mem_singleton.mp hw]
          exact ⟨hl, hq⟩
    · rintro H2 ⟨hc2, b2, ps, W, e2, hps, hW, hr2⟩
      rw [List.take_of_length_le (Nat.le_refl _)] at hW
      exact dict_pairs (K := K) hsg e2 hps hW fun d H3 s3 hd => q d W H3 hd ⟨by rw [hW], hr2, n1, n60⟩ hW (hc2.same s3) (b2.trans (But.of s3))

theorem ok_turning {f fB fD : Addr} {fd dB dD : FuncData} (F : Fun K "_law_turning_ways" "_law_turning_ways" sTurning f fd) (T : Txt K mg) (DB : Df K mg "_law_bit" sBit ["_law_cup_here", "_law_much"] fB dB) (DD : Df K mg "_law_dealt" sDealt ["_law_cup_here", "_law_items"] fD dD) : FnOk P w K mg base CX0 3 f fd ["_law_cup_here", "_law_signs_here", "_law_many"] (spWays 60) := by
  have GB := ok_bit (P := P) (w := w) (base := base) DB.F T
  have GD := ok_dealtL (P := P) (w := w) (base := base) DD.F T DB
  refine F.ok scTurning (fun vs H Q E h => ?_) (fun cdv A outer s H vs Q E hr h => ?_)
  · obtain ⟨c, sg, n, rfl, _⟩ := h
    rfl
  · obtain ⟨c, sg, n, rfl, hc, hsg, n1, n60, q⟩ := h
    refine ⟨_, (pss_one (ps_ret (pe_callTy (call_dictP rfl) (by rfl) T.dict (by decide +kernel) (pa_cons (pe_lc (own := [("_law_sign", 3)]) (g := (gName 3)) (tt := tYes) (te := tTup (tCons (tVar 3) (tCons (tCB (rTupOf K) (tCons (tCall spDealtL [] E0 (tCons (tVar 0) (tCons (tLstRg (tRg1 (tVar 2))) tNil))) tNil)) tNil))) rfl scTurning.nd (pi_str (pv 1)) (blkOk_by (own := [("_law_sign", 3)]) (N := nTurning) (sc := defScope sTurning) (by decide +kernel)) (fun _ _ _ _ _ => (pg_name (i := 3) scTurning.nd rfl (Or.inl rfl))) (fun _ _ _ _ _ => pts_nil) (fun _ _ _ _ _ => (pe_tup (pa_cons (pv 3) (pa_cons (pe_callTy call_tuple_of (by rfl) T.tuple (by decide +kernel) (pa_cons (pe_call GD (hr.mono (by decide)) (by rfl) DD.m DD.F.kp DD.b .nil pass0 (pa_cons (pv 0) (pa_cons (pe_listRg rfl (by rfl) T.list (prg_1 (by rfl) T.range (pv 2))) pa_nil))) pa_nil)) pa_nil))))) pa_nil)))), ?_⟩
    refine ⟨_, rfl, sg, rfl, fun D nD => ?_⟩
    have nDc : D ≠ c := hc.ne nD
    refine Lc.lc_text (fun i H2 => Cup H2 c ∧ But c H H2 ∧ ∃ ps W, H2 D = some (.lst (ps.map V.ref)) ∧ PairsW H2 ps W ∧ W.map (·.1) = (cds sg).take i ∧ ∀ w ∈ W, w.2.length = n ∧ ∀ q ∈ w.2, q < n) ⟨hc.same (same_upd nD), But.of (same_upd nD), [], [], upd_same, .nil, rfl, nofun⟩ ?_ ?_
    · rintro i x H2 hx ⟨hc2, b2, ps, W, e2, hps, hW, hr2⟩
      have hi := (List.getElem?_eq_some_iff.mp hx).1
      rw [cds_len] at hi
      have sg3 := (sg_len hsg).2
      have lps : ps.length ≤ 3 := by
        have h1 := hps.length
        have h2 := congrArg List.length hW
        rw [List.length_map, List.length_take] at h2
        omega
      refine ⟨rfl, iteT (B := False) ?_⟩
      refine ⟨_, rfl, _, rfl, _, rfl, _, rfl, RgOk.of_le (Int.le_refl 0) (by omega) (by decide) (by omega), fun L nL => ?_⟩
      rw [rg_nats]
      have sL := same_upd (o := .lst (natsV (List.range n))) nL
      refine ⟨c, L, natsV (List.range n), rfl, hc2.same sL, upd_same, hc2.ne nL, by rw [List.length_map, List.length_range]; exact n60, fun p H3 ys hc3 b3' np e3 perm => ?_⟩
      obtain ⟨l, rfl, hpl⟩ := perm_map perm _ rfl
      have b3 : But c H2 H3 := (But.of sL).trans b3'
      have hl : l.length = n := by rw [hpl.length_eq, List.length_range]
      have hq : ∀ q ∈ l, q < n := fun q hq => List.mem_range.mp (hpl.mem_iff.mp hq)
      refine ⟨p, _, rfl, .inl ⟨SqL.of e3, fun rr nr => ?_⟩⟩
      have s35 := same_upd (o := .tup (natsV l)) nr
      have hrr : RowAt (upd H3 rr (.tup (natsV l))) rr l := upd_same
      have hc5 := hc3.same s35
      generalize upd H3 rr (.tup (natsV l)) = H5 at s35 hrr hc5 ⊢
      have e5 := s35 _ _ (b3 _ _ nDc e2)
      have k25 : KeepT H2 H5 := (KeepT.but hc2.noT b3).trans (.same s35)
      refine ⟨(by show 2 ≤ sizeLine; decide), fun p np => ?_⟩
      have s6 := same_upd (o := .tup [.str (one x), .ref rr]) np
      refine ⟨ps.map V.ref, s6 _ _ e5, ?_, (hc5.same s6).put nDc, (b2.trans (b3.trans (But.of (s35.trans s6)))).putN nD, ps ++ [p], W ++ [(x, l)], ?_, ?_, ?_, ?_⟩
      · rw [List.length_map]
        exact Nat.lt_of_le_of_lt lps (by decide)
      · rw [upd_same, List.map_append]
        rfl
      · have k7 : KeepT (upd H5 p (.tup [.str (one x), .ref rr])) (upd (upd H5 p (.tup [.str (one x), .ref rr])) D (.lst (ps.map V.ref ++ [V.ref p]))) := KeepT.upd (.lst (s6 _ _ e5))
        exact each_app (hps.keep ((k25.trans (.same s6)).trans k7)) (.cons ⟨rr, k7 _ _ upd_same, k7 _ _ (s6 _ _ hrr)⟩ .nil)
      · rw [List.map_append, hW, List.take_add_one, hx]
        rfl
      · intro w hw
        rcases List.mem_append.mp hw with hw | hw
        · exact hr2 w hw
        · rw [List.mem_singleton.mp hw]
          exact ⟨hl, hq⟩
    · rintro H2 ⟨hc2, b2, ps, W, e2, hps, hW, hr2⟩
      rw [List.take_of_length_le (Nat.le_refl _)] at hW
      exact dict_pairs (K := K) hsg e2 hps hW fun d H3 s3 hd => q d W H3 hd ⟨by rw [hW], hr2, n1, n60⟩ hW (hc2.same s3) (b2.trans (But.of s3))

end
end K24

set_option Elab.async false
set_option linter.all false
set_option maxRecDepth 100000
set_option maxHeartbeats 6400000
namespace K24
open PySem L2 Tx Tg Tm Da RZ
theorem WsAt.put {H H' : Hp} {kvs : List (Key × V)} {W : List Way} {c p : Nat} {l : List Nat} (k : KeepT H H') (h : WsAt H kvs W) (hr : RowAt H' p l) : WsAt H' (kvs ++ [(Sum.inr (one c), .ref p)]) (W ++ [(c, l)]) := each_app (h.keep k) (.cons ⟨p, rfl, hr⟩ .nil)
theorem not_taken {l : List Nat} {i c : Nat} (nd : l.Nodup) (h : l[i]? = some c) : c ∉ l.take i := fun hm => by
  have hi := (List.getElem?_eq_some_iff.mp h).1
  obtain ⟨j, hj⟩ := List.mem_iff_getElem?.mp hm
  have hj1 := (List.getElem?_eq_some_iff.mp hj).1
  rw [List.length_take] at hj1
  rw [List.getElem?_take, if_pos (by omega)] at hj
  have := (List.getElem?_inj (by omega) nd).mp (hj.trans h.symm)
  omega
section
variable {P : Program} {w : World} {K : PySem.W.Frag} {mg : Str → Option Value} {base : Heap}
abbrev nRing : List Str := ["_law_cup_here", "_law_signs_here", "_law_many", "_law_found", "_law_sign", "_law_step", "_law_at"]
theorem scRing : FnScope nRing ["_law_cup_here", "_law_signs_here", "_law_many"] (defScope sRing) := ⟨rfl, rfl, rfl, by decide +kernel, rfl, by decide +kernel, by decide +kernel⟩
theorem ok_ring {f fB : Addr} {fd dB : FuncData} (F : Fun K "_law_ring_ways" "_law_ring_ways" sRing f fd) (T : Txt K mg) (DB : Df K mg "_law_bit" sBit ["_law_cup_here", "_law_much"] fB dB) : FnOk P w K mg base CX0 2 f fd ["_law_cup_here", "_law_signs_here", "_law_many"] (spWays 60) := by
  have GB := ok_bit (P := P) (w := w) (base := base) DB.F T
  refine F.ok scRing (fun vs H Q E h => ?_) (fun cdv A outer s H vs Q E hr h => ?_)
  · obtain ⟨c, sg, n, rfl, _⟩ := h
    rfl
  · obtain ⟨c, sg, n, rfl, hc, hsg, n1, n60, q⟩ := h
    have hu := hu_of hr
    refine ⟨_, (pss_cons (ps_set (i := 3) scRing.nd rfl (Or.inl rfl) pe_dnewK)
    (pss_cons (ps_for PassesOwn.never rfl (pi_str (pv 1)) (pg_name (i := 4) scRing.nd rfl (Or.inl rfl))
      (pss_cons (ps_set (i := 5) scRing.nd rfl (Or.inr rfl) (pe_call GB (hr.mono (by decide)) (by rfl) DB.m DB.F.kp DB.b .nil pass0 (pa_cons (pv 0) (pa_cons (pv 2) pa_nil))))
      (pss_one (ps_dput hu (pv 3) (pv 4) (pe_callTy call_tuple_of (by rfl) T.tuple (by decide +kernel) (pa_cons (pe_lc (own := [("_law_at", 6)]) (g := (gName 6)) (tt := tYes)  rfl scRing.nd (pi_range1 rfl T.range (pa_cons (pv 2) pa_nil)) (blkOk_by (own := [("_law_at", 6)]) (N := nRing) (sc := defScope sRing) (by decide +kernel)) (fun _ _ _ _ _ => (pg_name (i := 6) scRing.nd rfl (Or.inl rfl))) (fun _ _ _ _ _ => pts_nil) (fun _ _ _ _ _ => (pe_op op_modN (pe_callTy call_int1 (by rfl) T.int (by decide +kernel) (pa_cons (pe_op op_add (pv 6) (pv 5)) pa_nil)) (pv 2)))) pa_nil)) rfl))))
    (pss_one (ps_ret (pv 3))))), ?_⟩
    intro F nF
    have nFc : F ≠ c := hc.ne nF
    refine ⟨_, rfl, sg, rfl, ?_⟩
    refine Lc.for_text (fun i σ H1 => ∃ (t4 t5 : Option V) (kvs : List (Key × V)) (W : List Way), σ = [some (.ref c), some (.str sg), some (.int (n : Int)), some (.ref F), t4, t5, none] ∧ Cup H1 c ∧ But c H H1 ∧ H1 F = some (.dK kvs) ∧ WsAt H1 kvs W ∧ W.map (·.1) = (cds sg).take i ∧ ∀ w ∈ W, w.2.length = n ∧ ∀ q ∈ w.2, q < n)
      ⟨none, none, [], [], rfl, hc.same (same_upd nF), But.of (same_upd nF), upd_same, .nil, rfl, nofun⟩ ?_ ?_
    · rintro i x σ H1 hx ⟨t4, t5, kvs, W, rfl, hc1, b1, e1, hw, hW, hr2⟩
      have hi := (List.getElem?_eq_some_iff.mp hx).1
      rw [cds_len] at hi
      have sg3 := (sg_len hsg).2
      refine ⟨_, rfl, _, rfl, c, (n : Int), rfl, hc1, by omega, small9000 (by omega) (by omega), fun r H2 r0 r1 hc2 b2 => ?_⟩
      obtain ⟨r, rfl⟩ : ∃ k : Nat, r = (k : Int) := ⟨r.toNat, by omega⟩
      have e2 := b2 _ _ nFc e1
      have hw2 := hw.keep (KeepT.but hc1.noT b2)
      refine ⟨_, rfl, _, rfl, by omega, by omega, fun D nD => ?_⟩
      rw [Int.toNat_natCast]
      refine Lc.lcRS (ys := natsV ((List.range n).map fun i => (i + r) % n)) nD (by rw [List.length_map, List.length_map, List.length_range]) (Nat.lt_of_le_of_lt n60 (by decide)) (fun _ => rfl) ?_ ?_
      · intro j y H3 hj hy s3 Q' q'
        rw [List.getElem?_map, List.getElem?_map, List.getElem?_range hj] at hy
        cases hy
        refine ⟨_, rfl, _, rfl, _, _, rfl, rfl, .inl ⟨_, rfl, _, rfl, _, _, rfl, rfl, (show (n : Int) ≠ 0 by omega), ?_⟩⟩
        have e : V.int (Int.fmod (0 + (j : Int) + (r : Int)) (n : Int)) = V.int (((j + r) % n : Nat) : Int) := congrArg V.int (by rw [Int.zero_add, Int.fmod_eq_emod_of_nonneg _ (by omega)]; rfl)
        show Q' (V.int (Int.fmod (0 + (j : Int) + (r : Int)) (n : Int))) H3
        rw [e]
        exact q' H3 (Same.refl _)
      · intro H3 s3 e3
        refine ⟨D, _, rfl, .inl ⟨SqL.of e3, fun rr nr => ?_⟩⟩
        have s4 := same_upd (o := .tup (natsV ((List.range n).map fun i => (i + r) % n))) nr
        have hrr : RowAt (upd H3 rr (.tup (natsV ((List.range n).map fun i => (i + r) % n)))) rr ((List.range n).map fun i => (i + r) % n) := upd_same
        have hc4 := (hc2.same s3).same s4
        have e4 := s4 _ _ (s3 _ _ e2)
        have hw4 := hw2.keep (.same (s3.trans s4))
        have b4 : But c H _ := (b1.trans b2).trans (But.of (s3.trans s4))
        generalize upd H3 rr (.tup (natsV ((List.range n).map fun i => (i + r) % n))) = H4 at hrr hc4 e4 hw4 b4 ⊢
        have nk : valV kvs (Sum.inr (one x) : Key) = none := ways_none hw4 (by rw [hW]; exact not_taken (sg_nodup hsg) hx)
        refine ⟨_, rfl, _, rfl, F, _, rfl, DPut.k (k := (Sum.inr (one x) : Key)) e4 ?_, ?_⟩
        · have h1 := ways_len hw
          have h2 := congrArg List.length hW
          rw [List.length_map, List.length_take] at h2
          exact Nat.lt_of_le_of_lt (show kvs.length ≤ 3 by omega) (by decide)
        have kF : KeepT H4 (upd H4 F (.dK (putK kvs (Sum.inr (one x)) (.ref rr)))) := KeepT.upd (.dK e4)
        refine ⟨_, _, kvs ++ [(Sum.inr (one x), .ref rr)], W ++ [(x, (List.range n).map fun i => (i + r) % n)], rfl, hc4.put nFc, b4.putN nF, by rw [upd_same, putK_new nk], hw4.put kF (kF _ _ hrr), ?_, ?_⟩
        · rw [List.map_append, hW, List.take_add_one, hx]
          rfl
        · intro w hw
          rcases List.mem_append.mp hw with hw | hw
          · exact hr2 w hw
          · rw [List.mem_singleton.mp hw]
            refine ⟨by rw [List.length_map, List.length_range], fun q hq => ?_⟩
            obtain ⟨j, _, rfl⟩ := List.mem_map.mp hq
            exact Nat.mod_lt _ (by omega)
    · rintro σ H1 ⟨t4, t5, kvs, W, rfl, hc1, b1, e1, hw, hW, hr2⟩
      rw [List.take_of_length_le (Nat.le_refl _)] at hW
      exact ⟨_, rfl, q F W H1 ⟨kvs, e1, hw⟩ ⟨by rw [hW], hr2, n1, n60⟩ hW hc1 b1⟩
end
end K24

set_option Elab.async false
set_option linter.all false
set_option maxRecDepth 100000
set_option maxHeartbeats 6400000
namespace K24
open PySem L2 Tx Tg Tm Da RZ
theorem cut_fr {z : Str} (i : Nat) : cds (cutS z (some (i : Int)) none) = (cds z).drop i := by
  unfold cutS
  show (((cds z).drop (HT.sIx z.length 0 (some (i : Int)))).take (HT.sIx z.length z.length none - HT.sIx z.length 0 (some (i : Int)))) = _
  rw [HT.sIx_none, HT.sIx_nat]
  by_cases h : i ≤ z.length
  · rw [Nat.min_eq_left h, List.take_of_length_le (by rw [List.length_drop, cds_len]; omega)]
  · rw [Nat.min_eq_right (by omega), List.drop_of_length_le (by rw [cds_len]; omega), List.drop_of_length_le (by rw [cds_len]; omega), List.take_nil]
/-- a row of the pairs: block i / m and place i % m -/
theorem pair_lt {m a b : Nat} (ha : a < m) (hb : b < m) : m * a + b < m * m := by
  have h1 : m * (a + 1) ≤ m * m := Nat.mul_le_mul_left m ha
  rw [Nat.mul_add, Nat.mul_one] at h1
  omega
theorem pair_head {m i : Nat} (hm : 1 ≤ m) : (m : Int) * Int.fdiv (0 + (i : Int)) (m : Int) + Int.fmod (0 + (i : Int) + 1) (m : Int) = ((m * (i / m) + (i + 1) % m : Nat) : Int) := by
  rw [Int.zero_add, Int.fdiv_eq_ediv_of_nonneg _ (by omega), Int.fmod_eq_emod_of_nonneg _ (by omega)]
  rfl
theorem pair_row {m i s t : Nat} (hm : 1 ≤ m) : Int.fmod (Int.fdiv (0 + (i : Int)) (m : Int) + (s : Int) + (t : Int) * Int.fmod (0 + (i : Int)) (m : Int)) (m : Int) = (((i / m + s + t * (i % m)) % m : Nat) : Int) := by
  rw [Int.zero_add, Int.fdiv_eq_ediv_of_nonneg _ (by omega), Int.fmod_eq_emod_of_nonneg _ (by omega), Int.fmod_eq_emod_of_nonneg _ (by omega)]
  rfl
section
variable {P : Program} {w : World} {K : PySem.W.Frag} {mg : Str → Option Value} {base : Heap}
abbrev nPair : List Str := ["_law_cup_here", "_law_signs_here", "_law_many", "_law_found", "_law_sign", "_law_step", "_law_times", "_law_row", "_law_at", "_law_later"]
theorem scPair : FnScope nPair ["_law_cup_here", "_law_signs_here", "_law_many"] (defScope sPair) := ⟨rfl, rfl, rfl, by decide +kernel, rfl, by decide +kernel, by decide +kernel⟩
def spPair : Sp := fun vs H Q _ => ∃ (c : Addr) (sg : Str) (m : Nat), vs = [.ref c, .str sg, .int (m : Int)] ∧ Cup H c ∧ Signs sg ∧ 1 ≤ m ∧ m ≤ 3 ∧ ∀ d W H', MovAt H' d W → okW (m * m) sg W → W.map (·.1) = cds sg → Cup H' c → But c H H' → Q (.ref d) H'
theorem ok_pair {f fB : Addr} {fd dB : FuncData} (F : Fun K "_law_pair_ways" "_law_pair_ways" sPair f fd) (T : Txt K mg) (DB : Df K mg "_law_bit" sBit ["_law_cup_here", "_law_much"] fB dB) : FnOk P w K mg base CX0 2 f fd ["_law_cup_here", "_law_signs_here", "_law_many"] spPair := by
  have GB := ok_bit (P := P) (w := w) (base := base) DB.F T
  refine F.ok scPair (fun vs H Q E h => ?_) (fun cdv A outer s H vs Q E hr h => ?_)
  · obtain ⟨c, sg, n, rfl, _⟩ := h
    rfl
  · obtain ⟨c, sg, m, rfl, hc, hsg, n1, n3, q⟩ := h
    have hu := hu_of hr
    refine ⟨_, (pss_cons (ps_set (i := 3) scPair.nd rfl (Or.inl rfl) (pe_disp (pps_cons (pe_ix ix_str (pv 1) pe_int (fun _ _ => rfl)) (pe_callTy call_tuple_of (by rfl) T.tuple (by decide +kernel) (pa_cons (pe_lc (own := [("_law_at", 8)]) (g := (gName 8)) (tt := tYes)  rfl scPair.nd (pi_range1 rfl T.range (pa_cons (pe_op op_mul (pv 2) (pv 2)) pa_nil)) (blkOk_by (own := [("_law_at", 8)]) (N := nPair) (sc := defScope sPair) (by decide +kernel)) (fun _ _ _ _ _ => (pg_name (i := 8) scPair.nd rfl (Or.inl rfl))) (fun _ _ _ _ _ => pts_nil) (fun _ _ _ _ _ => (pe_op op_add (pe_op op_mul (pv 2) (pe_callTy call_int1 (by rfl) T.int (by decide +kernel) (pa_cons (pe_op op_fdivN (pv 8) (pv 2)) pa_nil))) (pe_op op_modN (pe_callTy call_int1 (by rfl) T.int (by decide +kernel) (pa_cons (pe_op op_add (pv 8) pe_int) pa_nil)) (pv 2))))) pa_nil)) pps_nil) (by rfl) (by rfl) (fun z => by cases z) (by decide)))
    (pss_cons (ps_for PassesOwn.never rfl (pi_str (pe_slice sl_str (pv 1) (po_some pe_int) po_none)) (pg_name (i := 4) scPair.nd rfl (Or.inl rfl))
      (pss_cons (ps_par (i := 5) (j := 6) (by rfl) scPair.nd rfl rfl (by decide) rfl rfl (pa_cons (pe_call GB (hr.mono (by decide)) (by rfl) DB.m DB.F.kp DB.b .nil pass0 (pa_cons (pv 0) (pa_cons (pv 2) pa_nil))) (pa_cons (pe_call GB (hr.mono (by decide)) (by rfl) DB.m DB.F.kp DB.b .nil pass0 (pa_cons (pv 0) (pa_cons (pv 2) pa_nil))) pa_nil)) (by rfl))
      (pss_cons (ps_set (i := 7) scPair.nd rfl (Or.inl rfl) (pe_lst pa_nil))
      (pss_cons (ps_for PassesOwn.never rfl (pi_range1 rfl T.range (pa_cons (pe_op op_mul (pv 2) (pv 2)) pa_nil)) (pg_name (i := 8) scPair.nd rfl (Or.inl rfl))
        (pss_cons (ps_set (i := 9) scPair.nd rfl (Or.inl rfl) (pe_op op_modN (pe_callTy call_int1 (by rfl) T.int (by decide +kernel) (pa_cons (pe_op op_add (pe_op op_add (pe_op op_fdivN (pv 8) (pv 2)) (pv 5)) (pe_op op_mul (pv 6) (pe_op op_modN (pe_callTy call_int1 (by rfl) T.int (by decide +kernel) (pa_cons (pv 8) pa_nil)) (pv 2)))) pa_nil)) (pv 2)))
        (pss_one (ps_expr (pe_bm PySem.F.plainAttrs_list PySem.F.slot_list_append PySem.F.type_list_append mt_append (pv 7) (pa_cons (pe_op op_add (pe_op op_mul (pv 2) (pv 9)) (pe_op op_modN (pe_callTy call_int1 (by rfl) T.int (by decide +kernel) (pa_cons (pv 8) pa_nil)) (pv 2))) pa_nil))))))
      (pss_one (ps_dput hu (pv 3) (pv 4) (pe_callTy call_tuple_of (by rfl) T.tuple (by decide +kernel) (pa_cons (pv 7) pa_nil)) rfl))))))
    (pss_one (ps_ret (pv 3))))), ?_⟩
    have sg3 := (sg_len hsg).2
    have sgl : sg.length ≤ sizeLine := Nat.le_trans sg3 (by decide)
    obtain ⟨x0, hx0, mx0⟩ := sg_head hsg
    have mm9 : m * m ≤ 9 := Nat.mul_le_mul n3 n3
    have mm1 : 1 ≤ m * m := Nat.mul_le_mul n1 n1
    have en : ((m : Int) * (m : Int)).toNat = m * m := by rw [← Int.natCast_mul, Int.toNat_natCast]
    have cm : ∀ z : Int, CMul (m : Int) z := fun _ => .inl ⟨by omega, by omega⟩
    intro F nF
    have nFc : F ≠ c := hc.ne nF
    refine ⟨_, rfl, sg, 0, x0, rfl, rfl, sgl, atI_nat (j := 0) hx0, ?_⟩
    refine ⟨_, rfl, _, rfl, _, _, rfl, rfl, cm _, _, rfl, ?_⟩
    have mmI : (m : Int) * (m : Int) = ((m * m : Nat) : Int) := (Int.natCast_mul m m).symm
    refine ⟨by rw [mmI]; omega, by rw [mmI]; omega, fun D nD => ?_⟩
    have nFD : F ≠ D := ne_of_none upd_same nD
    have nD0 : H D = none := by rw [← nD, upd_ne nFD.symm]
    have s1 := same_upd (o := .dK []) nF
    have hc1 := hc.same s1
    rw [en]
    let hd : List Nat := (List.range (m * m)).map fun i => m * (i / m) + (i + 1) % m
    have lhd : hd.length = m * m := by show (List.map _ _).length = _; rw [List.length_map, List.length_range]
    have hhd : ∀ q ∈ hd, q < m * m := fun q hq => by
      obtain ⟨i, hi, rfl⟩ := List.mem_map.mp hq
      have := List.mem_range.mp hi
      exact pair_lt (Nat.div_lt_of_lt_mul this) (Nat.mod_lt _ n1)
    refine Lc.lcRS (ys := natsV hd) nD (by rw [List.length_map, lhd]) (Nat.lt_of_le_of_lt mm9 (by decide)) (fun _ => rfl) ?_ ?_
    · intro j y H3 hj hy s3 Q' q'
      rw [List.getElem?_map, List.getElem?_map, List.getElem?_range hj] at hy
      cases hy
      refine ⟨_, rfl, _, rfl, _, rfl, _, _, rfl, rfl, ⟨by omega, by omega⟩, .inl ⟨_, rfl, _, _, rfl, rfl, cm _, ?_⟩⟩
      refine ⟨_, rfl, _, _, rfl, rfl, .inl ⟨_, rfl, _, rfl, _, _, rfl, rfl, (show (m : Int) ≠ 0 by omega), _, _, rfl, rfl, ?_⟩⟩
      show Q' (V.int _) H3
      rw [pair_head n1]
      exact q' H3 (Same.refl _)
    intro H3 s3 e3
    refine ⟨D, _, rfl, .inl ⟨SqL.of e3, fun rr nr => ?_⟩⟩
    have s4 := same_upd (o := .tup (natsV hd)) nr
    have hrr : RowAt (upd H3 rr (.tup (natsV hd))) rr hd := upd_same
    have hc4 := (hc1.same s3).same s4
    have e4 := s4 _ _ (s3 _ _ upd_same)
    have b4 : But c H _ := But.of ((s1.trans s3).trans s4)
    generalize upd H3 rr (.tup (natsV hd)) = H4 at hrr hc4 e4 b4 ⊢
    refine ⟨e4, [(Sum.inr (one x0), .ref rr)], rfl, (by show 1 ≤ 15; decide), ?_⟩
    have kF : KeepT H4 (upd H4 F (.dK [(Sum.inr (one x0), V.ref rr)])) := KeepT.upd (.dK e4)
    show tSeq _ _ _ _ (upd H4 F (.dK [(Sum.inr (one x0), V.ref rr)]))
    have hc5 : Cup (upd H4 F (.dK [(Sum.inr (one x0), V.ref rr)])) c := hc4.put nFc
    have b5 : But c H (upd H4 F (.dK [(Sum.inr (one x0), V.ref rr)])) := b4.putN nF
    have e5 : (upd H4 F (.dK [(Sum.inr (one x0), V.ref rr)])) F = some (.dK [(Sum.inr (one x0), V.ref rr)]) := upd_same
    have hr5 : RowAt (upd H4 F (.dK [(Sum.inr (one x0), V.ref rr)])) rr hd := kF _ _ hrr
    generalize upd H4 F (.dK [(Sum.inr (one x0), V.ref rr)]) = H5 at hc5 b5 e5 hr5 ⊢
    have ecut := cut_fr (z := sg) 1
    have lcut : (cds (cutS sg (some ((1 : Nat) : Int)) none)).length = (cds sg).length - 1 := by rw [ecut, List.length_drop]
    have lsg : (cds sg).length = sg.length := cds_len _
    have sg0 := (sg_len hsg).1
    refine ⟨_, rfl, _, rfl, _, rfl, sgl, _, rfl, ?_⟩
    refine Lc.for_text (x := cutS sg (some ((1 : Nat) : Int)) none) (fun i σ H1 => ∃ (t4 t5 t6 t7 t8 t9 : Option V) (kvs : List (Key × V)) (W : List Way), σ = [some (.ref c), some (.str sg), some (.int (m : Int)), some (.ref F), t4, t5, t6, t7, t8, t9] ∧ Cup H1 c ∧ But c H H1 ∧ H1 F = some (.dK kvs) ∧ WsAt H1 kvs W ∧ W.map (·.1) = (cds sg).take (i + 1) ∧ ∀ w ∈ W, w.2.length = m * m ∧ ∀ q ∈ w.2, q < m * m)
      ⟨none, none, none, none, none, none, [(Sum.inr (one x0), V.ref rr)], [(x0, hd)], rfl, hc5, b5, e5, .cons ⟨rr, rfl, hr5⟩ .nil, ?_, ?_⟩ ?_ ?_
    · rw [List.take_add_one, hx0]
      rfl
    · intro w hw
      rw [List.mem_singleton.mp hw]
      exact ⟨lhd, hhd⟩
    · rintro i x σ H1 hx ⟨t4, t5, t6, t7, t8, t9, kvs, W, rfl, hc1, b1, e1, hw, hW, hr2⟩
      have hi := (List.getElem?_eq_some_iff.mp hx).1
      have hx : (cds (cutS sg (some ((1 : Nat) : Int)) none))[i]? = some x := hx
      rw [ecut, List.getElem?_drop, Nat.add_comm] at hx
      have hi2 := (List.getElem?_eq_some_iff.mp hx).1
      refine ⟨_, rfl, _, rfl, c, (m : Int), rfl, hc1, by omega, small9000 (by omega) (by omega), fun st H2 st0 st1 hc2 b2 => ?_⟩
      obtain ⟨st, rfl⟩ : ∃ k : Nat, st = (k : Int) := ⟨st.toNat, by omega⟩
      refine ⟨_, rfl, _, rfl, c, (m : Int), rfl, hc2, by omega, small9000 (by omega) (by omega), fun tm H3 tm0 tm1 hc3 b3 => ?_⟩
      obtain ⟨tm, rfl⟩ : ∃ k : Nat, tm = (k : Int) := ⟨tm.toNat, by omega⟩
      have e3 := b3 _ _ nFc (b2 _ _ nFc e1)
      have hw3 := (hw.keep (KeepT.but hc1.noT b2)).keep (KeepT.but hc2.noT b3)
      have b03 := (b1.trans b2).trans b3
      refine ⟨_, _, rfl, (by show 0 ≤ sizeLine; decide), fun R nR => ?_⟩
      have nRc : R ≠ c := hc3.ne nR
      have nR0 : H R = none := by
        cases e : H R with
        | none => rfl
        | some o => rw [b03 _ _ nRc e] at nR; cases nR
      have s4 := same_upd (o := .lst []) nR
      have e4 := s4 _ _ e3
      have hw4 := hw3.keep (.same s4)
      have hc4 := hc3.same s4
      have b4 : But c H _ := b03.trans (But.of s4)
      have eR4 : (upd H3 R (.lst [])) R = some (.lst []) := upd_same
      generalize upd H3 R (.lst []) = H4 at e4 hw4 hc4 b4 eR4 ⊢
      let f1 : Nat → Nat := fun i => m * ((i / m + st + tm * (i % m)) % m) + i % m
      have nRF : R ≠ F := fun e => by rw [e, e4] at eR4; cases eR4
      refine ⟨_, rfl, _, rfl, _, _, rfl, rfl, cm _, _, rfl, by rw [mmI]; omega, by rw [mmI]; omega, ?_⟩
      rw [en]
      refine for_range (n := m * m) (fun j σ H5 => ∃ (t8 t9 : Option V), σ = [some (.ref c), some (.str sg), some (.int (m : Int)), some (.ref F), some (.str (one x)), some (.int (st : Int)), some (.int (tm : Int)), some (.ref R), t8, t9] ∧ Cup H5 c ∧ But R H4 H5 ∧ H5 R = some (.lst (natsV ((List.range j).map f1)))) ⟨t8, t9, rfl, hc4, But.refl _ _, eR4⟩ ?_ ?_
      · rintro j σ H5 hj ⟨u8, u9, rfl, hc5, b5, eR5⟩
        have fm : 0 ≤ Int.fmod (0 + (j : Int)) (m : Int) ∧ Int.fmod (0 + (j : Int)) (m : Int) < (m : Int) := by
          rw [Int.fmod_eq_emod_of_nonneg _ (by omega)]
          exact ⟨Int.emod_nonneg _ (by omega), Int.emod_lt_of_pos _ (by omega)⟩
        refine ⟨_, rfl, _, rfl, _, _, rfl, rfl, ⟨by omega, by omega⟩, _, rfl, _, _, rfl, rfl, _, rfl, _, rfl, .inl ⟨_, rfl, _, rfl, _, _, rfl, rfl, (show (m : Int) ≠ 0 by omega), _, _, rfl, rfl, .inl ⟨by omega, by omega⟩, _, _, rfl, rfl, .inl ⟨_, rfl, _, rfl, _, _, rfl, rfl, (show (m : Int) ≠ 0 by omega), ?_⟩⟩⟩
        refine ⟨_, rfl, .inl ⟨rfl, _, SqL.of eR5⟩, _, rfl, _, rfl, _, _, rfl, rfl, cm _, _, rfl, .inl ⟨_, rfl, _, rfl, _, _, rfl, rfl, (show (m : Int) ≠ 0 by omega), _, _, rfl, rfl, R, _, _, rfl, rfl, eR5, ?_, _, _, rfl, hc5.put nRc, fun b o n e => by rw [upd_ne n]; exact b5 _ _ n e, ?_⟩⟩
        · rw [List.length_map, List.length_map, List.length_range]
          exact Nat.lt_of_le_of_lt (show _ ≤ 9 by omega) (by decide)
        · have ev : V.int ((m : Int) * Int.fmod (Int.fdiv (0 + (j : Int)) (m : Int) + (st : Int) + (tm : Int) * Int.fmod (0 + (j : Int)) (m : Int)) (m : Int) + Int.fmod (0 + (j : Int)) (m : Int)) = V.int (f1 j : Int) := congrArg V.int (by
            rw [pair_row n1, Int.zero_add, Int.fmod_eq_emod_of_nonneg _ (by omega)]
            rfl)
          rw [upd_same]
          show some (HO.lst (_ ++ [V.int _])) = _
          rw [ev, List.range_succ, List.map_append]
          show _ = some (HO.lst (natsV (_ ++ [f1 j])))
          unfold natsV
          rw [List.map_append]
          rfl
      · rintro σ H5 ⟨u8, u9, rfl, hc5, b5, eR5⟩
        have e5 := b5 _ _ nRF.symm e4
        have hw5 := hw4.keep (KeepT.but (NoT.lst eR4) b5)
        have b05 : But c H H5 := fun b o n e => by
          have nb : b ≠ R := fun z => by rw [z, nR0] at e; cases e
          exact b5 _ _ nb (b4 _ _ n e)
        refine ⟨_, rfl, R, _, rfl, .inl ⟨SqL.of eR5, fun rr nr => ?_⟩⟩
        let rw : List Nat := (List.range (m * m)).map f1
        have lrw : rw.length = m * m := by show (List.map _ _).length = _; rw [List.length_map, List.length_range]
        have hrw : ∀ q ∈ rw, q < m * m := fun q hq => by
          obtain ⟨i, hi, rfl⟩ := List.mem_map.mp hq
          exact pair_lt (Nat.mod_lt _ n1) (Nat.mod_lt _ n1)
        have s6 := same_upd (o := .tup (natsV rw)) nr
        have hrr : RowAt (upd H5 rr (.tup (natsV rw))) rr rw := upd_same
        have hc6 := hc5.same s6
        have e6 := s6 _ _ e5
        have hw6 := hw5.keep (.same s6)
        have b6 : But c H _ := b05.trans (But.of s6)
        show (fun (v : V) (H1 : Hp) => _) (V.ref rr) (upd H5 rr (.tup (natsV rw)))
        generalize upd H5 rr (.tup (natsV rw)) = H6 at hrr hc6 e6 hw6 b6 ⊢
        have nk : valV kvs (Sum.inr (one x) : Key) = none := ways_none hw6 (by rw [hW]; exact not_taken (sg_nodup hsg) hx)
        refine ⟨_, rfl, _, rfl, F, _, rfl, DPut.k (k := (Sum.inr (one x) : Key)) e6 ?_, ?_⟩
        · have h1 := ways_len hw
          have h2 := congrArg List.length hW
          rw [List.length_map, List.length_take] at h2
          exact Nat.lt_of_le_of_lt (show kvs.length ≤ 3 by omega) (by decide)
        have kF : KeepT H6 (upd H6 F (.dK (putK kvs (Sum.inr (one x)) (.ref rr)))) := KeepT.upd (.dK e6)
        refine ⟨_, _, _, _, _, _, kvs ++ [(Sum.inr (one x), .ref rr)], W ++ [(x, rw)], rfl, hc6.put nFc, b6.putN nF, by rw [upd_same, putK_new nk], hw6.put kF (kF _ _ hrr), ?_, ?_⟩
        · rw [List.map_append, hW, List.take_add_one (i := i + 1), hx]
          rfl
        · intro w hw
          rcases List.mem_append.mp hw with hw | hw
          · exact hr2 w hw
          · rw [List.mem_singleton.mp hw]
            exact ⟨lrw, hrw⟩
    · rintro σ H1 ⟨t4, t5, t6, t7, t8, t9, kvs, W, rfl, hc1, b1, e1, hw, hW, hr2⟩
      have hW : W.map (·.1) = (cds sg).take ((cds (cutS sg (some ((1 : Nat) : Int)) none)).length + 1) := hW
      rw [lcut, List.take_of_length_le (by omega)] at hW
      exact ⟨_, rfl, q F W H1 ⟨kvs, e1, hw⟩ ⟨by rw [hW], hr2, mm1, Nat.le_trans mm9 (by decide)⟩ hW hc1 b1⟩
end
end K24

set_option Elab.async false
set_option linter.all false
set_option maxRecDepth 100000
set_option maxHeartbeats 6400000
namespace K24
open PySem L2 Tx Tg Tm Da RZ
/-- a reader as plain data -/
abbrev kvP (sg : Str) (d g : Addr) : List (Key × V) := [(Sum.inr "signs", .str sg), (Sum.inr "ways", .ref d), (Sum.inr "good", .ref g)]
def PlainAt (H : Hp) (p : Addr) (r : Rdr) : Prop := ∃ d g, H p = some (.dK (kvP r.sg d g)) ∧ MovAt H d r.W ∧ RowAt H g r.G ∧ okR r
theorem PlainAt.ok {H : Hp} {p : Addr} {r : Rdr} (h : PlainAt H p r) : okR r := let ⟨_, _, _, _, _, ok⟩ := h; ok
theorem PlainAt.same {H H' : Hp} {p : Addr} {r : Rdr} (s : Same H H') (h : PlainAt H p r) : PlainAt H' p r := let ⟨d, g, e, m, y, ok⟩ := h; ⟨d, g, s _ _ e, m.same s, s _ _ y, ok⟩
theorem PlainAt.but {c : Addr} {H H' : Hp} {p : Addr} {r : Rdr} (hc : Cup H c) (b : But c H H') (h : PlainAt H p r) : PlainAt H' p r := by
  obtain ⟨d, g, e, m, y, ok⟩ := h
  exact ⟨d, g, b _ _ (hc.noD e) e, m.but hc b, RowAt.but hc b y, ok⟩
/-- what comes after, from a state that several ways lead to -/
theorem two {a b : TS} {D : Ends} {σ : L2.St} {H : Hp} (I : L2.St → Hp → Prop) (hb : ∀ σ H, I σ H → b D σ H) (ha : (∀ σ H, I σ H → b D σ H) → tSeq a b D σ H) : tSeq a b D σ H := ha hb
section
variable {P : Program} {w : World} {K : PySem.W.Frag} {mg : Str → Option Value} {base : Heap}
def spPlain : Sp := fun vs H Q _ => ∃ (c : Addr) (sg : Str), vs = [.ref c, .str sg] ∧ Cup H c ∧ Signs sg ∧ ∀ p r H', PlainAt H' p r → r.sg = sg → Cup H' c → But c H H' → Q (.ref p) H'
abbrev nTurner : List Str := ["_law_cup_here", "_law_signs_here", "_law_lot", "_law_ways"]
theorem scTurner : FnScope nTurner ["_law_cup_here", "_law_signs_here"] (defScope sTurner) := ⟨rfl, rfl, rfl, by decide +kernel, rfl, by decide +kernel, by decide +kernel⟩
/-- what draws -/
structure Dr1 (K : PySem.W.Frag) (mg : Str → Option Value) (fB fP fD fS fA fT fR f2 : Addr) (dB dP dD dS dA dT dR d2 : FuncData) : Prop where
  B : Df K mg "_law_bit" sBit ["_law_cup_here", "_law_much"] fB dB
  P : Df K mg "_law_pick" sPick ["_law_cup_here", "_law_items"] fP dP
  D : Df K mg "_law_dealt" sDealt ["_law_cup_here", "_law_items"] fD dD
  S : Df K mg "_law_some_of" sSome ["_law_cup_here", "_law_many"] fS dS
  A : Df K mg "_law_any_ways" sAny ["_law_cup_here", "_law_signs_here", "_law_many"] fA dA
  T : Df K mg "_law_turning_ways" sTurning ["_law_cup_here", "_law_signs_here", "_law_many"] fT dT
  R : Df K mg "_law_ring_ways" sRing ["_law_cup_here", "_law_signs_here", "_law_many"] fR dR
  P2 : Df K mg "_law_pair_ways" sPair ["_law_cup_here", "_law_signs_here", "_law_many"] f2 d2
variable {fB fP fD fS fA fT fR f2 : Addr} {dB dP dD dS dA dT dR d2 : FuncData}
theorem ok_turner {f : Addr} {fd : FuncData} (F : Fun K "_law_turner" "_law_turner" sTurner f fd) (T : Txt K mg) (B : Dr1 K mg fB fP fD fS fA fT fR f2 dB dP dD dS dA dT dR d2) : FnOk P w K mg base CX0 4 f fd ["_law_cup_here", "_law_signs_here"] spPlain := by
  have DB := B.B
  have DP := B.P
  have DT := B.T
  have DR := B.R
  have D2 := B.P2
  have DS := B.S
  have GB := ok_bit (P := P) (w := w) (base := base) DB.F T
  have GP := ok_pick (P := P) (w := w) (base := base) DP.F T DB
  have GT := ok_turning (P := P) (w := w) (base := base) DT.F T DB B.D
  have GR := ok_ring (P := P) (w := w) (base := base) DR.F T DB
  have G2 := ok_pair (P := P) (w := w) (base := base) D2.F T DB
  have GS := ok_some (P := P) (w := w) (base := base) DS.F T DB
  refine F.ok scTurner (fun vs H Q E h => ?_) (fun cdv A outer s H vs Q E hr h => ?_)
  · obtain ⟨c, sg, rfl, _⟩ := h
    rfl
  · obtain ⟨c, sg, rfl, hc, hsg, q⟩ := h
    have hu := hu_of hr
    refine ⟨_, (pss_cons (ps_set (i := 2) scTurner.nd rfl (Or.inl rfl) (pe_call GB (hr.mono (by decide)) (by rfl) DB.m DB.F.kp DB.b .nil pass0 (pa_cons (pv 0) (pa_cons pe_int pa_nil))))
    (pss_cons (ps_if (pt_cmpR op_eq (pv 2) pe_int (nomark _)) (pss_one (ps_set (i := 3) scTurner.nd rfl (Or.inl rfl) (pe_call GT (hr.mono (by decide)) (by rfl) DT.m DT.F.kp DT.b .nil pass0 (pa_cons (pv 0) (pa_cons (pv 1) (pa_cons (pe_op op_add pe_int (pe_call GB (hr.mono (by decide)) (by rfl) DB.m DB.F.kp DB.b .nil pass0 (pa_cons (pv 0) (pa_cons pe_int pa_nil)))) pa_nil)))))) (pss_one (ps_if (pt_cmpR op_lt (pv 2) pe_int (nomark _)) (pss_one (ps_set (i := 3) scTurner.nd rfl (Or.inl rfl) (pe_call GR (hr.mono (by decide)) (by rfl) DR.m DR.F.kp DR.b .nil pass0 (pa_cons (pv 0) (pa_cons (pv 1) (pa_cons (pe_call GP (hr.mono (by decide)) (by rfl) DP.m DP.F.kp DP.b .nil pass0 (pa_cons (pv 0) (pa_cons (pe_lst (pa_cons pe_int (pa_cons pe_int (pa_cons pe_int (pa_cons pe_int (pa_cons pe_int (pa_cons pe_int (pa_cons pe_int (pa_cons pe_int pa_nil))))))))) pa_nil))) pa_nil)))))) (pss_one (ps_set (i := 3) scTurner.nd rfl (Or.inl rfl) (pe_call G2 (hr.mono (by decide)) (by rfl) D2.m D2.F.kp D2.b .nil pass0 (pa_cons (pv 0) (pa_cons (pv 1) (pa_cons (pe_call GP (hr.mono (by decide)) (by rfl) DP.m DP.F.kp DP.b .nil pass0 (pa_cons (pv 0) (pa_cons (pe_lst (pa_cons pe_int (pa_cons pe_int (pa_cons pe_int pa_nil)))) pa_nil))) pa_nil)))))))))
    (pss_one (ps_ret (pe_disp (pps_cons pe_str (pv 1) (pps_cons pe_str (pv 3) (pps_cons pe_str (pe_call GS (hr.mono (by decide)) (by rfl) DS.m DS.F.kp DS.b .nil pass0 (pa_cons (pv 0) (pa_cons (pe_callB call_len_seq (by rfl) T.len PySem.boot_len (pa_cons (pe_dget hu (pv 3) (pe_ix ix_str (pv 1) pe_int (fun _ _ => rfl)) (fun _ _ => rfl)) pa_nil)) pa_nil))) pps_nil))) (by rfl) (by rfl) (fun z => by cases z) (by decide)))))), ?_⟩
    obtain ⟨x0, hx0, mx0⟩ := sg_head hsg
    have sgl : sg.length ≤ sizeLine := Nat.le_trans (sg_len hsg).2 (by decide)
    refine ⟨_, rfl, c, 5, rfl, hc, by decide, small9000 (by decide) (by decide), fun r H1 r0 r5 hc1 b1 => ?_⟩
    dsimp only [gName]
    refine two (fun σ H2 => ∃ d W n, σ = [some (.ref c), some (.str sg), some (.int r), some (.ref d)] ∧ MovAt H2 d W ∧ okW n sg W ∧ W.map (·.1) = cds sg ∧ Cup H2 c ∧ But c H H2) ?_ fun tl => ?_
    · rintro σ H2 ⟨d, W, n, rfl, hM, ok, ord, hc2, b2⟩
      obtain ⟨l0, hl0, ll0, lq0⟩ := ok.has mx0
      intro p np
      have s3 := same_upd (o := .dK []) np
      have hc3 := hc2.same s3
      have b3 : But c H2 _ := But.of s3
      have hM3 := hM.same s3
      have e3 : (upd H2 p (.dK [])) p = some (.dK []) := upd_same
      generalize upd H2 p (.dK []) = H3 at hc3 b3 hM3 e3 ⊢
      have npc : p ≠ c := hc2.ne np
      obtain ⟨kvs, ed, hw⟩ := id hM3
      obtain ⟨p0, g0, r0⟩ := ways_get hw (ok.nodup hsg) hl0
      have G0 : DGet H3 d (.str (one x0)) (some (.ref p0)) := by
        have := DGet.k (k := (Sum.inr (one x0) : Key)) ed
        rw [g0] at this
        exact this
      refine ⟨_, rfl, _, rfl, _, rfl, _, rfl, _, rfl, sg, 0, x0, rfl, rfl, sgl, atI_nat (j := 0) hx0, d, _, rfl, G0, p0, _, rfl, .inr (SqT.of r0), ?_⟩
      refine ⟨c, n, by rw [List.length_map, ll0]; rfl, hc3, ok.most, fun g G H4 hG okg lG hc4 b4 => ?_⟩
      refine ⟨b4 _ _ npc e3, kvP sg d g, rfl, (by show 3 ≤ 15; decide), ?_⟩
      have kp : KeepT H4 (upd H4 p (.dK (kvP sg d g))) := KeepT.upd (.dK (b4 _ _ npc e3))
      have hM4 := hM3.but hc3 b4
      refine q p ⟨sg, W, G, n⟩ _ ⟨d, g, upd_same, ?_, kp _ _ hG, ⟨hsg, ord, ok, okg, Nat.le_trans lG ok.most⟩⟩ rfl (hc4.put npc) ?_
      · obtain ⟨kvs2, e2, _⟩ := hM
        obtain ⟨kvs4, e4, hw4⟩ := hM4
        exact ⟨kvs4, by rw [upd_ne (ne_of_none e2 np)]; exact e4, hw4.keep kp⟩
      · exact b2.trans ((b3.trans b4).putN np)
    · refine ⟨_, rfl, rfl, _, rfl, ?_⟩
      by_cases h0 : r = 0
      · rw [decide_eq_true (congrArg V.int h0)]
        refine iteT ?_
        refine ⟨_, rfl, _, rfl, _, rfl, c, 4, rfl, hc1, by decide, small9000 (by decide) (by decide), fun k H2 k0 k4 hc2 b2 => ?_⟩
        obtain ⟨k, rfl⟩ : ∃ z : Nat, k = (z : Int) := ⟨k.toNat, by omega⟩
        refine ⟨_, _, rfl, rfl, c, sg, 2 + k, rfl, hc2, hsg, by omega, by omega, fun d W H3 hM ok ord hc3 b3 => ?_⟩
        exact tl _ _ ⟨d, W, 2 + k, rfl, hM, ok, ord, hc3, (b1.trans b2).trans b3⟩
      · rw [decide_eq_false (fun e => h0 (by injection e))]
        refine iteF ?_
        refine ⟨_, rfl, _, _, rfl, rfl, _, rfl, ?_⟩
        by_cases h3 : r < 3
        · rw [decide_eq_true h3]
          refine iteT ?_
          refine ⟨_, rfl, _, rfl, _, rfl, (by show 8 ≤ sizeLine; decide), fun L nL => ?_⟩
          have sL := same_upd (o := .lst [.int 2, .int 3, .int 4, .int 5, .int 6, .int 7, .int 8, .int 9]) nL
          refine ⟨c, hc1.same sL, .inl ⟨L, _, rfl, hc1.ne nL, upd_same, by decide, by decide, fun x H2 hx hc2 b2 => ?_⟩⟩
          obtain ⟨k, hk, k1, k9⟩ : ∃ k : Nat, x = .int (k : Int) ∧ 1 ≤ k ∧ k ≤ 9 := by
            simp only [List.mem_cons, List.not_mem_nil, or_false] at hx
            rcases hx with rfl | rfl | rfl | rfl | rfl | rfl | rfl | rfl
            · exact ⟨2, rfl, by decide, by decide⟩
            · exact ⟨3, rfl, by decide, by decide⟩
            · exact ⟨4, rfl, by decide, by decide⟩
            · exact ⟨5, rfl, by decide, by decide⟩
            · exact ⟨6, rfl, by decide, by decide⟩
            · exact ⟨7, rfl, by decide, by decide⟩
            · exact ⟨8, rfl, by decide, by decide⟩
            · exact ⟨9, rfl, by decide, by decide⟩
          refine ⟨c, sg, k, by rw [hk]; rfl, hc2, hsg, k1, Nat.le_trans k9 (by decide), fun d W H3 hM ok ord hc3 b3 => ?_⟩
          exact tl _ _ ⟨d, W, k, rfl, hM, ok, ord, hc3, (b1.trans ((But.of sL).trans b2)).trans b3⟩
        · rw [decide_eq_false h3]
          refine iteF ?_
          refine ⟨_, rfl, _, rfl, _, rfl, (by show 3 ≤ sizeLine; decide), fun L nL => ?_⟩
          have sL := same_upd (o := .lst [.int 2, .int 2, .int 3]) nL
          refine ⟨c, hc1.same sL, .inl ⟨L, _, rfl, hc1.ne nL, upd_same, by decide, by decide, fun x H2 hx hc2 b2 => ?_⟩⟩
          obtain ⟨k, hk, k1, k9⟩ : ∃ k : Nat, x = .int (k : Int) ∧ 1 ≤ k ∧ k ≤ 3 := by
            simp only [List.mem_cons, List.not_mem_nil, or_false] at hx
            rcases hx with rfl | rfl | rfl
            · exact ⟨2, rfl, by decide, by decide⟩
            · exact ⟨2, rfl, by decide, by decide⟩
            · exact ⟨3, rfl, by decide, by decide⟩
          refine ⟨c, sg, k, by rw [hk]; rfl, hc2, hsg, k1, k9, fun d W H3 hM ok ord hc3 b3 => ?_⟩
          exact tl _ _ ⟨d, W, k * k, rfl, hM, ok, ord, hc3, (b1.trans ((But.of sL).trans b2)).trans b3⟩
abbrev nPlain : List Str := ["_law_cup_here", "_law_signs_here", "_law_many"]
theorem scPlain : FnScope nPlain ["_law_cup_here", "_law_signs_here"] (defScope sPlain) := ⟨rfl, rfl, rfl, by decide +kernel, rfl, by decide +kernel, by decide +kernel⟩
theorem ok_plain {f fN : Addr} {fd dN : FuncData} (F : Fun K "_law_plain_reader" "_law_plain_reader" sPlain f fd) (T : Txt K mg) (B : Dr1 K mg fB fP fD fS fA fT fR f2 dB dP dD dS dA dT dR d2) (DT : Df K mg "_law_turner" sTurner ["_law_cup_here", "_law_signs_here"] fN dN) : FnOk P w K mg base CX0 5 f fd ["_law_cup_here", "_law_signs_here"] spPlain := by
  have DB := B.B
  have DA := B.A
  have DS := B.S
  have GB := ok_bit (P := P) (w := w) (base := base) DB.F T
  have GT := ok_turner (P := P) (w := w) (base := base) DT.F T B
  have GA := ok_any (P := P) (w := w) (base := base) DA.F T DB
  have GS := ok_some (P := P) (w := w) (base := base) DS.F T DB
  refine F.ok scPlain (fun vs H Q E h => ?_) (fun cdv A outer s H vs Q E hr h => ?_)
  · obtain ⟨c, sg, rfl, _⟩ := h
    rfl
  · obtain ⟨c, sg, rfl, hc, hsg, q⟩ := h
    have hu := hu_of hr
    refine ⟨_, (pss_cons (ps_if (pt_cmpR op_eq (pe_call GB (hr.mono (by decide)) (by rfl) DB.m DB.F.kp DB.b .nil pass0 (pa_cons (pv 0) (pa_cons pe_int pa_nil))) pe_int (nomark _)) (pss_one (ps_ret (pe_call GT (hr.mono (by decide)) (by rfl) DT.m DT.F.kp DT.b .nil pass0 (pa_cons (pv 0) (pa_cons (pv 1) pa_nil))))) pss_nil)
    (pss_cons (ps_set (i := 2) scPlain.nd rfl (Or.inl rfl) (pe_op op_add pe_int (pe_call GB (hr.mono (by decide)) (by rfl) DB.m DB.F.kp DB.b .nil pass0 (pa_cons (pv 0) (pa_cons pe_int pa_nil)))))
    (pss_one (ps_ret (pe_disp (pps_cons pe_str (pv 1) (pps_cons pe_str (pe_call GA (hr.mono (by decide)) (by rfl) DA.m DA.F.kp DA.b .nil pass0 (pa_cons (pv 0) (pa_cons (pv 1) (pa_cons (pv 2) pa_nil)))) (pps_cons pe_str (pe_call GS (hr.mono (by decide)) (by rfl) DS.m DS.F.kp DS.b .nil pass0 (pa_cons (pv 0) (pa_cons (pv 2) pa_nil))) pps_nil))) (by rfl) (by rfl) (fun z => by cases z) (by decide)))))), ?_⟩
    refine ⟨_, rfl, c, 2, rfl, hc, by decide, small9000 (by decide) (by decide), fun r H1 r0 r5 hc1 b1 => ?_⟩
    refine ⟨rfl, _, rfl, ?_⟩
    by_cases h0 : r = 0
    · rw [decide_eq_true (congrArg V.int h0)]
      refine iteT ?_
      exact ⟨_, rfl, _, rfl, c, sg, rfl, hc1, hsg, fun p r H2 hp e hc2 b2 => q p r H2 hp e hc2 (b1.trans b2)⟩
    · rw [decide_eq_false (fun e => h0 (by injection e))]
      refine iteF ?_
      refine ⟨_, rfl, c, 6, rfl, hc1, by decide, small9000 (by decide) (by decide), fun k H2 k0 k4 hc2 b2 => ?_⟩
      obtain ⟨k, rfl⟩ : ∃ z : Nat, k = (z : Int) := ⟨k.toNat, by omega⟩
      refine ⟨_, _, rfl, rfl, fun p np => ?_⟩
      have npc : p ≠ c := hc2.ne np
      have s3 := same_upd (o := .dK []) np
      have hc3 := hc2.same s3
      have b3 : But c H2 _ := But.of s3
      have e3 : (upd H2 p (.dK [])) p = some (.dK []) := upd_same
      generalize upd H2 p (.dK []) = H3 at hc3 b3 e3 ⊢
      refine ⟨_, rfl, _, rfl, _, rfl, _, rfl, c, sg, 1 + k, rfl, hc3, hsg, by omega, by omega, fun d W H4 hM ok ord hc4 b4 => ?_⟩
      refine ⟨_, rfl, _, rfl, c, 1 + k, rfl, hc4, by omega, fun g G H5 hG okg lG hc5 b5 => ?_⟩
      have e5 := b5 _ _ npc (b4 _ _ npc e3)
      refine ⟨e5, kvP sg d g, rfl, (by show 3 ≤ 15; decide), ?_⟩
      have kp : KeepT H5 (upd H5 p (.dK (kvP sg d g))) := KeepT.upd (.dK e5)
      have hM5 := hM.but hc4 b5
      refine q p ⟨sg, W, G, 1 + k⟩ _ ⟨d, g, upd_same, ?_, kp _ _ hG, ⟨hsg, ord, ok, okg, Nat.le_trans lG ok.most⟩⟩ rfl (hc5.put npc) ((b1.trans b2).trans (((b3.trans b4).trans b5).putN np))
      obtain ⟨kvs5, e5', hw5⟩ := hM5
      have ndp : d ≠ p := fun e => by
        rw [e, e5] at e5'
        injection e5' with e5'
        injection e5' with e5'
        have l1 := ways_len hw5
        rw [← e5'] at l1
        have l2 := congrArg List.length ord
        rw [List.length_map, cds_len] at l2
        have := (sg_len hsg).1
        have l3 : 0 = W.length := l1
        omega
      exact ⟨kvs5, by rw [upd_ne ndp]; exact e5', hw5.keep kp⟩
end
end K24

set_option Elab.async false
set_option linter.all false
set_option maxRecDepth 100000
set_option maxHeartbeats 6400000
namespace K24
open PySem L2 Tx Tg Tm Da RZ
/-- the class, as the law sees it -/
structure MkR (P : Program) (w : World) (K : PySem.W.Frag) (mg : Str → Option Value) (base : Heap) (C fi : Addr) (di : FuncData) : Prop where
  W : WR K mg C
  M : Mk K C fi
  gi : FnOk P w K mg base CX0 5 fi di ["self", "letters", "moves", "yes"] (spInit C)
  bi : Binds K di ["self", "letters", "moves", "yes"] []
structure Cl (P : Program) (w : World) (K : PySem.W.Frag) (mg : Str → Option Value) (base : Heap) (C : Addr) where
  (fI fLe fMo fYe fLd fLn fIn fEq fSr pL pM pY : Addr)
  (dI dLe dMo dYe dLd dLn dIn dEq dSr : FuncData)
  MK : MkR P w K mg base C fI dI
  gLe : FnOk P w K mg base CX0 1 fLe dLe ["self"] (spLet C)
  gMo : FnOk P w K mg base CX0 1 fMo dMo ["self"] (spMov C)
  gYe : FnOk P w K mg base CX0 1 fYe dYe ["self"] (spYesP C)
  gLd : FnOk P w K mg base CX0 6 fLd dLd ["self", "state", "text"] (spLed C)
  gLn : FnOk P w K mg base CX0 1 fLn dLn ["self"] (spLen C)
  gIn : FnOk P w K mg base CX0 2 fIn dIn ["self", "value"] (spIn C)
  gEq : FnOk P w K mg base CX0 1 fEq dEq ["self", "other"] (spEq C)
  gEqX : FnOk P w K mg base CX0 1 fEq dEq ["self", "other"] (spEqX K C)
  gSr : FnOk P w K mg base CX0 3 fSr dSr ["self"] (spStr C)
  bLe : Binds K dLe ["self"] []
  bMo : Binds K dMo ["self"] []
  bYe : Binds K dYe ["self"] []
  bLd : Binds K dLd ["self", "state", "text"] []
  bLn : Binds K dLn ["self"] []
  bIn : Binds K dIn ["self", "value"] []
  bEq : Binds K dEq ["self", "other"] []
  bSr : Binds K dSr ["self"] []
  nf : PySem.W.notFirst K C (.ref C) = true
  ob : PySem.W.subIn K (.ref C) (.type "object") = some true
  sEq : PySem.W.findIn K (.ref C) "__eq__" = some (some (.ref fEq))
  sNe : PySem.W.findIn K (.ref C) "__ne__" = some (some (.builtin "object.__ne__"))
  sLn : PySem.W.findIn K (.ref C) "__len__" = some (some (.ref fLn))
  sIn : PySem.W.findIn K (.ref C) "__contains__" = some (some (.ref fIn))
  sSr : PySem.W.findIn K (.ref C) "__str__" = some (some (.ref fSr))
  fnEq : PySem.W.isFn K (.ref fEq) = true
  fnLn : PySem.W.isFn K (.ref fLn) = true
  fnIn : PySem.W.isFn K (.ref fIn) = true
  fnSr : PySem.W.isFn K (.ref fSr) = true
  mLd : Meth K C "led" fLd
  pLe : PropOf K C "letters" pL fLe
  pMo : PropOf K C "moves" pM fMo
  pYe : PropOf K C "yes" pY fYe
theorem ordW_self {sg : Str} {W : List Way} (hs : Signs sg) (e : W.map (·.1) = cds sg) : ordW sg W = W := by
  unfold ordW
  rw [← e, List.map_map]
  have nd : (W.map (·.1)).Nodup := by rw [e]; exact sg_nodup hs
  have : ∀ w ∈ W, ((fun c => (c, row W c)) ∘ fun w : Way => w.1) w = w := fun w hw => Prod.ext rfl (row_eq (l := w.2) nd hw)
  rw [List.map_congr_left this, List.map_id']
/-- what a dict of a reader holds -/
theorem PlainAt.get {H : Hp} {p : Addr} {r : Rdr} (h : PlainAt H p r) : ∃ d g, DGet H p (.str "signs") (some (.str r.sg)) ∧ DGet H p (.str "ways") (some (.ref d)) ∧ DGet H p (.str "good") (some (.ref g)) ∧ MovAt H d r.W ∧ RowAt H g r.G := by
  obtain ⟨d, g, e, m, y, ok⟩ := h
  refine ⟨d, g, ?_, ?_, ?_, m, y⟩
  · exact DGet.k (k := (Sum.inr "signs" : Key)) e
  · exact DGet.k (k := (Sum.inr "ways" : Key)) e
  · exact DGet.k (k := (Sum.inr "good" : Key)) e
section
variable {P : Program} {w : World} {K : PySem.W.Frag} {mg : Str → Option Value} {base : Heap} {CC : Addr}
abbrev nRead : List Str := ["_law_plain", "_law_at", "_law_line_here", "_law_sign"]
def spRead : Sp := fun vs H Q _ => ∃ (p : Addr) (r : Rdr) (q : Nat) (z : Str), vs = [.ref p, .int (q : Int), .str z] ∧ PlainAt H p r ∧ q < r.n ∧ Over r.sg z ∧ (run r.W q (cds z) < r.n → Q (.int (run r.W q (cds z) : Int)) H)
theorem scRead : FnScope nRead ["_law_plain", "_law_at", "_law_line_here"] (defScope sRead) := ⟨rfl, rfl, rfl, by decide +kernel, rfl, by decide +kernel, by decide +kernel⟩
theorem ok_read {f : Addr} {fd : FuncData} (F : Fun K "_law_read" "_law_read" sRead f fd) : FnOk P w K mg base CX0 1 f fd ["_law_plain", "_law_at", "_law_line_here"] spRead := by
  refine F.ok scRead (fun vs H Q E h => ?_) (fun cdv A outer s H vs Q E hr h => ?_)
  · obtain ⟨p, r, q, z, rfl, _⟩ := h
    rfl
  · obtain ⟨p, r, q, z, rfl, hP, hq, hz, qq⟩ := h
    have hu := hu_of hr
    have ok := hP.ok
    obtain ⟨d, g, g1, g2, g3, ⟨kvs, ed, hw⟩, hg⟩ := hP.get
    refine ⟨_, (pss_cons (ps_for PassesOwn.never rfl (pi_str (pv 2)) (pg_name (i := 3) scRead.nd rfl (Or.inl rfl))
      (pss_one (ps_set (i := 1) scRead.nd rfl (Or.inl rfl) (pe_ix ix_tup (pe_dget hu (pe_dget hu (pv 0) pe_str (fun _ _ => rfl)) (pv 3) (fun _ _ => rfl)) (pv 1) (fun _ _ => rfl)))))
    (pss_one (ps_ret (pv 1)))), ?_⟩
    refine ⟨_, rfl, z, rfl, ?_⟩
    refine Lc.for_text (fun i σ H1 => ∃ t4 : Option V, σ = [some (.ref p), some (.int (run r.W q ((cds z).take i) : Int)), some (.str z), t4] ∧ H1 = H ∧ run r.W q ((cds z).take i) < r.n) ⟨none, rfl, rfl, hq⟩ ?_ ?_
    · rintro i c σ H1 hc ⟨t4, rfl, rfl, hlt⟩
      obtain ⟨p1, l1, e1, r1, a1, b1⟩ := step_at ok.W ok.sg hw (hz c (List.mem_of_getElem? hc)) hlt
      have G1 : DGet H1 d (.str (one c)) (some (.ref p1)) := by
        have := DGet.k (k := (Sum.inr (one c) : Key)) ed
        rw [e1] at this
        exact this
      have e : run r.W q ((cds z).take (i + 1)) = step r.W (run r.W q ((cds z).take i)) c := by
        rw [List.take_add_one, hc]
        exact run_snoc ..
      refine ⟨_, rfl, p, _, rfl, g2, _, rfl, d, _, rfl, G1, _, rfl, p1, _, _, _, rfl, rfl, SqT.of r1, atI_nat a1, some (.str (one c)), ?_, rfl, by rw [e]; exact b1⟩
      rw [e]
      rfl
    · rintro σ H1 ⟨t4, rfl, rfl, hlt⟩
      rw [List.take_of_length_le (Nat.le_refl _)] at hlt ⊢
      exact ⟨_, rfl, qq hlt⟩
abbrev nSays : List Str := ["_law_plain", "_law_line_here"]
def spSays : Sp := fun vs H Q _ => ∃ (p : Addr) (r : Rdr) (z : Str), vs = [.ref p, .str z] ∧ PlainAt H p r ∧ Over r.sg z ∧ Q (.bl (decide (run r.W 0 (cds z) ∈ r.G))) H
theorem scSays : FnScope nSays ["_law_plain", "_law_line_here"] (defScope sSays) := ⟨rfl, rfl, rfl, by decide +kernel, rfl, by decide +kernel, by decide +kernel⟩
theorem ok_says {f fR : Addr} {fd dR : FuncData} (F : Fun K "_law_says_yes" "_law_says_yes" sSays f fd) (DRd : Df K mg "_law_read" sRead ["_law_plain", "_law_at", "_law_line_here"] fR dR) : FnOk P w K mg base CX0 2 f fd ["_law_plain", "_law_line_here"] spSays := by
  have GRd := ok_read (P := P) (w := w) (mg := mg) (base := base) DRd.F
  refine F.ok scSays (fun vs H Q E h => ?_) (fun cdv A outer s H vs Q E hr h => ?_)
  · obtain ⟨p, r, z, rfl, _⟩ := h
    rfl
  · obtain ⟨p, r, z, rfl, hP, hz, qq⟩ := h
    have hu := hu_of hr
    have ok := hP.ok
    obtain ⟨d, g, g1, g2, g3, hM, hg⟩ := hP.get
    refine ⟨_, (pss_one (ps_ret (pe_cmpR op_in_seq (pe_call GRd (hr.mono (by decide)) (by rfl) DRd.m DRd.F.kp DRd.b .nil pass0 (pa_cons (pv 0) (pa_cons pe_int (pa_cons (pv 1) pa_nil)))) (pe_dget hu (pv 0) pe_str (fun _ _ => rfl)) (by rfl)))), ?_⟩
    refine ⟨_, rfl, _, rfl, p, r, 0, z, rfl, hP, Nat.lt_of_lt_of_le Nat.zero_lt_one ok.W.one, hz, fun hlt => ?_⟩
    refine ⟨_, rfl, p, _, rfl, g3, g, natsV r.G, rfl, .inr (SqT.of hg), rfl, List.all_eq_true.mpr (flat_nats r.G), ?_⟩
    have e : (if false = true then !inV (V.int (run r.W 0 (cds z) : Int)) (natsV r.G) else inV (V.int (run r.W 0 (cds z) : Int)) (natsV r.G)) = decide (run r.W 0 (cds z) ∈ r.G) := inV_nats _ _
    rw [e]
    exact qq
abbrev nMade : List Str := ["_law_plain"]
def spMade (C : Addr) : Sp := fun vs H Q _ => ∃ (p : Addr) (r : Rdr), vs = [.ref p] ∧ PlainAt H p r ∧ ∀ x H', Same H H' → RdAt C H' x r → Q (.ref x) H'
theorem scMade : FnScope nMade ["_law_plain"] (defScope sMade) := ⟨rfl, rfl, rfl, by decide +kernel, rfl, by decide +kernel, by decide +kernel⟩
theorem made_tail {C : Addr} {H : Hp} {Q : VK} {E : XK} {sg : Str} {d g : Addr} {W : List Way} {G : List Nat} {n : Nat} (hsg : Signs sg) (hM : MovAt H d W) (ok : okW n sg W) (hG : RowAt H g G) (og : okG n G) (few : G.length ≤ 60) (q : ∀ x H', Same H H' → RdAt C H' x ⟨sg, ordW sg W, G, n⟩ → Q (.ref x) H') :
    ∀ x dx, H x = none → H dx = none → dx ≠ x → spInit C (.ref x :: ([V.str sg, V.ref d, V.ref g] ++ [])) (upd (upd H dx (.own x)) x (.ins C dx [])) (fun v H2 => v = .non ∧ Q (.ref x) H2) E := fun x dx nx ndx nex => by
  have sX : Same H (upd (upd H dx (.own x)) x (.ins C dx [])) := fun b o e => by
    rw [upd_ne (ne_of_none e nx), upd_ne (ne_of_none e ndx)]
    exact e
  refine ⟨x, dx, sg, d, g, W, G, n, rfl, upd_same, hsg, hM.same sX, ok, sX _ _ hG, og, few, fun H' b h => ⟨rfl, q x H' (fun c o e => b _ _ (ne_of_none e nx) (sX _ _ e)) h⟩⟩
theorem ok_made {f : Addr} {fd : FuncData} (F : Fun K "_law_made_reader" "_law_made_reader" sMade f fd) (C : Cl P w K mg base CC) : FnOk P w K mg base CX0 7 f fd ["_law_plain"] (spMade CC) := by
  refine F.ok scMade (fun vs H Q E h => ?_) (fun cdv A outer s H vs Q E hr h => ?_)
  · obtain ⟨p, r, rfl, _⟩ := h
    rfl
  · obtain ⟨p, r, rfl, hP, q⟩ := h
    have hu := hu_of hr
    have ok := hP.ok
    obtain ⟨d, g, g1, g2, g3, hM, hg⟩ := hP.get
    refine ⟨_, (pss_one (ps_ret (pe_make C.MK.M C.MK.gi (hr.mono (by decide)) (by rfl) C.MK.W.gR C.MK.bi .nil pass0 (pa_cons (pe_dget hu (pv 0) pe_str (fun _ _ => rfl)) (pa_cons (pe_dget hu (pv 0) pe_str (fun _ _ => rfl)) (pa_cons (pe_dget hu (pv 0) pe_str (fun _ _ => rfl)) pa_nil)))))), ?_⟩
    refine ⟨_, rfl, p, _, rfl, g1, _, rfl, p, _, rfl, g2, _, rfl, p, _, rfl, g3, ?_⟩
    refine made_tail ok.sg hM ok.W hg ok.G ok.few fun x H' s h => q x H' s ?_
    rw [ordW_self ok.sg ok.ord] at h
    exact h
abbrev nCount : List Str := ["_law_plain"]
def spCount : Sp := fun vs H Q _ => ∃ (p : Addr) (r : Rdr), vs = [.ref p] ∧ PlainAt H p r ∧ Q (.int (r.n : Int)) H
theorem scCount : FnScope nCount ["_law_plain"] (defScope sCount) := ⟨rfl, rfl, rfl, by decide +kernel, rfl, by decide +kernel, by decide +kernel⟩
theorem ok_count {f : Addr} {fd : FuncData} (F : Fun K "_law_state_count" "_law_state_count" sCount f fd) (T : Txt K mg) : FnOk P w K mg base CX0 1 f fd ["_law_plain"] spCount := by
  refine F.ok scCount (fun vs H Q E h => ?_) (fun cdv A outer s H vs Q E hr h => ?_)
  · obtain ⟨p, r, rfl, _⟩ := h
    rfl
  · obtain ⟨p, r, rfl, hP, q⟩ := h
    have hu := hu_of hr
    have ok := hP.ok
    obtain ⟨d, g, g1, g2, g3, ⟨kvs, ed, hw⟩, hg⟩ := hP.get
    have sgl : r.sg.length ≤ sizeLine := Nat.le_trans (sg_len ok.sg).2 (by decide)
    obtain ⟨x0, hx0, mx0⟩ := sg_head ok.sg
    obtain ⟨l0, hl0, ll0, lq0⟩ := ok.W.has mx0
    obtain ⟨p0, g0, r0⟩ := ways_get hw (ok.W.nodup ok.sg) hl0
    have G0 : DGet H d (.str (one x0)) (some (.ref p0)) := by
      have := DGet.k (k := (Sum.inr (one x0) : Key)) ed
      rw [g0] at this
      exact this
    refine ⟨_, (pss_one (ps_ret (pe_callB call_len_seq (by rfl) T.len PySem.boot_len (pa_cons (pe_dget hu (pe_dget hu (pv 0) pe_str (fun _ _ => rfl)) (pe_ix ix_str (pe_dget hu (pv 0) pe_str (fun _ _ => rfl)) pe_int (fun _ _ => rfl)) (fun _ _ => rfl)) pa_nil)))), ?_⟩
    refine ⟨_, rfl, p, _, rfl, g2, _, rfl, p, _, rfl, g1, r.sg, 0, x0, rfl, rfl, sgl, atI_nat (j := 0) hx0, d, _, rfl, G0, p0, _, rfl, .inr (SqT.of r0), ?_⟩
    rw [List.length_map, ll0]
    exact q
/-! ### shown -/
structure Sd (n w : Nat) (d : PyData) : Prop where
  sh : d.showable = true
  ls : d.leavesShort 20 = true
  dp : d.depth ≤ n
  wt : d.weight ≤ w
  nl : noL d = true
structure SdA (n w : Nat) (ds : List PyData) : Prop where
  sh : PyData.showableAll ds = true
  ls : PyData.leavesShortAll 20 ds = true
  dp : PyData.depthAll ds ≤ n
  wt : PyData.weightAll ds ≤ w
  nl : noLAll ds = true
structure SdK (n w : Nat) (ds : List (PyData × PyData)) : Prop where
  sh : PyData.showableKv ds = true
  ls : PyData.leavesShortKv 20 ds = true
  dp : PyData.depthKv ds ≤ n
  wt : PyData.weightKv ds ≤ w
  nl : noLKv ds = true
theorem SdA.cons {n m w v x : Nat} {d : PyData} {ds : List PyData} (h : Sd m v d) (k : SdA n w ds) (hm : m ≤ n) (hw : v + 1 + w ≤ x) : SdA n x (d :: ds) where
  sh := by show (d.showable && PyData.showableAll ds) = true; rw [h.sh, k.sh]; rfl
  ls := by show (d.leavesShort 20 && PyData.leavesShortAll 20 ds) = true; rw [h.ls, k.ls]; rfl
  dp := Nat.max_le.mpr ⟨Nat.le_trans h.dp hm, k.dp⟩
  wt := by show d.weight + 1 + PyData.weightAll ds ≤ x; have := h.wt; have := k.wt; omega
  nl := by show (noL d && noLAll ds) = true; rw [h.nl, k.nl]; rfl
theorem SdA.nil {n w : Nat} : SdA n w [] := ⟨rfl, rfl, Nat.zero_le _, Nat.zero_le _, rfl⟩
theorem SdA.tup {n w : Nat} {ds : List PyData} (h : SdA n w ds) : Sd (n + 1) w (.tuple ds) := ⟨h.sh, h.ls, Nat.succ_le_succ h.dp, h.wt, h.nl⟩
theorem SdK.cons {n a b v w x : Nat} {k d : PyData} {ds : List (PyData × PyData)} (hk : Sd a v k) (h : Sd n b d) (t : SdK n w ds) (ha : a ≤ n) (hw : v + b + 2 + w ≤ x) : SdK n x ((k, d) :: ds) where
  sh := by show (k.showable && d.showable && PyData.showableKv ds) = true; rw [hk.sh, h.sh, t.sh]; rfl
  ls := by show (k.leavesShort 20 && d.leavesShort 20 && PyData.leavesShortKv 20 ds) = true; rw [hk.ls, h.ls, t.ls]; rfl
  dp := Nat.max_le.mpr ⟨Nat.max_le.mpr ⟨Nat.le_trans hk.dp ha, h.dp⟩, t.dp⟩
  wt := by show k.weight + d.weight + 2 + PyData.weightKv ds ≤ x; have := hk.wt; have := h.wt; have := t.wt; omega
  nl := by show (noL d && noLKv ds) = true; rw [h.nl, t.nl]; rfl
theorem Sd.dict {n w : Nat} {ds : List (PyData × PyData)} (h : SdK n w ds) : Sd (n + 1) w (.dict ds) := ⟨h.sh, h.ls, Nat.succ_le_succ h.dp, h.wt, h.nl⟩
theorem Sd.of {n w : Nat} {d : PyData} (h : Sh n w d) (nl : noL d = true) : Sd n w d := ⟨h.sh, PyData.leavesShort_of_canLay0 20 d h.lay h.sht, h.dp, h.wt, nl⟩
theorem Sd.len {n w : Nat} {d : PyData} (h : Sd n w d) (hw : w ≤ 200000) : d.shown.length ≤ sizeLine := by
  have h2 := PyData.shown_le 20 (by decide) d h.ls
  have := h.wt
  exact Nat.le_trans h2 (Nat.le_trans (show _ ≤ 22 * 200000 + 20 by omega) (by decide))
theorem SdA.lenL {n w : Nat} {ds : List PyData} (h : SdA n w ds) (hw : w ≤ 200000) : (PyData.list ds).shown.length ≤ sizeLine := by
  have h2 := PyData.shown_le 20 (by decide) (.list ds) h.ls
  have h3 : (PyData.list ds).weight ≤ w := h.wt
  exact Nat.le_trans h2 (Nat.le_trans (show _ ≤ 22 * 200000 + 20 by omega) (by decide))
theorem sd_nats : ∀ {l : List Nat}, (∀ q ∈ l, q ≤ 1000) → SdA 0 (13 * l.length) (natsD l)
  | [], _ => .nil
  | a :: l, h => by
    refine .cons (.of (Sh.int (m := a) (w := 12) (h a List.mem_cons_self) (Nat.le_refl _)) rfl) (sd_nats fun q hq => h q (List.mem_cons_of_mem _ hq)) (Nat.le_refl _) ?_
    rw [List.length_cons]
    omega
theorem sd_one {c : Nat} (h : c < 128) : Sd 0 1 (.str (one c)) := .of (.str (fun x hx => by
  have : x ∈ [c] := hx
  rw [List.mem_singleton.mp this]
  exact h) (Nat.le_refl _)) rfl
theorem sd_ways : ∀ {W : List Way}, (∀ w ∈ W, w.1 < 128 ∧ w.2.length ≤ 60 ∧ ∀ q ∈ w.2, q ≤ 1000) → SdK 1 (800 * W.length) (waysD W)
  | [], _ => ⟨rfl, rfl, Nat.zero_le _, Nat.zero_le _, rfl⟩
  | w :: W, h => by
    obtain ⟨h1, h2, h3⟩ := h w List.mem_cons_self
    refine .cons (sd_one h1) (sd_nats h3).tup (sd_ways fun q hq => h q (List.mem_cons_of_mem _ hq)) (Nat.zero_le _) ?_
    rw [List.length_cons]
    omega
theorem sd_okW {n : Nat} {sg : Str} {W : List Way} (h : okW n sg W) (hs : Signs sg) : Sd 2 2400 (.dict (waysD W)) := by
  have l := h.len
  have := (sg_len hs).2
  have k := sd_ways (W := W) fun w hw => by
    obtain ⟨h1, h2⟩ := h.rows w hw
    have hm := h.most
    refine ⟨?_, by omega, fun q hq => by have := h2 q hq; omega⟩
    have := (sg_range hs w.1 (h.keys.mem_iff.mp (List.mem_map.mpr ⟨w, hw, rfl⟩))).2
    omega
  exact .dict ⟨k.sh, k.ls, k.dp, Nat.le_trans k.wt (by omega), k.nl⟩
theorem sd_okG {n : Nat} {G : List Nat} (h : okG n G) (hn : n ≤ 60) (few : G.length ≤ 60) : Sd 1 780 (.tuple (natsD G)) := by
  have k := sd_nats (l := G) fun q hq => by have := h.lt q hq; omega
  exact SdA.tup ⟨k.sh, k.ls, k.dp, Nat.le_trans k.wt (by omega), k.nl⟩
theorem sd_sg {sg : Str} (h : Signs sg) : Sd 0 3 (.str sg) := .of (.str (sg_plain h) (sg_len h).2) rfl
/-- the three parts of a reader -/
theorem sd_parts {r : Rdr} (ok : okR r) : SdA 2 3200 [.str r.sg, .dict (waysD r.W), .tuple (natsD r.G)] :=
  .cons (sd_sg ok.sg) (.cons (sd_okW ok.W ok.sg) (.cons (sd_okG ok.G ok.W.most ok.few) .nil (n := 2) (w := 0) (by decide) (Nat.le_refl _)) (Nat.le_refl _) (Nat.le_refl _)) (by decide) (by decide)
abbrev nIsR : List Str := ["_law_made", "_law_plain"]
def spIsR (C : Addr) : Sp := fun vs H Q _ => ∃ (x p : Addr) (r : Rdr), vs = [.ref x, .ref p] ∧ RdAt C H x r ∧ PlainAt H p r ∧ ∀ H', Same H H' → Q (.bl true) H'
theorem scIsR : FnScope nIsR ["_law_made", "_law_plain"] (defScope sIsR) := ⟨rfl, rfl, rfl, by decide +kernel, rfl, by decide +kernel, by decide +kernel⟩
theorem ok_isr {f : Addr} {fd : FuncData} (F : Fun K "_law_is_reader" "_law_is_reader" sIsR f fd) (T : Txt K mg) (C : Cl P w K mg base CC) : Kept P w K mg base CX0 4 f fd ["_law_made", "_law_plain"] (spIsR CC) := by
  refine Kept.fn F scIsR (fun vs H Q E h => ?_) (fun cdv A outer s H vs Q E hr still h => ?_)
  · obtain ⟨x, p, r, rfl, _⟩ := h
    rfl
  · obtain ⟨x, p, r, rfl, hX, hP, q⟩ := h
    have hu := hu_of hr
    have ok := hP.ok
    refine ⟨_, (pss_one (ps_ret (pe_cmpR op_eq (pe_callB (Da.call_showD still hr.units) (by rfl) T.repr (by decide +kernel) (pa_cons (pe_lstN (pa_cons (pe_prop (pv 0) C.MK.W.cl C.pLe C.gLe (hr.mono (by decide)) C.bLe .nil pass0 rfl) (pa_cons (pe_prop (pv 0) C.MK.W.cl C.pMo C.gMo (hr.mono (by decide)) C.bMo .nil pass0 rfl) (pa_cons (pe_prop (pv 0) C.MK.W.cl C.pYe C.gYe (hr.mono (by decide)) C.bYe .nil pass0 rfl) pa_nil)))) pa_nil)) (pe_callB (Da.call_showD still hr.units) (by rfl) T.repr (by decide +kernel) (pa_cons (pe_lstN (pa_cons (pe_dget hu (pv 1) pe_str (fun _ _ => rfl)) (pa_cons (pe_dget hu (pv 1) pe_str (fun _ _ => rfl)) (pa_cons (pe_dget hu (pv 1) pe_str (fun _ _ => rfl)) pa_nil)))) pa_nil)) (nomark _)))), ?_⟩
    obtain ⟨dx, _, _, ex, _⟩ := id hX
    have sd := sd_parts ok
    have sh : (PyData.list [.str r.sg, .dict (waysD r.W), .tuple (natsD r.G)]).showable = true := sd.sh
    have dp : (PyData.list [.str r.sg, .dict (waysD r.W), .tuple (natsD r.G)]).depth < 60 := Nat.lt_of_le_of_lt (Nat.succ_le_succ sd.dp) (by decide)
    have ln := sd.lenL (by decide)
    have dr : ∀ {H0 : Hp} {d g : Addr}, MovAt H0 d r.W → RowAt H0 g r.G → DrAll K H0 [.str r.sg, .ref d, .ref g] [.str r.sg, .dict (waysD r.W), .tuple (natsD r.G)] := fun hM hG => .cons (.str _) (.cons (mov_dr hM) (.cons (row_dr hG) .nil))
    refine ⟨_, rfl, x, dx, _, rfl, ex, x, r, rfl, hX, _, rfl, x, dx, _, rfl, ex, x, r, rfl, hX, fun d H1 s1 hd => ?_⟩
    refine ⟨_, rfl, x, dx, _, rfl, s1 _ _ ex, x, r, rfl, hX.same s1, fun g hg => ⟨(by show 3 ≤ sizeLine; decide), fun L nL nS => ?_⟩⟩
    have s2 := same_upd (o := .lst [V.str r.sg, .ref d, .ref g]) nL
    refine ⟨.ref L, _, rfl, .inr ⟨L, _, _, rfl, rfl, nS, SqL.of upd_same, dr (hd.same s2) (s2 _ _ hg), sd.nl⟩, sh, dp, ln, ?_⟩
    obtain ⟨d2, g2, q1, q2, q3, hd2, hg2⟩ := (hP.same (s1.trans s2)).get
    refine ⟨_, rfl, p, _, rfl, q1, _, rfl, p, _, rfl, q2, _, rfl, p, _, rfl, q3, (by show 3 ≤ sizeLine; decide), fun L2 nL2 nS2 => ?_⟩
    have s3 := same_upd (o := .lst [V.str r.sg, .ref d2, .ref g2]) nL2
    refine ⟨.ref L2, _, rfl, .inr ⟨L2, _, _, rfl, rfl, nS2, SqL.of upd_same, dr (hd2.same s3) (s3 _ _ hg2), sd.nl⟩, sh, dp, ln, rfl, ?_⟩
    rw [decide_eq_true rfl]
    exact q _ ((s1.trans s2).trans s3)
theorem strs_of {P : Str → Prop} : ∀ {zs : List V}, (∀ (i : Nat) (y : V), zs[i]? = some y → ∃ z : Str, y = .str z ∧ P z) → ∃ ss : List Str, zs = ss.map V.str ∧ ∀ z ∈ ss, P z
  | [], _ => ⟨[], rfl, nofun⟩
  | z :: zs, h => by
    obtain ⟨s, e, hs⟩ := h 0 z rfl
    obtain ⟨ss, e2, h2⟩ := strs_of (P := P) (zs := zs) fun i y hy => h (i + 1) y hy
    exact ⟨s :: ss, by rw [e, e2]; rfl, fun x hx => by
      rcases List.mem_cons.mp hx with rfl | hx
      · exact hs
      · exact h2 x hx⟩
abbrev nLines : List Str := ["_law_cup_here", "_law_signs_here", "_law_most", "_law_many", "_law_turn"]
def spLines : Sp := fun vs H Q _ => ∃ (c : Addr) (sg : Str) (m n : Nat), vs = [.ref c, .str sg, .int (m : Int), .int (n : Int)] ∧ Cup H c ∧ Signs sg ∧ m ≤ 20 ∧ n ≤ 20 ∧ ∀ (p : Addr) (zs : List Str) (H' : Hp), H' p = some (.lst (zs.map V.str)) → (∀ z ∈ zs, Over sg z ∧ z.length ≤ 20) → zs.length = n + 1 → p ≠ c → Cup H' c → But c H H' → Q (.ref p) H'
theorem scLines : FnScope nLines ["_law_cup_here", "_law_signs_here", "_law_most", "_law_many"] (defScope sLines) := ⟨rfl, rfl, rfl, by decide +kernel, rfl, by decide +kernel, by decide +kernel⟩
theorem ok_lines {f fB fP fL : Addr} {fd dB dP dL : FuncData} (F : Fun K "_law_lines" "_law_lines" sLines f fd) (T : Txt K mg) (DB : Df K mg "_law_bit" sBit ["_law_cup_here", "_law_much"] fB dB) (DP : Df K mg "_law_pick" sPick ["_law_cup_here", "_law_items"] fP dP) (DL : Df K mg "_law_line" sLine ["_law_cup_here", "_law_signs_here", "_law_most"] fL dL) :
    FnOk P w K mg base CX0 4 f fd ["_law_cup_here", "_law_signs_here", "_law_most", "_law_many"] spLines := by
  have GL := ok_line (P := P) (w := w) (base := base) DL.F T DB DP
  refine F.ok scLines (fun vs H Q E h => ?_) (fun cdv A outer s H vs Q E hr h => ?_)
  · obtain ⟨c, sg, m, n, rfl, _⟩ := h
    rfl
  · obtain ⟨c, sg, m, n, rfl, hc, hsg, hm, hn, q⟩ := h
    refine ⟨_, (pss_one (ps_ret (pe_op op_cat (pe_lst (pa_cons pe_str pa_nil)) (pe_lc (own := [("_law_turn", 4)]) (g := (gName 4)) (tt := tYes)  rfl scLines.nd (pi_range1 rfl T.range (pa_cons (pv 3) pa_nil)) (blkOk_by (own := [("_law_turn", 4)]) (N := nLines) (sc := defScope sLines) (by decide +kernel)) (fun _ _ _ _ _ => (pg_name (i := 4) scLines.nd rfl (Or.inl rfl))) (fun _ _ _ _ _ => pts_nil) (fun _ _ _ _ _ => (pe_call GL (hr.mono (by decide)) (by rfl) DL.m DL.F.kp DL.b .nil pass0 (pa_cons (pv 0) (pa_cons (pv 1) (pa_cons (pv 2) pa_nil))))))))), ?_⟩
    refine ⟨(by show 1 ≤ sizeLine; decide), fun A1 nA => ?_⟩
    have nAc : A1 ≠ c := hc.ne nA
    have s1 := same_upd (o := .lst [V.str (Str.ofString "")]) nA
    have e1 : (upd H A1 (.lst [V.str (Str.ofString "")])) A1 = some (.lst [V.str (Str.ofString "")]) := upd_same
    have hc1 := hc.same s1
    generalize upd H A1 (.lst [V.str (Str.ofString "")]) = H1 at s1 e1 hc1 ⊢
    refine ⟨_, rfl, _, rfl, by omega, by omega, fun D nD => ?_⟩
    have nDc : D ≠ c := hc1.ne nD
    rw [Int.toNat_natCast]
    refine Lc.lcRD (c := c) (I := fun H => Cup H c) (P := fun _ v => ∃ z : Str, v = .str z ∧ Over sg z ∧ z.length ≤ 20) nD nDc (hc1.same (same_upd nD)) (Nat.lt_of_le_of_lt hn (by decide)) (fun _ => rfl) (fun H o h => h.put nDc) ?_ ?_
    · intro i H3 hi hc3 b3 Q' q'
      refine ⟨_, rfl, _, rfl, _, rfl, c, sg, m, rfl, hc3, hsg, hm, fun z H4 hz lz hc4 b4 => ?_⟩
      exact q' _ _ ⟨z, rfl, hz, Nat.le_trans lz hm⟩ hc4 b4
    intro H3 zs hc3 b3 e3 lz hz
    have b3 : But c H1 H3 := b3
    obtain ⟨ss, rfl, hs⟩ := strs_of hz
    refine ⟨A1, D, _, _, rfl, rfl, b3 _ _ nAc e1, e3, ?_, fun p np => ?_⟩
    · rw [lz]
      exact Nat.le_trans (show _ ≤ 21 by show 1 + n ≤ 21; omega) (by decide)
    · have s4 := same_upd (o := .lst ([V.str (Str.ofString "")] ++ ss.map V.str)) np
      refine q p (Str.ofString "" :: ss) _ upd_same (fun z hz => ?_) ?_ (hc3.ne np) (hc3.same s4) ((But.of s1).trans (b3.trans (But.of s4)))
      · rcases List.mem_cons.mp hz with rfl | hz
        · exact ⟨(fun c hc => nomatch hc), Nat.zero_le _⟩
        · exact hs z hz
      · rw [List.length_map] at lz
        rw [List.length_cons, lz]
end
end K24

set_option Elab.async false
set_option linter.all false
set_option maxRecDepth 100000
set_option maxHeartbeats 6400000
namespace K24
open PySem L2 Tx Tg Tm Da RZ
theorem ite_of {c : Prop} [Decidable c] {A B : Prop} (h1 : c → A) (h2 : ¬ c → B) : if c then A else B := by
  by_cases h : c
  · rw [if_pos h]
    exact h1 h
  · rw [if_neg h]
    exact h2 h
theorem cut_till (xs : List V) (r : Nat) : cutV xs none (some (r : Int)) = xs.take r := by
  unfold cutV
  rw [HT.sIx_none, HT.sIx_nat, List.drop_zero, Nat.sub_zero]
  by_cases h : r ≤ xs.length
  · rw [Nat.min_eq_left h]
  · rw [Nat.min_eq_right (by omega), List.take_of_length_le (Nat.le_refl _), List.take_of_length_le (by omega)]
section
variable {K : PySem.W.Frag}
/-- t[:r] -/
theorem sl_take {Q : VK} {H : Hp} {pt : Addr} {l : List Nat} {r : Nat} (h : RowAt H pt l) (q : ∀ p H', Same H H' → RowAt H' p (l.take r) → Q (.ref p) H') : rSlA K (.ref pt) none (some (r : Int)) H Q := by
  refine ⟨pt, natsV l, rfl, SqT.of h, fun hw => ?_, fun _ p np => ?_⟩
  · have h1 := hw.2
    rw [HT.sIx_nat, List.length_map] at h1
    refine q pt H (Same.refl H) ?_
    rw [List.take_of_length_le (by omega)]
    exact h
  · rw [cut_till, ← List.map_take]
    exact q p _ (same_upd np) upd_same
theorem cat_rows {Q : VK} {H : Hp} {a b : Addr} {l m : List Nat} (ha : RowAt H a l) (hb : RowAt H b m) (hl : l.length + m.length ≤ sizeLine) (q : ∀ p H', Same H H' → RowAt H' p (l ++ m) → Q (.ref p) H') : rCatA K (.ref a) (.ref b) H Q := by
  refine ⟨a, b, natsV l, natsV m, rfl, rfl, SqT.of ha, SqT.of hb, by rw [List.length_map, List.length_map]; exact hl, fun e => ?_, fun _ e => ?_, fun _ _ p np => ?_⟩
  · have e := List.map_eq_nil_iff.mp e
    refine q b H (Same.refl H) ?_
    rw [e]
    exact hb
  · have e := List.map_eq_nil_iff.mp e
    refine q a H (Same.refl H) ?_
    rw [e, List.append_nil]
    exact ha
  · rw [← List.map_append]
    exact q p _ (same_upd np) upd_same
end
/-- a letter's row set anew -/
def setW (W : List Way) (c : Nat) (l : List Nat) : List Way := W.map fun w => if w.1 = c then (c, l) else w
theorem setW_keys {W : List Way} {c : Nat} {l : List Nat} : (setW W c l).map (·.1) = W.map (·.1) := by
  unfold setW
  rw [List.map_map]
  refine List.map_congr_left fun w _ => ?_
  show (if w.1 = c then (c, l) else w).1 = w.1
  split
  · exact (by assumption : w.1 = c).symm
  · rfl
theorem WsAt.set {H : Hp} {c p : Nat} {l : List Nat} (hr : RowAt H p l) : ∀ {kvs : List (Key × V)} {W : List Way}, WsAt H kvs W → WsAt H (kvs.map fun kv => if kv.1 = (Sum.inr (one c) : Key) then (kv.1, V.ref p) else kv) (setW W c l)
  | _, _, .nil => .nil
  | _, _, .cons (b := w) ⟨a, e, h⟩ t => by
    subst e
    refine .cons ?_ (WsAt.set hr t)
    by_cases hc : w.1 = c
    · subst hc
      simp only [if_true]
      exact ⟨p, rfl, hr⟩
    · have : ¬ ((Sum.inr (one w.1) : Key) = Sum.inr (one c)) := fun e => hc (key_one.mp e)
      simp only [if_neg this, if_neg hc]
      exact ⟨a, rfl, h⟩
theorem keys_of {H : Hp} : ∀ {kvs : List (Key × V)} {W : List Way}, WsAt H kvs W → kvs.map (·.1) = W.map fun w => (Sum.inr (one w.1) : Key)
  | _, _, .nil => rfl
  | _, _, .cons ⟨_, e, _⟩ t => by
    subst e
    rw [List.map_cons, List.map_cons, keys_of t]
theorem natsV_inj : ∀ {l m : List Nat}, natsV l = natsV m → l = m
  | [], [], _ => rfl
  | [], _ :: _, h => nomatch h
  | _ :: _, [], h => nomatch h
  | a :: l, b :: m, h => by
    have h : V.int (a : Int) :: natsV l = V.int (b : Int) :: natsV m := h
    injection h with h1 h2
    injection h1 with h1
    rw [natsV_inj h2, show a = b by omega]
theorem putK_set {kvs : List (Key × V)} {k : Key} {v : V} (h : (valV kvs k).isSome = true) : putK kvs k v = kvs.map fun kv => if kv.1 = k then (kv.1, v) else kv := by
  unfold putK
  have : (kvs.any fun kv => decide (kv.1 = k)) = true := by
    rw [valV_any]
    exact h
  rw [this]
  rfl
section
variable {P : Program} {w : World} {K : PySem.W.Frag} {mg : Str → Option Value} {base : Heap} {CC : Addr}
abbrev nNear : List Str := ["_law_cup_here", "_law_plain", "_law_lot", "_law_many", "_law_at", "_law_ways", "_law_good", "_law_sign", "_law_state"]
def spNear : Sp := fun vs H Q _ => ∃ (c p : Addr) (r : Rdr), vs = [.ref c, .ref p] ∧ Cup H c ∧ PlainAt H p r ∧ ∀ p' r' H', PlainAt H' p' r' → r'.sg = r.sg → Cup H' c → But c H H' → Q (.ref p') H'
theorem scNear : FnScope nNear ["_law_cup_here", "_law_plain"] (defScope sNear) := ⟨rfl, rfl, rfl, by decide +kernel, rfl, by decide +kernel, by decide +kernel⟩
theorem ok_near {f fB fP fN : Addr} {fd dB dP dN : FuncData} (F : Fun K "_law_near_reader" "_law_near_reader" sNear f fd) (T : Txt K mg) (DB : Df K mg "_law_bit" sBit ["_law_cup_here", "_law_much"] fB dB) (DP : Df K mg "_law_pick" sPick ["_law_cup_here", "_law_items"] fP dP) (DN : Df K mg "_law_state_count" sCount ["_law_plain"] fN dN) :
    FnOk P w K mg base CX0 3 f fd ["_law_cup_here", "_law_plain"] spNear := by
  have GB := ok_bit (P := P) (w := w) (base := base) DB.F T
  have GP := ok_pick (P := P) (w := w) (base := base) DP.F T DB
  have GN := ok_count (P := P) (w := w) (base := base) DN.F T
  refine F.ok scNear (fun vs H Q E h => ?_) (fun cdv A outer s H vs Q E hr h => ?_)
  · obtain ⟨c, p, r, rfl, _⟩ := h
    rfl
  · obtain ⟨c, p, r, rfl, hc, hP, q⟩ := h
    have hu := hu_of hr
    have ok := hP.ok
    refine ⟨_, (pss_cons (ps_par (i := 2) (j := 3) (by rfl) scNear.nd rfl rfl (by decide) rfl rfl (pa_cons (pe_call GB (hr.mono (by decide)) (by rfl) DB.m DB.F.kp DB.b .nil pass0 (pa_cons (pv 0) (pa_cons pe_int pa_nil))) (pa_cons (pe_call GN (hr.mono (by decide)) (by rfl) DN.m DN.F.kp DN.b .nil pass0 (pa_cons (pv 1) pa_nil)) pa_nil)) (by rfl))
    (pss_cons (ps_asg (pe_tup (pa_cons (pe_call GB (hr.mono (by decide)) (by rfl) DB.m DB.F.kp DB.b .nil pass0 (pa_cons (pv 0) (pa_cons (pv 3) pa_nil))) (pa_cons (pe_callTy (call_dictP rfl) (by rfl) T.dict (by decide +kernel) (pa_cons (LiI.pe_listItems rfl (pe_dget hu (pv 1) pe_str (fun _ _ => rfl)) (by rfl) T.list (by decide +kernel)) pa_nil)) (pa_cons (pe_dget hu (pv 1) pe_str (fun _ _ => rfl)) pa_nil)))) (pg_tup rfl (pgs_cons (pg_name (i := 4) scNear.nd rfl (Or.inr rfl)) (pgs_cons (pg_name (i := 5) scNear.nd rfl (Or.inl rfl)) (pgs_cons (pg_name (i := 6) scNear.nd rfl (Or.inr rfl)) pgs_nil)))))
    (pss_cons (ps_if (pt_cmpR op_eq (pv 2) pe_int (nomark _)) (pss_cons (ps_set (i := 7) scNear.nd rfl (Or.inl rfl) (pe_call GP (hr.mono (by decide)) (by rfl) DP.m DP.F.kp DP.b .nil pass0 (pa_cons (pv 0) (pa_cons (pe_dget hu (pv 1) pe_str (fun _ _ => rfl)) pa_nil))))
      (pss_one (ps_dput hu (pv 5) (pv 7) (pe_op op_catA (pe_op op_catA (pe_slice sl_tupA (pe_dget hu (pv 5) (pv 7) (fun _ _ => rfl)) po_none (po_some (pv 4))) (pe_tup (pa_cons (pe_op op_modN (pe_callTy call_int1 (by rfl) T.int (by decide +kernel) (pa_cons (pe_op op_add (pe_ix ix_tup (pe_dget hu (pv 5) (pv 7) (fun _ _ => rfl)) (pv 4) (fun _ _ => rfl)) pe_int) pa_nil)) (pv 3)) pa_nil))) (pe_slice sl_tupA (pe_dget hu (pv 5) (pv 7) (fun _ _ => rfl)) (po_some (pe_op op_add (pv 4) pe_int)) po_none)) rfl))) (pss_one (ps_if (pt_cmpR op_eq (pv 2) pe_int (nomark _)) (pss_one (ps_set (i := 6) scNear.nd rfl (Or.inr rfl) (pe_callTy call_tuple_of (by rfl) T.tuple (by decide +kernel) (pa_cons (pe_lc (own := [("_law_state", 8)]) (g := (gName 8))  (tt := tTest (tOp rNe (tOp (rIn K false) (tVar 8) (tVar 6)) (tOp rEq (tVar 8) (tVar 4)))) (te := tVar 8) rfl scNear.nd (pi_range1 rfl T.range (pa_cons (pv 3) pa_nil)) (blkOk_by (own := [("_law_state", 8)]) (N := nNear) (sc := defScope sNear) (by decide +kernel)) (fun _ _ _ _ _ => (pg_name (i := 8) scNear.nd rfl (Or.inl rfl))) (fun _ _ _ _ _ => pts_one (pt_cmpR op_ne (pe_cmpR op_in_seq (pv 8) (pv 6) (by rfl)) (pe_cmpR op_eq (pv 8) (pv 4) (nomark _)) (nomark _))) (fun _ _ _ _ _ => (pv 8))) pa_nil)))) pss_nil)))
    (pss_one (ps_ret (pe_disp (pps_cons pe_str (pe_dget hu (pv 1) pe_str (fun _ _ => rfl)) (pps_cons pe_str (pv 5) (pps_cons pe_str (pv 6) pps_nil))) (by rfl) (by rfl) (fun z => by cases z) (by decide))))))), ?_⟩
    refine ⟨_, rfl, c, 3, rfl, hc, by decide, small9000 (by decide) (by decide), fun lot H1 l0 l3 hc1 b1 => ?_⟩
    have hP1 := hP.but hc b1
    refine ⟨_, rfl, p, r, rfl, hP1, _, _, rfl, ?_⟩
    have n1 := ok.W.one
    have n60 := ok.W.most
    refine ⟨_, rfl, _, rfl, c, (r.n : Int), rfl, hc1, by omega, small9000 (by omega) (by omega), fun j H2 j0 j1 hc2 b2 => ?_⟩
    obtain ⟨j, rfl⟩ : ∃ k : Nat, j = (k : Int) := ⟨j.toNat, by omega⟩
    have hP2 := hP1.but hc1 b2
    have b02 := b1.trans b2
    obtain ⟨d, g, g1, g2, g3, ⟨kvs, ed, hw⟩, hg⟩ := hP2.get
    have hkv := ways_len hw
    have nk : kvs.map (·.1) = r.W.map (fun w => (Sum.inr (one w.1) : Key)) := keys_of hw
    refine ⟨_, rfl, p, _, rfl, g2, d, kvs, rfl, ed, fun H3 L ts s3 nL nts nLt eL hts => ?_⟩
    have s3 : Same H2 H3 := s3
    refine ⟨L, ts, kvs, rfl, SqL.of eL, Paired.mapP hts fun _ _ e => SqT.of e, fun D nD => ?_⟩
    rw [merge_new (by rw [List.nil_append, nk]; exact keys_nodup ok.sg ok.ord), List.nil_append]
    have s4 := same_upd (o := .dK kvs) nD
    have s24 := s3.trans s4
    have nD2 : H2 D = none := free_none s3 nD
    have hM4 : MovAt (upd H3 D (.dK kvs)) D r.W := ⟨kvs, upd_same, hw.keep (.same s24)⟩
    have hP4 := hP2.same s24
    have hc4 := hc2.same s24
    generalize upd H3 D (.dK kvs) = H4 at s4 s24 hM4 hP4 hc4 ⊢
    obtain ⟨d4, g4, _, _, q3, hd4, hg4⟩ := hP4.get
    refine ⟨_, rfl, p, _, rfl, q3, (by show 3 ≤ sizeLine; decide), fun tp ntp => ⟨tp, _, rfl, SqT.of upd_same, rfl, _, _, rfl, _, _, rfl, _, _, rfl, rfl, ?_⟩⟩
    have s5 := same_upd (o := .tup [.int (j : Int), .ref D, .ref g4]) ntp
    have s25 := s24.trans s5
    have hM5 := hM4.same s5
    have hg5 : RowAt _ g4 r.G := s5 _ _ hg4
    have hc5 := hc4.same s5
    dsimp only [gName]
    generalize upd H4 tp (.tup [.int (j : Int), .ref D, .ref g4]) = H5 at s25 hM5 hg5 hc5 ⊢
    refine two (fun σ H6 => ∃ W G g' t7 t8, σ = [some (.ref c), some (.ref p), some (.int lot), some (.int (r.n : Int)), some (.int (j : Int)), some (.ref D), some (.ref g'), t7, t8] ∧ MovAt H6 D W ∧ RowAt H6 g' G ∧ okW r.n r.sg W ∧ W.map (·.1) = cds r.sg ∧ okG r.n G ∧ G.length ≤ 60 ∧ Cup H6 c ∧ But c H2 H6) ?_ fun tl => ?_
    · rintro σ H6 ⟨W, G, g', t7, t8, rfl, hM6, hg6, okw, ord, okg, few, hc6, b6⟩ p' np
      have npc : p' ≠ c := hc6.ne np
      have s7 := same_upd (o := .dK []) np
      have hc7 := hc6.same s7
      have hM7 := hM6.same s7
      have hg7 : RowAt _ g' G := s7 _ _ hg6
      have b7 : But c H6 _ := But.of s7
      have e7 : (upd H6 p' (.dK [])) p' = some (.dK []) := upd_same
      generalize upd H6 p' (.dK []) = H7 at hc7 hM7 hg7 b7 e7 ⊢
      have hP7 := hP2.but hc2 (b6.trans b7)
      obtain ⟨_, _, q1, _, _, _, _⟩ := hP7.get
      refine ⟨_, rfl, p, _, rfl, q1, _, rfl, _, rfl, e7, kvP r.sg D g', rfl, (by show 3 ≤ 15; decide), ?_⟩
      have kp : KeepT H7 (upd H7 p' (.dK (kvP r.sg D g'))) := KeepT.upd (.dK e7)
      refine q p' ⟨r.sg, W, G, r.n⟩ _ ⟨D, g', upd_same, ?_, kp _ _ hg7, ⟨ok.sg, ord, okw, okg, few⟩⟩ rfl (hc7.put npc) (b02.trans (b6.trans (b7.putN np)))
      obtain ⟨kvs6, e6, _⟩ := hM6
      obtain ⟨kvs7, e7', hw7⟩ := hM7
      exact ⟨kvs7, by rw [upd_ne (ne_of_none e6 np)]; exact e7', hw7.keep kp⟩
    · refine ⟨_, rfl, rfl, _, rfl, ?_⟩
      by_cases h0 : lot = 0
      · rw [decide_eq_true (congrArg V.int h0)]
        refine iteT ?_
        obtain ⟨_, _, q1, _, _, _, _⟩ := (hP2.same s25).get
        have sgl := sg_len ok.sg
        refine ⟨_, rfl, _, rfl, p, _, rfl, q1, c, hc5, .inr ⟨r.sg, rfl, sgl.1, Nat.lt_of_le_of_lt sgl.2 (by decide), fun x H6 hx hc6 b6 => ?_⟩⟩
        dsimp only [gName]
        have hM6 := hM5.but hc5 b6
        have hg6 := RowAt.but hc5 b6 hg5
        have b26 : But c H2 H6 := (But.of s25).trans b6
        obtain ⟨kvs6, e6, hw6⟩ := hM6
        obtain ⟨p1, l1, v1, r1, a1, lt1⟩ := step_at ok.W ok.sg hw6 hx (q := j) (by omega)
        have G1 : ∀ H', Same H6 H' → DGet H' D (.str (one x)) (some (.ref p1)) := fun H' s => by
          have := DGet.k (k := (Sum.inr (one x) : Key)) (s _ _ e6)
          rw [v1] at this
          exact this
        have ll1 : l1.length = r.n ∧ ∀ q ∈ l1, q < r.n := by
          obtain ⟨l, hl, h1, h2⟩ := ok.W.has hx
          obtain ⟨p2, v2, r2⟩ := ways_get hw6 (ok.W.nodup ok.sg) hl
          rw [v1] at v2
          cases v2
          have r1' : H6 p1 = some (.tup (natsV l1)) := r1
          have r2' : H6 p1 = some (.tup (natsV l)) := r2
          rw [r1'] at r2'
          injection r2' with e
          injection e with e
          rw [natsV_inj e]
          exact ⟨h1, h2⟩
        have a1i := (List.getElem?_eq_some_iff.mp a1).1
        rw [List.length_map] at a1i
        refine ⟨_, rfl, _, rfl, D, _, rfl, G1 H6 (Same.refl _), _, rfl, _, rfl, ?_⟩
        refine sl_take (r := j) r1 fun pa H7 s7 hpa => ?_
        refine ⟨_, rfl, _, rfl, D, _, rfl, G1 H7 s7, _, rfl, p1, _, _, _, rfl, rfl, SqT.of (s7 _ _ r1), atI_nat a1, _, _, rfl, rfl, .inl ⟨_, rfl, _, rfl, _, _, rfl, rfl, (show (r.n : Int) ≠ 0 by omega), (by show 1 ≤ sizeLine; decide), fun pb nb => ?_⟩⟩
        have ev : V.int (Int.fmod (((step r.W j x : Nat) : Int) + 1) (r.n : Int)) = V.int (((step r.W j x + 1) % r.n : Nat) : Int) := congrArg V.int (by
          rw [Int.fmod_eq_emod_of_nonneg _ (by omega)]
          rfl)
        have s8 := same_upd (o := .tup [V.int (Int.fmod (((step r.W j x : Nat) : Int) + 1) (r.n : Int))]) nb
        have hpb : RowAt (upd H7 pb (.tup [V.int (Int.fmod (((step r.W j x : Nat) : Int) + 1) (r.n : Int))])) pb [(step r.W j x + 1) % r.n] := by
          show (upd H7 pb _) pb = _
          rw [upd_same, ev]
          rfl
        have hpa8 : RowAt _ pa (l1.take j) := s8 _ _ hpa
        have s68 := s7.trans s8
        dsimp only
        generalize upd H7 pb (.tup [V.int (Int.fmod (((step r.W j x : Nat) : Int) + 1) (r.n : Int))]) = H8 at hpb hpa8 s68 ⊢
        refine cat_rows hpa8 hpb (Nat.le_trans (show _ ≤ 61 by rw [List.length_take]; show min j l1.length + 1 ≤ 61; omega) (by decide)) fun pc H9 s9 hpc => ?_
        have s69 := s68.trans s9
        refine ⟨_, rfl, _, rfl, D, _, rfl, G1 H9 s69, _, rfl, _, _, rfl, rfl, _, rfl, ?_⟩
        dsimp only [tNoPart]
        refine sl_drop (r := j + 1) (s69 _ _ r1) fun pd H10 s10 hpd => ?_
        have hpc10 : RowAt H10 pc (l1.take j ++ [(step r.W j x + 1) % r.n]) := s10 _ _ hpc
        have s610 := s69.trans s10
        have lnew : (l1.take j ++ [(step r.W j x + 1) % r.n]).length + (l1.drop (j + 1)).length = r.n := by
          rw [List.length_append, List.length_take, List.length_drop, List.length_singleton]
          omega
        refine cat_rows hpc10 hpd (Nat.le_trans (show _ ≤ 60 by omega) (by decide)) fun pe H11 s11 hpe => ?_
        have s611 := s610.trans s11
        have e11 := s611 _ _ e6
        have hw11 := hw6.keep (.same s611)
        have hc11 := hc6.same s611
        have hg11 : RowAt H11 g4 r.G := s611 _ _ hg6
        have b211 := b26.trans (But.of s611)
        refine ⟨_, rfl, _, rfl, D, _, rfl, DPut.k (k := (Sum.inr (one x) : Key)) e11 ?_, ?_⟩
        · have h1 := ways_len hw6
          have h2 := ok.W.len
          exact Nat.lt_of_le_of_lt (show kvs6.length ≤ 3 by omega) (by decide)
        have kD : KeepT H11 (upd H11 D (.dK (putK kvs6 (Sum.inr (one x)) (.ref pe)))) := KeepT.upd (.dK e11)
        have hnew : ∀ q ∈ l1.take j ++ [(step r.W j x + 1) % r.n] ++ l1.drop (j + 1), q < r.n := fun q hq => by
          rcases List.mem_append.mp hq with hq | hq
          · rcases List.mem_append.mp hq with hq | hq
            · exact ll1.2 q (List.mem_of_mem_take hq)
            · rw [List.mem_singleton.mp hq]
              exact Nat.mod_lt _ n1
          · exact ll1.2 q (List.mem_of_mem_drop hq)
        refine tl _ _ ⟨setW r.W x (l1.take j ++ [(step r.W j x + 1) % r.n] ++ l1.drop (j + 1)), r.G, g4, _, _, rfl, ⟨_, upd_same, ?_⟩, kD _ _ hg11, ⟨?_, ?_, n1, n60⟩, ?_, ok.G, ok.few, hc11.put ?_, b211.putN nD2⟩
        · have z := WsAt.set (c := x) (kD _ _ hpe) (hw11.keep kD)
          rw [← putK_set (by rw [v1]; rfl)] at z
          exact z
        · rw [setW_keys]
          exact ok.W.keys
        · intro w hw
          obtain ⟨w', hw', rfl⟩ := List.mem_map.mp hw
          by_cases hx : w'.1 = x
          · rw [if_pos hx]
            exact ⟨by rw [List.length_append]; exact lnew, hnew⟩
          · rw [if_neg hx]
            exact ok.W.rows w' hw'
        · rw [setW_keys]
          exact ok.ord
        · exact hc2.ne nD2
      · rw [decide_eq_false (fun e => h0 (by injection e))]
        refine iteF ⟨_, rfl, rfl, _, rfl, ?_⟩
        by_cases h1 : lot = 1
        · rw [decide_eq_true (congrArg V.int h1)]
          refine iteT ?_
          refine ⟨_, rfl, _, rfl, by omega, by omega, fun L2 nL2 => ?_⟩
          rw [Int.toNat_natCast]
          have sL := same_upd (o := .lst []) nL2
          refine lc_range (lo := 0) (n := r.n) (fun i H6 => ∃ G, H6 L2 = some (.lst (natsV G)) ∧ Same H5 H6 ∧ okG i G ∧ G.length ≤ i) ⟨[], upd_same, sL, ⟨nofun, .nil⟩, Nat.le_refl _⟩ ?_ ?_
          · rintro i H6 hi ⟨G, e6, s6, okg, hl⟩
            rw [Int.zero_add]
            refine ⟨rfl, ?_⟩
            refine ⟨_, rfl, _, rfl, g4, _, rfl, .inr (SqT.of (s6 _ _ hg5)), rfl, List.all_eq_true.mpr (flat_nats r.G), _, rfl, _, rfl, rfl, rfl, _, rfl, ?_⟩
            have nL2f : ∀ o, H5 L2 ≠ some o := fun o e => by rw [nL2] at e; cases e
            refine ite_of (fun _ => ?_) fun _ => ?_
            · refine ⟨_, rfl, _, e6, ?_, G ++ [i], ?_, ?_, ⟨fun q hq => ?_, ?_⟩, by rw [List.length_append]; exact Nat.succ_le_succ hl⟩
              · rw [List.length_map]
                exact Nat.lt_of_le_of_lt (show _ ≤ 60 by omega) (by decide)
              · rw [upd_same]
                show _ = some (HO.lst ((G ++ [i]).map _))
                rw [List.map_append]
                rfl
              · exact same_put s6 nL2
              · rcases List.mem_append.mp hq with hq | hq
                · exact Nat.lt_succ_of_lt (okg.lt q hq)
                · rw [List.mem_singleton.mp hq]
                  exact Nat.lt_succ_self _
              · refine List.pairwise_append.mpr ⟨okg.up, List.pairwise_singleton _ _, fun a ha b hb => ?_⟩
                rw [List.mem_singleton.mp hb]
                exact okg.lt a ha
            · exact ⟨G, e6, s6, ⟨fun q hq => Nat.lt_succ_of_lt (okg.lt q hq), okg.up⟩, Nat.le_succ_of_le hl⟩
          · rintro H6 ⟨G, e6, s6, okg, hl⟩
            refine ⟨L2, _, rfl, .inl ⟨SqL.of e6, fun g6 ng => ?_⟩⟩
            have s7 := s6.trans (same_upd (o := .tup (natsV G)) ng)
            exact tl _ _ ⟨r.W, G, g6, _, _, rfl, hM5.same s7, upd_same, ok.W, ok.ord, okg, Nat.le_trans hl n60, hc5.same s7, But.of (s25.trans s7)⟩
        · rw [decide_eq_false (fun e => h1 (by injection e))]
          exact iteF (tl _ _ ⟨r.W, r.G, g4, _, _, rfl, hM5, hg5, ok.W, ok.ord, ok.G, ok.few, hc5, But.of s25⟩)
end
end K24

set_option Elab.async false
set_option linter.all false
set_option maxRecDepth 100000
set_option maxHeartbeats 6400000
namespace K24
open PySem L2 Tx Tg Tm Da RZ
theorem no_over {r : Rdr} {z : Str} (h : only z r.sg = false) : (has r.sg 4000 (.str z) && yesOf r (.str z)) = false := by
  show (decide (z.length ≤ 4000) && only z r.sg && _) = false
  rw [h, Bool.and_false, Bool.false_and]
theorem odd_texts {sg : Str} (h : Signs sg) {x0 : Nat} (hx : (cds sg)[0]? = some x0) : (Fine (Txt.upper sg) ∧ only (Txt.upper sg) sg = false) ∧ (Fine (Str.ofString "a b") ∧ only (Str.ofString "a b") sg = false) ∧ (Fine (one x0 ++ Str.ofString "z") ∧ only (one x0 ++ Str.ofString "z") sg = false) := by
  have mk : ∀ {z : Str}, (decide (z.length ≤ 4001) && decide ((met [] (cds z)).length < 64) && (cds z).all fun c => decide (c < 128)) = true → Fine z := fun h => by
    rw [Bool.and_eq_true, Bool.and_eq_true, decide_eq_true_iff, decide_eq_true_iff, List.all_eq_true] at h
    exact ⟨h.1.1, h.1.2, fun c hc => of_decide_eq_true (h.2 c hc)⟩
  rcases h with rfl | rfl | rfl | rfl | rfl
  · have e : (cds ("ab" : Str))[0]? = some 97 := by decide +kernel
    rw [e] at hx
    cases hx
    exact ⟨⟨mk (by decide +kernel), by decide +kernel⟩, ⟨mk (by decide +kernel), by decide +kernel⟩, ⟨mk (by decide +kernel), by decide +kernel⟩⟩
  · have e : (cds ("xy" : Str))[0]? = some 120 := by decide +kernel
    rw [e] at hx
    cases hx
    exact ⟨⟨mk (by decide +kernel), by decide +kernel⟩, ⟨mk (by decide +kernel), by decide +kernel⟩, ⟨mk (by decide +kernel), by decide +kernel⟩⟩
  · have e : (cds ("a" : Str))[0]? = some 97 := by decide +kernel
    rw [e] at hx
    cases hx
    exact ⟨⟨mk (by decide +kernel), by decide +kernel⟩, ⟨mk (by decide +kernel), by decide +kernel⟩, ⟨mk (by decide +kernel), by decide +kernel⟩⟩
  · have e : (cds ("abc" : Str))[0]? = some 97 := by decide +kernel
    rw [e] at hx
    cases hx
    exact ⟨⟨mk (by decide +kernel), by decide +kernel⟩, ⟨mk (by decide +kernel), by decide +kernel⟩, ⟨mk (by decide +kernel), by decide +kernel⟩⟩
  · have e : (cds ("b" : Str))[0]? = some 98 := by decide +kernel
    rw [e] at hx
    cases hx
    exact ⟨⟨mk (by decide +kernel), by decide +kernel⟩, ⟨mk (by decide +kernel), by decide +kernel⟩, ⟨mk (by decide +kernel), by decide +kernel⟩⟩
theorem odd_signs {r : Rdr} (h : Signs r.sg) {x0 : Nat} (hx : (cds r.sg)[0]? = some x0) : Ok (.str (Txt.upper r.sg)) ∧ (has r.sg 4000 (.str (Txt.upper r.sg)) && yesOf r (.str (Txt.upper r.sg))) = false ∧ Ok (.str (Str.ofString "a b")) ∧ (has r.sg 4000 (.str (Str.ofString "a b")) && yesOf r (.str (Str.ofString "a b"))) = false ∧
    Ok (.str (one x0 ++ Str.ofString "z")) ∧ (has r.sg 4000 (.str (one x0 ++ Str.ofString "z")) && yesOf r (.str (one x0 ++ Str.ofString "z"))) = false := by
  obtain ⟨⟨f1, o1⟩, ⟨f2, o2⟩, f3, o3⟩ := odd_texts h hx
  exact ⟨f1, no_over o1, f2, no_over o2, f3, no_over o3⟩
theorem ne_if {v : V} {A B : Prop} (h : B) : if (!decide (v = v)) = true then A else B := by
  rw [decide_eq_true rfl]
  exact h
section
variable {P : Program} {w : World} {K : PySem.W.Frag} {mg : Str → Option Value} {base : Heap} {CC : Addr}
abbrev nAll : List Str := ["_law_made", "_law_plain", "_law_lines_here", "_law_many", "_law_line_here", "_law_state", "_law_odd", "_law_value"]
def spAll (C : Addr) : Sp := fun vs H Q _ => ∃ (x p a : Addr) (r : Rdr) (zs : List Str), vs = [.ref x, .ref p, .ref a] ∧ RdAt C H x r ∧ PlainAt H p r ∧ H a = some (.lst (zs.map V.str)) ∧ (∀ z ∈ zs, Over r.sg z ∧ z.length ≤ 20) ∧ zs.length ≤ 30 ∧ ∀ H', Same H H' → Q (.bl true) H'
theorem scAll : FnScope nAll ["_law_made", "_law_plain", "_law_lines_here"] (defScope sAll) := ⟨rfl, rfl, rfl, by decide +kernel, rfl, by decide +kernel, by decide +kernel⟩
theorem ok_all {f fN fI fY fR : Addr} {fd dN dI dY dR : FuncData} (F : Fun K "_law_all_right" "_law_all_right" sAll f fd) (T : Txt K mg) (C : Cl P w K mg base CC)
    (DN : Df K mg "_law_state_count" sCount ["_law_plain"] fN dN) (DI : Df K mg "_law_is_reader" sIsR ["_law_made", "_law_plain"] fI dI) (DY : Df K mg "_law_says_yes" sSays ["_law_plain", "_law_line_here"] fY dY) (DR : Df K mg "_law_read" sRead ["_law_plain", "_law_at", "_law_line_here"] fR dR) :
    Kept P w K mg base CX0 8 f fd ["_law_made", "_law_plain", "_law_lines_here"] (spAll CC) := by
  have GN := ok_count (P := P) (w := w) (base := base) DN.F T
  have GI := ok_isr DI.F T C
  have GY := ok_says (P := P) (w := w) (base := base) DY.F DR
  have GR := ok_read (P := P) (w := w) (mg := mg) (base := base) DR.F
  refine Kept.fn F scAll (fun vs H Q E h => ?_) (fun cdv A outer s H vs Q E hr still h => ?_)
  · obtain ⟨x, p, a, r, zs, rfl, _⟩ := h
    rfl
  · obtain ⟨x, p, a, r, zs, rfl, hX, hP, ha, hz, lz, q⟩ := h
    have hu := hu_of hr
    have ok := hP.ok
    obtain ⟨dx, _, _, ex, _⟩ := id hX
    refine ⟨_, (pss_cons (ps_set (i := 3) scAll.nd rfl (Or.inl rfl) (pe_call GN (hr.mono (by decide)) (by rfl) DN.m DN.F.kp DN.b .nil pass0 (pa_cons (pv 1) pa_nil)))
    (pss_cons (ps_if (PW.pt (pw_or (pt_not (pt_val (pe_callG GI (hr.mono (by decide)) still (by rfl) DI.m DI.F.kp DI.b .nil pass0 (pa_cons (pv 0) (pa_cons (pv 1) pa_nil))))) (pw_or (pt_cmpR op_ne (pe_callB (Ow.len_own C.gLn (hr.mono (by decide)) C.sLn C.fnLn C.bLn pass0) (by rfl) T.len PySem.boot_len (pa_cons (pv 0) pa_nil)) (pv 3) (nomark _)) (pw_or1 (pt_cmpR op_ne (pe_callTy (Ow.str_own C.gSr (hr.mono (by decide)) C.sSr C.fnSr C.bSr pass0) (by rfl) T.str (by decide +kernel) (pa_cons (pv 0) pa_nil)) (pe_op op_add_str (pe_op op_add_str (pe_op op_add_str pe_str (pe_callTy call_str_int (by rfl) T.str (by decide +kernel) (pa_cons (pv 3) pa_nil))) pe_str) (pe_dget hu (pv 1) pe_str (fun _ _ => rfl))) (nomark _)))))) (pss_one (ps_ret pe_bl)) pss_nil)
    (pss_cons (ps_for PassesOwn.never rfl (pi_list (pv 2)) (pg_name (i := 4) scAll.nd rfl (Or.inl rfl))
      (pss_cons (ps_if (pt_cmpR op_ne (pe_callB (call_show still hr.units) (by rfl) T.repr (by decide +kernel) (pa_cons (pe_cmpR (Ow.in_own C.gIn (hr.mono (by decide)) C.sIn C.fnIn C.bIn pass0) (pv 4) (pv 0) (by rfl)) pa_nil)) (pe_callB (call_show still hr.units) (by rfl) T.repr (by decide +kernel) (pa_cons (pe_call GY (hr.mono (by decide)) (by rfl) DY.m DY.F.kp DY.b .nil pass0 (pa_cons (pv 1) (pa_cons (pv 4) pa_nil))) pa_nil)) (nomark _)) (pss_one (ps_ret pe_bl)) pss_nil)
      (pss_one (ps_for PassesOwn.never rfl (pi_range1 rfl T.range (pa_cons (pv 3) pa_nil)) (pg_name (i := 5) scAll.nd rfl (Or.inl rfl))
        (pss_one (ps_if (pt_cmpR op_ne (pe_callB (call_show still hr.units) (by rfl) T.repr (by decide +kernel) (pa_cons (pe_meth (pv 0) C.MK.W.cl C.mLd C.gLd (hr.mono (by decide)) C.bLd .nil pass0 (pa_cons (pv 5) (pa_cons (pv 4) pa_nil))) pa_nil)) (pe_callB (call_show still hr.units) (by rfl) T.repr (by decide +kernel) (pa_cons (pe_call GR (hr.mono (by decide)) (by rfl) DR.m DR.F.kp DR.b .nil pass0 (pa_cons (pv 1) (pa_cons (pv 5) (pa_cons (pv 4) pa_nil)))) pa_nil)) (nomark _)) (pss_one (ps_ret pe_bl)) pss_nil))))))
    (pss_cons (ps_set (i := 6) scAll.nd rfl (Or.inl rfl) (pe_lst (pa_cons pe_non (pa_cons pe_int (pa_cons (pe_tup pa_nil) (pa_cons (pe_lst (pa_cons pe_str pa_nil)) (pa_cons (pe_upper (pe_dget hu (pv 1) pe_str (fun _ _ => rfl))) (pa_cons pe_str (pa_cons pe_bl (pa_cons (pe_op op_add_str (pe_ix ix_str (pe_dget hu (pv 1) pe_str (fun _ _ => rfl)) pe_int (fun _ _ => rfl)) pe_str) (pa_cons pe_dnewK pa_nil)))))))))))
    (pss_one (ps_ret (pe_cmpR (op_eqD hr.units) (pe_lc (own := [("_law_value", 7)]) (g := (gName 7))  (tt := tTest (tOp (Ow.rOwnIn CC (spIn CC) E0) (tVar 7) (tVar 0))) (te := tVar 7) rfl scAll.nd (pi_list (pv 6)) (blkOk_by (own := [("_law_value", 7)]) (N := nAll) (sc := defScope sAll) (by decide +kernel)) (fun _ _ _ _ _ => (pg_name (i := 7) scAll.nd rfl (Or.inl rfl))) (fun _ _ _ _ _ => pts_one (pt_cmpR (Ow.in_own C.gIn (hr.mono (by decide)) C.sIn C.fnIn C.bIn pass0) (pv 7) (pv 0) (by rfl))) (fun _ _ _ _ _ => (pv 7))) (pe_lst pa_nil) (nomark _)))))))), ?_⟩
    have n60 := ok.W.most
    have n1 := ok.W.one
    refine ⟨_, rfl, p, r, rfl, hP, ?_⟩
    dsimp only [gName]
    refine ⟨_, rfl, _, rfl, x, p, r, rfl, hX, hP, fun H1 s1 => ⟨_, rfl, iteF ?_⟩⟩
    refine ⟨_, rfl, x, dx, _, rfl, s1 _ _ ex, x, r, rfl, hX.same s1, _, rfl, by omega, by omega, _, rfl, rfl, _, rfl, ?_⟩
    refine ne_if ?_
    have st := small_text r.n (by omega)
    have sl := (sg_len ok.sg).2
    have l1 : ("reader of " : Str).length = 10 := by decide +kernel
    have l2 : (" states over " : Str).length = 13 := by decide +kernel
    obtain ⟨_, _, q1, _, _, _, _⟩ := (hP.same s1).get
    refine ⟨_, rfl, x, dx, _, rfl, s1 _ _ ex, x, r, rfl, hX.same s1, _, rfl, ?_⟩
    refine ⟨_, rfl, _, rfl, st.2, _, _, rfl, rfl, ?_, _, _, rfl, rfl, ?_, _, rfl, p, _, rfl, q1, _, _, rfl, rfl, ?_, rfl, _, rfl, ne_if ?_⟩
    · rw [l1]
      exact Nat.le_trans (show _ ≤ 100 by omega) (by decide)
    · rw [str_len, l1, l2]
      exact Nat.le_trans (show _ ≤ 100 by omega) (by decide)
    · rw [str_len, str_len, l1, l2]
      exact Nat.le_trans (show _ ≤ 100 by omega) (by decide)
    refine ⟨_, rfl, a, rfl, ⟨_, SqL.of (s1 _ _ ha)⟩, ?_⟩
    refine for_list (xs := zs.map V.str) (fun i σ H2 => ∃ t4 t5 : Option V, σ = [some (.ref x), some (.ref p), some (.ref a), some (.int (r.n : Int)), t4, t5, none, none] ∧ Same H H2) ⟨none, none, rfl, s1⟩ (fun i σ H2 _ z => by
      obtain ⟨t4, t5, rfl, s2⟩ := z
      exact SqL.of (s2 _ _ ha)) ?_ ?_
    · rintro i v σ H2 hv ⟨t4, t5, rfl, s2⟩
      rw [List.getElem?_map] at hv
      obtain ⟨z, hzi, rfl⟩ := Option.map_eq_some_iff.mp hv
      obtain ⟨ov, l20⟩ := hz z (List.mem_of_getElem? hzi)
      have eb : (has r.sg 4000 (.str z) && yesOf r (.str z)) = decide (run r.W 0 (cds z) ∈ r.G) := by
        rw [over_has ov (by omega)]
        rfl
      have shb : ∀ b : Bool, (PyData.bool b).showable = true ∧ (PyData.bool b).depth < 60 ∧ (PyData.bool b).shown.length ≤ sizeLine := fun b => by
        cases b
        · exact ⟨rfl, by decide, Nat.le_trans (show _ ≤ 10 by decide +kernel) (by decide)⟩
        · exact ⟨rfl, by decide, Nat.le_trans (show _ ≤ 10 by decide +kernel) (by decide)⟩
      refine ⟨_, rfl, _, rfl, x, dx, _, rfl, s2 _ _ ex, x, r, .str z, .str z, rfl, hX.same s2, .str z, over_fine ok.sg ov (by omega), _, congrArg V.bl eb, ?_⟩
      obtain ⟨b1, b2, b3⟩ := shb (decide (run r.W 0 (cds z) ∈ r.G))
      refine ⟨_, .bool _, rfl, .flat (.bl _) rfl, b1, b2, b3, _, rfl, _, rfl, p, r, z, rfl, hP.same s2, ov, _, .bool _, rfl, .flat (.bl _) rfl, b1, b2, b3, rfl, _, rfl, ne_if ?_⟩
      refine ⟨_, rfl, _, rfl, by omega, by omega, ?_⟩
      rw [Int.toNat_natCast]
      refine for_range (n := r.n) (fun j σ H3 => ∃ t5 : Option V, σ = [some (.ref x), some (.ref p), some (.ref a), some (.int (r.n : Int)), some (.str z), t5, none, none] ∧ Same H H3) ⟨t5, rfl, s2⟩ ?_ ?_
      · rintro j σ H3 hj ⟨t5, rfl, s3⟩
        have ri := run_lt ok (l := cds z) (q := j) hj ov
        have fi := Sh.int (m := run r.W j (cds z)) (w := 12) (by omega) (Nat.le_refl _)
        have d60 : (PyData.int (run r.W j (cds z) : Int)).depth < 60 := Nat.lt_of_le_of_lt fi.dp (by decide)
        have li := fi.len (by decide)
        refine ⟨_, rfl, x, dx, _, rfl, s3 _ _ ex, rfl, _, rfl, _, rfl, x, r, j, z, by rw [Int.zero_add]; rfl, hX.same s3, hj, ov, by omega, fun H4 s4 => ?_⟩
        refine ⟨_, .int _, rfl, .flat (.int _) rfl, fi.sh, d60, li, _, rfl, _, rfl, _, rfl, p, r, j, z, by rw [Int.zero_add]; rfl, hP.same (s3.trans s4), hj, ov, fun lt => ?_⟩
        exact ⟨_, .int _, rfl, .flat (.int _) rfl, fi.sh, d60, li, rfl, _, rfl, ne_if ⟨_, rfl, s3.trans s4⟩⟩
      · rintro σ H3 ⟨t5, rfl, s3⟩
        exact ⟨_, _, rfl, s3⟩
    · rintro σ H2 ⟨t4, t5, rfl, s2⟩
      obtain ⟨_, _, q1, _, _, _, _⟩ := (hP.same s2).get
      obtain ⟨x0, hx0, mx0⟩ := sg_head ok.sg
      have sgl : r.sg.length ≤ sizeLine := Nat.le_trans sl (by decide)
      refine ⟨(by show 0 ≤ sizeLine; decide), fun pT nT => ?_⟩
      have s3 := s2.trans (same_upd (o := .tup []) nT)
      have eT : (upd H2 pT (.tup [])) pT = some (.tup []) := upd_same
      generalize upd H2 pT (.tup []) = H3 at s3 eT ⊢
      refine ⟨(by show 1 ≤ sizeLine; decide), fun pA nA => ?_⟩
      have s34 := same_upd (o := .lst [V.str (Str.ofString "a")]) nA
      have s4 := s3.trans s34
      have eT4 := s34 _ _ eT
      have eA : (upd H3 pA (.lst [V.str (Str.ofString "a")])) pA = some (.lst [V.str (Str.ofString "a")]) := upd_same
      generalize upd H3 pA (.lst [V.str (Str.ofString "a")]) = H4 at s4 eT4 eA ⊢
      obtain ⟨_, _, q4, _, _, _, _⟩ := (hP.same s4).get
      refine ⟨_, rfl, p, _, rfl, q4, ⟨r.sg, rfl⟩, r.sg, rfl, rfl, by omega, ?_⟩
      refine ⟨_, rfl, p, _, rfl, q4, r.sg, 0, x0, rfl, rfl, sgl, atI_nat (j := 0) hx0, _, _, rfl, rfl, (by show 1 + 1 ≤ sizeLine; decide), fun pD nD => ?_⟩
      have s45 := same_upd (o := .dK []) nD
      have s5 := s4.trans s45
      have eT5 := s45 _ _ eT4
      have eA5 := s45 _ _ eA
      have eD5 : (upd H4 pD (.dK [])) pD = some (.dK []) := upd_same
      generalize upd H4 pD (.dK []) = H5 at s5 eT5 eA5 eD5 ⊢
      refine ⟨(by show 9 ≤ sizeLine; decide), fun pO nO => ?_⟩
      dsimp only [gName]
      have s56 := same_upd (o := .lst [V.non, .int 0, .ref pT, .ref pA, .str (Txt.upper r.sg), .str (Str.ofString "a b"), .bl true, .str (one x0 ++ Str.ofString "z"), .ref pD]) nO
      have s6 := s5.trans s56
      have eT6 := s56 _ _ eT5
      have eA6 := s56 _ _ eA5
      have eD6 := s56 _ _ eD5
      have eO6 : (upd H5 pO (.lst [V.non, .int 0, .ref pT, .ref pA, .str (Txt.upper r.sg), .str (Str.ofString "a b"), .bl true, .str (one x0 ++ Str.ofString "z"), .ref pD])) pO = some (.lst [V.non, .int 0, .ref pT, .ref pA, .str (Txt.upper r.sg), .str (Str.ofString "a b"), .bl true, .str (one x0 ++ Str.ofString "z"), .ref pD]) := upd_same
      show tRet _ _ _ (upd H5 pO (.lst [V.non, .int 0, .ref pT, .ref pA, .str (Txt.upper r.sg), .str (Str.ofString "a b"), .bl true, .str (one x0 ++ Str.ofString "z"), .ref pD]))
      generalize upd H5 pO (.lst [V.non, .int 0, .ref pT, .ref pA, .str (Txt.upper r.sg), .str (Str.ofString "a b"), .bl true, .str (one x0 ++ Str.ofString "z"), .ref pD]) = H6 at s6 eT6 eA6 eD6 eO6 ⊢
      obtain ⟨f1, o1, f2, o2, f3, o3⟩ := odd_signs ok.sg hx0
      have hX6 := hX.same s6
      refine ⟨_, rfl, pO, rfl, ⟨_, SqL.of eO6⟩, fun D2 hD2 => ?_⟩
      refine lc_list (xs := [V.non, .int 0, .ref pT, .ref pA, .str (Txt.upper r.sg), .str (Str.ofString "a b"), .bl true, .str (one x0 ++ Str.ofString "z"), .ref pD]) (fun i H7 => Same H6 H7 ∧ H7 D2 = some (.lst [])) ⟨same_upd hD2, upd_same⟩ (fun i H7 _ z => SqL.of (z.1 _ _ eO6)) ?_ ?_
      · rintro i v H7 hv ⟨s7, e7⟩
        refine ⟨rfl, ?_⟩
        have hX7 := hX6.same s7
        have go : ∀ {d : PyData}, Val H7 v d → Ok d → (has r.sg 4000 d && yesOf r d) = false → tTest (tOp (Ow.rOwnIn CC (spIn CC) E0) (tVar 7) (tVar 0)) [some (.ref x), some (.ref p), some (.ref a), some (.int (r.n : Int)), t4, t5, some (.ref pO), some v] H7 fun b H8 => if b = true then tVar 7 [some (.ref x), some (.ref p), some (.ref a), some (.int (r.n : Int)), t4, t5, some (.ref pO), some v] H8 fun y H9 => ∃ acc, H9 D2 = some (.lst acc) ∧ acc.length < sizeLine ∧ (Same H6 (upd H9 D2 (.lst (acc ++ [y]))) ∧ (upd H9 D2 (.lst (acc ++ [y]))) D2 = some (.lst [])) else (Same H6 H8 ∧ H8 D2 = some (.lst [])) := fun {d} hv hd he => by
          obtain ⟨dx7, _, _, ex7, _⟩ := id hX7
          refine ⟨_, rfl, _, rfl, x, dx7, _, rfl, ex7, x, r, v, d, rfl, hX7, hv, hd, _, rfl, _, rfl, ?_⟩
          rw [he]
          exact iteF ⟨s7, e7⟩
        match i, hv with
        | 0, hv =>
          cases hv
          exact go .non ⟨rfl, by decide, Nat.le_trans (show _ ≤ 10 by decide +kernel) (by decide), by decide +kernel⟩ rfl
        | 1, hv =>
          cases hv
          exact go (.int 0) (by show (0 : Int).natAbs.log2 < 1920; decide) rfl
        | 2, hv =>
          cases hv
          exact go (.tup [] (s7 _ _ eT6)) ⟨rfl, by decide, Nat.le_trans (show _ ≤ 10 by decide +kernel) (by decide), by decide +kernel⟩ rfl
        | 3, hv =>
          cases hv
          exact go (.lst ["a"] (s7 _ _ eA6)) ⟨rfl, by decide, Nat.le_trans (show _ ≤ 10 by decide +kernel) (by decide), by decide +kernel⟩ rfl
        | 4, hv =>
          cases hv
          exact go (.str _) f1 o1
        | 5, hv =>
          cases hv
          exact go (.str _) f2 o2
        | 6, hv =>
          cases hv
          exact go (.bl true) ⟨rfl, by decide, Nat.le_trans (show _ ≤ 10 by decide +kernel) (by decide), by decide +kernel⟩ rfl
        | 7, hv =>
          cases hv
          exact go (.str _) f3 o3
        | 8, hv =>
          cases hv
          exact go (.dct [] (s7 _ _ eD6)) ⟨rfl, by decide, Nat.le_trans (show _ ≤ 10 by decide +kernel) (by decide), by decide +kernel⟩ rfl
        | n + 9, hv => cases hv
      · rintro H7 ⟨s7, e7⟩
        refine ⟨Nat.zero_le _, fun p2 np2 => ?_⟩
        refine ⟨.list [], .list [], .lst (SqL.of ((same_upd np2) _ _ e7)) .nil, .lst (SqL.of upd_same) .nil, rfl, rfl, ?_⟩
        exact q _ (s6.trans (s7.trans (same_upd np2)))
end
end K24

set_option Elab.async false
set_option linter.all false
set_option maxRecDepth 100000
set_option maxHeartbeats 6400000
namespace K24
open PySem L2 Tx Tg Tm Da RZ
structure Off (K : PySem.W.Frag) (C : Addr) (T : String) : Prop where
  n : PySem.W.notFirst K C (.type T) = true
  k : PySem.W.kitOne K (.type T) (.ref C) = some false
def ttV (K : PySem.W.Frag) (C : Addr) : TT := tOr (tTest (tOp (fun x y H Q => Ow.rOwn C (spEq C) E0 x y H Q ∨ Ow.rOwnX K C (spEqX K C) E0 x y H Q) (tVar 6) (tVar 12))) (tNot (tTest (tOp (fun x y H Q => Ow.rOwnNe C (spEq C) E0 x y H Q ∨ Ow.rOwnNeX K C (spEqX K C) E0 x y H Q) (tVar 6) (tVar 12))))
theorem odd_off {K : PySem.W.Frag} {C : Addr} {H : Hp} {p : Addr} {r : Rdr} {x : V} {t : Value} {σ : L2.St} {D : Bool → Hp → Prop} (h : RdAt C H p r) (ty : TyX K H x t) (n : PySem.W.notFirst K C t = true) (k : PySem.W.kitOne K t (.ref C) = some false)
    (h5 : σ[6]? = some (some (.ref p))) (h16 : σ[12]? = some (some x)) (q : D false H) : ttV K C σ H D := by
  obtain ⟨dx, a, b, hins, _⟩ := id h
  exact ⟨_, h5, _, h16, .inr ⟨p, dx, _, t, rfl, hins, ty, n, p, x, t, rfl, ty, k, _, rfl, iteF ⟨_, h5, _, h16, .inr ⟨p, dx, _, t, rfl, hins, ty, n, p, x, t, rfl, ty, k, false, rfl, _, rfl, q⟩⟩⟩⟩
/-- a reader as a dict of data -/
abbrev plainD (r : Rdr) : List (PyData × PyData) := [(.str "signs", .str r.sg), (.str "ways", .dict (waysD r.W)), (.str "good", .tuple (natsD r.G))]
theorem plain_dr {K : PySem.W.Frag} {H : Hp} {p : Addr} {r : Rdr} (h : PlainAt H p r) : Dr K H (.ref p) (.dict (plainD r)) := by
  obtain ⟨d, g, e, m, y, ok⟩ := h
  exact .dct e (.cons (.str _) (.cons (mov_dr m) (.cons (row_dr y) .nil)))
theorem plain_alike {r r' : Rdr} (ok : okR r) (ok' : okR r') (e : r'.sg = r.sg) : AlikeKv (plainD r) (plainD r') :=
  .cons (.str _ _) (.cons (.dct (ways_alike (by rw [ok.ord, ok'.ord, e]))) (.cons (.tup (nats_alike _ _)) .nil))
theorem plain_dq {r r' : Rdr} (ok : okR r) (ok' : okR r') (e : r'.sg = r.sg) : dqKv (plainD r) (plainD r') = reqB r r' := by
  show ((r.sg == r'.sg) && (dqKv (waysD r.W) (waysD r'.W) && (dqAll (natsD r.G) (natsD r'.G) && true))) = _
  rw [ways_dq (by rw [ok.ord, ok'.ord, e]), nats_dq, e, beq_self_eq_true, Bool.true_and, Bool.and_true, ← Bool.decide_and]
  exact decide_eq_decide.mpr ⟨fun ⟨a, b⟩ => ⟨e.symm, a, b⟩, fun h => h.2⟩
theorem plain_depth (r : Rdr) : PyData.depthKv (plainD r) ≤ 60 := by
  have h1 := ways_deep r.W
  have h2 := nats_deep r.G
  show max (max 0 0) (max (max 0 (PyData.depthKv (waysD r.W) + 1)) (max (max 0 (PyData.depthAll (natsD r.G) + 1)) 0)) ≤ 60
  rw [h2]
  omega
theorem reqB_symm (r r' : Rdr) : reqB r' r = reqB r r' := decide_eq_decide.mpr ⟨fun h => ⟨h.1.symm, h.2.1.symm, h.2.2.symm⟩, fun h => ⟨h.1.symm, h.2.1.symm, h.2.2.symm⟩⟩
theorem reqB_self (r : Rdr) : reqB r r = true := decide_eq_true ⟨rfl, rfl, rfl⟩
theorem bools4 (b : Bool) : (PyData.list [.bool b, .bool b, .bool b, .bool b]).showable = true ∧ (PyData.list [.bool b, .bool b, .bool b, .bool b]).depth < 60 ∧ (PyData.list [.bool b, .bool b, .bool b, .bool b]).shown.length ≤ sizeLine := by
  cases b
  · exact ⟨rfl, by decide, Nat.le_trans (show _ ≤ 50 by decide +kernel) (by decide)⟩
  · exact ⟨rfl, by decide, Nat.le_trans (show _ ≤ 50 by decide +kernel) (by decide)⟩
/-- the rows in another order -/
def ordL (l : List Nat) (W : List Way) : List Way := l.map fun c => (c, row W c)
theorem ordL_keys {l : List Nat} {W : List Way} : (ordL l W).map (·.1) = l := by
  unfold ordL
  rw [List.map_map]
  exact List.map_id' _
theorem ordL_ok {n : Nat} {sg : Str} {W : List Way} {l : List Nat} (h : okW n sg W) (hs : Signs sg) (hp : l.Perm (cds sg)) : okW n sg (ordL l W) := by
  refine ⟨by rw [ordL_keys]; exact hp, fun w hw => ?_, h.one, h.most⟩
  obtain ⟨c, hc, rfl⟩ := List.mem_map.mp hw
  obtain ⟨x, hx, h1, h2⟩ := h.has (hp.mem_iff.mp hc)
  rw [show row W c = x from row_eq (h.nodup hs) hx]
  exact ⟨h1, h2⟩
theorem ordL_row {sg : Str} {W : List Way} {l : List Nat} (hs : Signs sg) (hp : l.Perm (cds sg)) : ordW sg (ordL l W) = ordW sg W := by
  unfold ordW
  refine List.map_congr_left fun c hc => ?_
  have nd : ((ordL l W).map (·.1)).Nodup := by rw [ordL_keys]; exact hp.nodup_iff.mpr (sg_nodup hs)
  rw [row_eq nd (List.mem_map.mpr ⟨c, hp.mem_iff.mpr hc, rfl⟩)]
theorem keys_nodupN {W : List Way} (nd : (W.map (·.1)).Nodup) : (W.map (fun w => (Sum.inr (one w.1) : Key))).Nodup := by
  have : W.map (fun w => (Sum.inr (one w.1) : Key)) = (W.map (·.1)).map fun c => (Sum.inr (one c) : Key) := by rw [List.map_map]; rfl
  rw [this]
  exact List.Pairwise.map _ (fun a b (h : a ≠ b) e => h (key_one.mp e)) nd
theorem dict_pairsN {K : PySem.W.Frag} {H : Hp} {ps : List Addr} {W : List Way} (h : PairsW H ps W) (nd : (W.map (·.1)).Nodup) :
    ∃ kvs : List (Key × V), Paired (fun p kv => SqT K H p [kV kv.1, kv.2]) ps kvs ∧ ∀ p, H p = none → Same H (upd H p (.dK (mergeK [] kvs))) ∧ MovAt (upd H p (.dK (mergeK [] kvs))) p W := by
  obtain ⟨kvs, p1, p2, p3⟩ := pairs_dict (K := K) h
  refine ⟨kvs, p1, fun p np => ?_⟩
  have s1 := same_upd (o := .dK (mergeK [] kvs)) np
  refine ⟨s1, kvs, ?_, p2.keep (.same s1)⟩
  rw [upd_same, merge_new (by rw [List.nil_append, p3]; exact keys_nodupN nd), List.nil_append]
section
variable {P : Program} {w : World} {K : PySem.W.Frag} {mg : Str → Option Value} {base : Heap} {CC : Addr}
abbrev nCell : List Str := ["_law_cup_here", "_law_plain", "_law_other", "_law_lines_here", "_law_ways", "_law_before", "_law_one", "_law_two", "_law_twin", "_law_turn", "_law_odd", "_law_sign", "_law_value"]
def spCell : Sp := fun vs H Q _ => ∃ (c : Addr), vs = [.ref c] ∧ Cup H c ∧ ∀ H', But c H H' → Cup H' c → Q (.bl true) H'
theorem scCell : FnScope nCell ["_law_cup_here"] (defScope sCell) := ⟨rfl, rfl, rfl, by decide +kernel, rfl, by decide +kernel, by decide +kernel⟩
/-- what the cell calls -/
structure Up (P : Program) (w : World) (K : PySem.W.Frag) (mg : Str → Option Value) (base : Heap) (CC fPl fSi fNe fLi fDe fMa fAl : Addr) (dPl dSi dNe dLi dDe dMa dAl : FuncData) : Prop where
  DPl : Df K mg "_law_plain_reader" sPlain ["_law_cup_here", "_law_signs_here"] fPl dPl
  DSi : Df K mg "_law_signs" sSigns ["_law_cup_here"] fSi dSi
  DNe : Df K mg "_law_near_reader" sNear ["_law_cup_here", "_law_plain"] fNe dNe
  DLi : Df K mg "_law_lines" sLines ["_law_cup_here", "_law_signs_here", "_law_most", "_law_many"] fLi dLi
  DDe : Df K mg "_law_dealt" sDealt ["_law_cup_here", "_law_items"] fDe dDe
  DMa : Df K mg "_law_made_reader" sMade ["_law_plain"] fMa dMa
  DAl : Df K mg "_law_all_right" sAll ["_law_made", "_law_plain", "_law_lines_here"] fAl dAl
  GPl : FnOk P w K mg base CX0 5 fPl dPl ["_law_cup_here", "_law_signs_here"] spPlain
  GSi : FnOk P w K mg base CX0 3 fSi dSi ["_law_cup_here"] spSigns
  GNe : FnOk P w K mg base CX0 3 fNe dNe ["_law_cup_here", "_law_plain"] spNear
  GLi : FnOk P w K mg base CX0 4 fLi dLi ["_law_cup_here", "_law_signs_here", "_law_most", "_law_many"] spLines
  GDe : FnOk P w K mg base CX0 2 fDe dDe ["_law_cup_here", "_law_items"] spDealtS
  GMa : FnOk P w K mg base CX0 7 fMa dMa ["_law_plain"] (spMade CC)
  GAl : Kept P w K mg base CX0 8 fAl dAl ["_law_made", "_law_plain", "_law_lines_here"] (spAll CC)
variable {fPl fSi fNe fLi fDe fMa fAl : Addr} {dPl dSi dNe dLi dDe dMa dAl : FuncData}
theorem ok_cell {f : Addr} {fd : FuncData} (F : Fun K "_law_cell_right" "_law_cell_right" sCell f fd) (T : Txt K mg) (C : Cl P w K mg base CC) (U : Up P w K mg base CC fPl fSi fNe fLi fDe fMa fAl dPl dSi dNe dLi dDe dMa dAl)
    (O1 : Off K CC "NoneType") (O2 : Off K CC "int") (O3 : Off K CC "dict") (O4 : Off K CC "str") (O5 : Off K CC "list") : Kept P w K mg base CX0 10 f fd ["_law_cup_here"] spCell := by
  obtain ⟨DPl, DSi, DNe, DLi, DDe, DMa, DAl, GPl, GSi, GNe, GLi, GDe, GMa, GAl⟩ := U
  refine Kept.fn F scCell (fun vs H Q E h => ?_) (fun cdv A outer s H vs Q E hr still h => ?_)
  · obtain ⟨c, rfl, _⟩ := h
    rfl
  · obtain ⟨c, rfl, hc, q⟩ := h
    have hu := hu_of hr
    refine ⟨_, (pss_cons (ps_set (i := 1) scCell.nd rfl (Or.inr rfl) (pe_call GPl (hr.mono (by decide)) (by rfl) DPl.m DPl.F.kp DPl.b .nil pass0 (pa_cons (pv 0) (pa_cons (pe_call GSi (hr.mono (by decide)) (by rfl) DSi.m DSi.F.kp DSi.b .nil pass0 (pa_cons (pv 0) pa_nil)) pa_nil))))
    (pss_cons (ps_par (i := 2) (j := 3) (by rfl) scCell.nd rfl rfl (by decide) rfl rfl (pa_cons (pe_call GNe (hr.mono (by decide)) (by rfl) DNe.m DNe.F.kp DNe.b .nil pass0 (pa_cons (pv 0) (pa_cons (pv 1) pa_nil))) (pa_cons (pe_call GLi (hr.mono (by decide)) (by rfl) DLi.m DLi.F.kp DLi.b .nil pass0 (pa_cons (pv 0) (pa_cons (pe_dget hu (pv 1) pe_str (fun _ _ => rfl)) (pa_cons pe_int (pa_cons pe_int pa_nil))))) pa_nil)) (by rfl))
    (pss_cons (ps_set (i := 4) scCell.nd rfl (Or.inl rfl) (pe_callTy (call_dictP rfl) (by rfl) T.dict (by decide +kernel) (pa_cons (pe_lc (own := [("_law_sign", 11)]) (g := (gName 11)) (tt := tYes)  rfl scCell.nd (pi_list (pe_call GDe (hr.mono (by decide)) (by rfl) DDe.m DDe.F.kp DDe.b .nil pass0 (pa_cons (pv 0) (pa_cons (pe_dget hu (pv 1) pe_str (fun _ _ => rfl)) pa_nil)))) (blkOk_by (own := [("_law_sign", 11)]) (N := nCell) (sc := defScope sCell) (by decide +kernel)) (fun _ _ _ _ _ => (pg_name (i := 11) scCell.nd rfl (Or.inl rfl))) (fun _ _ _ _ _ => pts_nil) (fun _ _ _ _ _ => (pe_tup (pa_cons (pv 11) (pa_cons (pe_dget hu (pe_dget hu (pv 1) pe_str (fun _ _ => rfl)) (pv 11) (fun _ _ => rfl)) pa_nil))))) pa_nil)))
    (pss_cons (ps_set (i := 5) scCell.nd rfl (Or.inl rfl) (pe_callB (Da.call_showD still hr.units) (by rfl) T.repr (by decide +kernel) (pa_cons (pv 4) pa_nil)))
    (pss_cons (ps_asg (pe_tup (pa_cons (pe_make C.MK.M C.MK.gi (hr.mono (by decide)) (by rfl) C.MK.W.gR C.MK.bi .nil pass0 (pa_cons (pe_dget hu (pv 1) pe_str (fun _ _ => rfl)) (pa_cons (pv 4) (pa_cons (pe_dget hu (pv 1) pe_str (fun _ _ => rfl)) pa_nil)))) (pa_cons (pe_call GMa (hr.mono (by decide)) (by rfl) DMa.m DMa.F.kp DMa.b .nil pass0 (pa_cons (pv 2) pa_nil)) (pa_cons (pe_call GMa (hr.mono (by decide)) (by rfl) DMa.m DMa.F.kp DMa.b .nil pass0 (pa_cons (pv 1) pa_nil)) pa_nil)))) (pg_tup rfl (pgs_cons (pg_name (i := 6) scCell.nd rfl (Or.inr rfl)) (pgs_cons (pg_name (i := 7) scCell.nd rfl (Or.inl rfl)) (pgs_cons (pg_name (i := 8) scCell.nd rfl (Or.inl rfl)) pgs_nil)))))
    (pss_cons (ps_for PassesOwn.never rfl (pi_range1 rfl T.range (pa_cons pe_int pa_nil)) (pg_name (i := 9) scCell.nd rfl (Or.inl rfl))
      (pss_cons (ps_if (PW.pt (pw_or (pt_not (pt_val (pe_callG GAl (hr.mono (by decide)) still (by rfl) DAl.m DAl.F.kp DAl.b .nil pass0 (pa_cons (pv 6) (pa_cons (pv 1) (pa_cons (pv 3) pa_nil)))))) (pw_or (pt_not (pt_val (pe_callG GAl (hr.mono (by decide)) still (by rfl) DAl.m DAl.F.kp DAl.b .nil pass0 (pa_cons (pv 7) (pa_cons (pv 2) (pa_cons (pv 3) pa_nil)))))) (pw_or (pt_cmpR (Ow.ne_own C.gEq (hr.mono (by decide)) C.ob C.sNe C.sEq C.fnEq C.bEq pass0) (pv 6) (pv 8) (nomark _)) (pw_or1 (pt_cmpR op_ne (pe_callB (Da.call_showD still hr.units) (by rfl) T.repr (by decide +kernel) (pa_cons (pv 4) pa_nil)) (pv 5) (nomark _))))))) (pss_one (ps_ret pe_bl)) pss_nil)
      (pss_cons (ps_if (pt_cmpR op_ne (pe_callB (call_show still hr.units) (by rfl) T.repr (by decide +kernel) (pa_cons (pe_lst (pa_cons (pe_cmpR (Ow.eq_own C.gEq (hr.mono (by decide)) C.nf C.sEq C.fnEq C.bEq pass0) (pv 6) (pv 7) (nomark _)) (pa_cons (pe_cmpR (Ow.eq_own C.gEq (hr.mono (by decide)) C.nf C.sEq C.fnEq C.bEq pass0) (pv 7) (pv 6) (nomark _)) (pa_cons (pe_not (pe_cmpR (Ow.ne_own C.gEq (hr.mono (by decide)) C.ob C.sNe C.sEq C.fnEq C.bEq pass0) (pv 6) (pv 7) (nomark _))) (pa_cons (pe_not (pe_cmpR (Ow.ne_own C.gEq (hr.mono (by decide)) C.ob C.sNe C.sEq C.fnEq C.bEq pass0) (pv 7) (pv 6) (nomark _))) pa_nil))))) pa_nil)) (pe_callB (call_show still hr.units) (by rfl) T.repr (by decide +kernel) (pa_cons (pe_op op_rep (pe_lst (pa_cons (pe_cmpR (Da.op_eqK hr.units) (pv 1) (pv 2) (nomark _)) pa_nil)) pe_int) pa_nil)) (nomark _)) (pss_one (ps_ret pe_bl)) pss_nil)
      (pss_cons (ps_set (i := 10) scCell.nd rfl (Or.inl rfl) (pe_lst (pa_cons pe_non (pa_cons pe_int (pa_cons (pv 1) (pa_cons (pe_dget hu (pv 1) pe_str (fun _ _ => rfl)) (pa_cons (pe_callTy (Ow.str_own C.gSr (hr.mono (by decide)) C.sSr C.fnSr C.bSr pass0) (by rfl) T.str (by decide +kernel) (pa_cons (pv 6) pa_nil)) (pa_cons (pe_lst (pa_cons (pv 6) pa_nil)) pa_nil))))))))
      (pss_one (ps_if (pt_cmpR (op_neD hr.units) (pe_lc (own := [("_law_value", 12)]) (g := (gName 12))  (tt := ttV K CC) (te := tVar 12) rfl scCell.nd (pi_list (pv 10)) (blkOk_by (own := [("_law_value", 12)]) (N := nCell) (sc := defScope sCell) (by decide +kernel)) (fun _ _ _ _ _ => (pg_name (i := 12) scCell.nd rfl (Or.inl rfl))) (fun _ _ _ _ _ => pts_one (PW.pt (pw_or (pt_cmpR (OpR.or (Ow.eq_own C.gEq (hr.mono (by decide)) C.nf C.sEq C.fnEq C.bEq pass0) (Ow.eq_ownX C.gEqX (hr.mono (by decide)) C.sEq C.fnEq C.bEq pass0)) (pv 6) (pv 12) (nomark _)) (pw_or1 (pt_not (pt_cmpR (OpR.or (Ow.ne_own C.gEq (hr.mono (by decide)) C.ob C.sNe C.sEq C.fnEq C.bEq pass0) (Ow.ne_ownX C.gEqX (hr.mono (by decide)) C.ob C.sNe C.sEq C.fnEq C.bEq pass0)) (pv 6) (pv 12) (nomark _))))))) (fun _ _ _ _ _ => (pv 12))) (pe_lst pa_nil) (nomark _)) (pss_one (ps_ret pe_bl)) pss_nil))))))
    (pss_one (ps_ret pe_bl)))))))), ?_⟩
    refine ⟨_, rfl, _, rfl, c, rfl, hc, fun sg H1 hsg hc1 b1 => ⟨c, sg, rfl, hc1, hsg, fun p r H2 hP esg hc2 b2 => ?_⟩⟩
    subst esg
    dsimp only [gName]
    have ok := hP.ok
    refine ⟨_, rfl, _, rfl, c, p, r, rfl, hc2, hP, fun p' r' H3 hP' esg hc3 b3 => ?_⟩
    have hP3 := hP.but hc2 b3
    obtain ⟨_, _, q1, _, _, _, _⟩ := hP3.get
    refine ⟨_, rfl, _, rfl, p, _, rfl, q1, c, r.sg, 9, 3, rfl, hc3, hsg, by decide, by decide, fun pL zs H4 eL hz lz nLc hc4 b4 => ⟨_, _, rfl, ?_⟩⟩
    have hP4 := hP3.but hc3 b4
    have hP4' := hP'.but hc3 b4
    obtain ⟨_, _, q4, _, _, _, _⟩ := hP4.get
    have sgl := sg_len hsg
    refine ⟨_, rfl, _, rfl, p, _, rfl, q4, c, r.sg, rfl, hc4, by omega, fun pd H5 ys hc5 b5 npd e5 perm => ⟨pd, rfl, ⟨_, SqL.of e5⟩, fun D nD => ?_⟩⟩
    obtain ⟨l, rfl, hl⟩ := perm_map perm _ rfl
    have hP5 := hP4.but hc4 b5
    have hP5' := hP4'.but hc4 b5
    have eL5 := b5 _ _ nLc eL
    have b05 : But c H H5 := (((b1.trans b2).trans b3).trans b4).trans b5
    have ll : l.length ≤ 3 := by
      rw [hl.length_eq, cds_len]
      exact sgl.2
    obtain ⟨d5, g5, eP5, ⟨kvs, ed, hw⟩, hg5, _⟩ := id hP5
    refine lc_list (xs := ones l) (fun i H6 => ∃ ps, Same H5 H6 ∧ H6 D = some (.lst (ps.map V.ref)) ∧ PairsW H6 ps ((ordL l r.W).take i)) ⟨[], same_upd nD, upd_same, .nil⟩ (fun i H6 _ z => by
      obtain ⟨ps, s6, _, _⟩ := z
      exact SqL.of (s6 _ _ e5)) ?_ ?_
    · rintro i v H6 hv ⟨ps, s6, e6, hps⟩
      rw [List.getElem?_map] at hv
      obtain ⟨x, hx, rfl⟩ := Option.map_eq_some_iff.mp hv
      refine ⟨rfl, iteT (B := False) ?_⟩
      have hxm : x ∈ cds r.sg := hl.mem_iff.mp (List.mem_of_getElem? hx)
      obtain ⟨xl, hxl, xl1, xl2⟩ := ok.W.has hxm
      obtain ⟨pr, vr, rr⟩ := ways_get hw (ok.W.nodup ok.sg) hxl
      have erow : row r.W x = xl := row_eq (ok.W.nodup ok.sg) hxl
      have GW : DGet H6 d5 (.str (one x)) (some (.ref pr)) := by
        have := DGet.k (k := (Sum.inr (one x) : Key)) (s6 _ _ ed)
        rw [vr] at this
        exact this
      have w6 : DGet H6 p (.str "ways") (some (.ref d5)) := DGet.k (k := (Sum.inr "ways" : Key)) (s6 _ _ eP5)
      refine ⟨_, rfl, _, rfl, p, _, rfl, w6, _, rfl, d5, _, rfl, GW, (by show 2 ≤ sizeLine; decide), fun q nq => ?_⟩
      have s7 := same_upd (o := .tup [.str (one x), .ref pr]) nq
      have s57 := s6.trans s7
      have lps : ps.length ≤ 3 := by
        have h1 := hps.length
        rw [List.length_take] at h1
        have h2 : (ordL l r.W).length = l.length := List.length_map ..
        omega
      refine ⟨ps.map V.ref, s7 _ _ e6, ?_, ps ++ [q], same_put s57 nD, ?_, ?_⟩
      · rw [List.length_map]
        exact Nat.lt_of_le_of_lt lps (by decide)
      · rw [upd_same, List.map_append]
        rfl
      · have k8 : KeepT (upd H6 q (.tup [.str (one x), .ref pr])) (upd (upd H6 q (.tup [.str (one x), .ref pr])) D (.lst (ps.map V.ref ++ [V.ref q]))) := KeepT.upd (.lst (s7 _ _ e6))
        have hr8 : RowAt (upd (upd H6 q (.tup [.str (one x), .ref pr])) D (.lst (ps.map V.ref ++ [V.ref q]))) pr xl := k8 _ _ (s57 _ _ rr)
        have eo : (ordL l r.W)[i]? = some (x, xl) := by
          unfold ordL
          rw [List.getElem?_map, hx]
          show some (x, row r.W x) = _
          rw [erow]
        rw [List.take_add_one, eo]
        exact each_app (hps.keep ((KeepT.same s7).trans k8)) (.cons ⟨pr, k8 _ _ upd_same, hr8⟩ .nil)
    · rintro H6 ⟨ps, s6, e6, hps⟩
      have hfull : (ordL l r.W).take (ones l).length = ordL l r.W := List.take_of_length_le (by
        have h2 : (ordL l r.W).length = l.length := List.length_map ..
        rw [h2, List.length_map]
        exact Nat.le_refl _)
      rw [hfull] at hps
      obtain ⟨kvW, pW, mk7⟩ := dict_pairsN (K := K) hps (by rw [ordL_keys]; exact hl.nodup_iff.mpr (sg_nodup hsg))
      refine ⟨D, ps, kvW, rfl, SqL.of e6, pW, fun dW ndW => ?_⟩
      obtain ⟨s67, hdW⟩ := mk7 dW ndW
      generalize upd H6 dW (.dK (mergeK [] kvW)) = H7 at s67 hdW ⊢
      dsimp only [gName]
      have s57 := s6.trans s67
      have okL := ordL_ok (l := l) ok.W hsg hl
      have hP7 := hP5.same s57
      have hP7' := hP5'.same s57
      have eL7 := s57 _ _ eL5
      have hc7 := hc5.same s57
      have b07 := b05.trans (But.of s57)
      have sdW := sd_okW okL hsg
      have dpW : (PyData.dict (waysD (ordL l r.W))).depth < 60 := Nat.lt_of_le_of_lt sdW.dp (by decide)
      have lnW := sdW.len (by decide)
      refine ⟨_, rfl, .ref dW, _, rfl, .inl ⟨mov_dr hdW, sdW.nl⟩, sdW.sh, dpW, lnW, ?_⟩
      dsimp only [gName]
      obtain ⟨dq, gq, eq1, hMq, hGq, _⟩ := id hP7
      have q1 : DGet H7 p (.str "signs") (some (.str r.sg)) := DGet.k (k := (Sum.inr "signs" : Key)) eq1
      have q3 : DGet H7 p (.str "good") (some (.ref gq)) := DGet.k (k := (Sum.inr "good" : Key)) eq1
      refine ⟨_, rfl, p, _, rfl, q1, _, rfl, _, rfl, p, _, rfl, q3, fun x1 dx1 nx1 ndx1 nex1 => ?_⟩
      have sX : Same H7 (upd (upd H7 dx1 (.own x1)) x1 (.ins CC dx1 [])) := fun b o e => by
        rw [upd_ne (ne_of_none e nx1), upd_ne (ne_of_none e ndx1)]
        exact e
      refine ⟨x1, dx1, r.sg, dW, gq, ordL l r.W, r.G, r.n, rfl, upd_same, hsg, hdW.same sX, okL, sX _ _ hGq, ok.G, ok.few, fun H8 b8 h1 => ⟨rfl, ?_⟩⟩
      have s78 : Same H7 H8 := fun c o e => b8 _ _ (ne_of_none e nx1) (sX _ _ e)
      rw [ordL_row hsg hl, ordW_self hsg ok.ord] at h1
      have h1 : RdAt CC H8 x1 r := h1
      have hP8 := hP7.same s78
      have hP8' := hP7'.same s78
      refine ⟨_, rfl, p', r', rfl, hP8', fun x2 H9 s89 h2 => ?_⟩
      refine ⟨_, rfl, p, r, rfl, hP8.same s89, fun x3 H10 s910 h3 => ⟨(by show 3 ≤ sizeLine; decide), fun tp ntp => ⟨tp, _, rfl, SqT.of upd_same, rfl, _, _, rfl, _, _, rfl, _, _, rfl, rfl, ?_⟩⟩⟩
      dsimp only [gName]
      have sT := same_upd (o := .tup [.ref x1, .ref x2, .ref x3]) ntp
      have s811 := (s89.trans s910).trans sT
      have s711 := s78.trans s811
      have h1 := h1.same s811
      have h2 := h2.same (s910.trans sT)
      have h3 := h3.same sT
      have hP11 := hP8.same s811
      have hP11' := hP8'.same s811
      have eL11 := s711 _ _ eL7
      have hc11 := hc7.same s711
      have hdW11 := hdW.same s711
      have b011 : But c H _ := b07.trans (But.of s711)
      generalize upd H10 tp (.tup [.ref x1, .ref x2, .ref x3]) = H11 at h1 h2 h3 hP11 hP11' eL11 hc11 hdW11 b011 ⊢
      clear s811 s711 sT s910 s89 hP8 hP8' s78 sX
      refine ⟨_, rfl, by decide, by decide, ?_⟩
      refine for_range (n := 2) (fun i σ H12 => ∃ t9 t10 : Option V, σ = [some (.ref c), some (.ref p), some (.ref p'), some (.ref pL), some (.ref dW), some (.str (PyData.dict (waysD (ordL l r.W))).shown), some (.ref x1), some (.ref x2), some (.ref x3), t9, t10, none, none] ∧ Same H11 H12) ⟨none, none, rfl, Same.refl _⟩ ?_ ?_
      · rintro i σ H12 hi ⟨t9, t10, rfl, s12⟩
        have ok' := hP11'.ok
        refine ⟨_, rfl, _, rfl, _, rfl, x1, p, pL, r, zs, rfl, h1.same s12, hP11.same s12, s12 _ _ eL11, hz, by omega, fun H13 s13 => ⟨_, rfl, iteF ?_⟩⟩
        have s13 := s12.trans s13
        refine ⟨_, rfl, _, rfl, _, rfl, x2, p', pL, r', zs, rfl, h2.same s13, hP11'.same s13, s13 _ _ eL11, fun z h => by rw [esg]; exact hz z h, by omega, fun H14 s14 => ⟨_, rfl, iteF ?_⟩⟩
        have s14 := s13.trans s14
        have k1 := h1.same s14
        have k2 := h2.same s14
        have k3 := h3.same s14
        obtain ⟨dx1, _, _, ex1, _⟩ := id k1
        obtain ⟨dx2, _, _, ex2, _⟩ := id k2
        obtain ⟨dx3, _, _, ex3, _⟩ := id k3
        refine ⟨_, rfl, _, rfl, x1, x3, dx1, dx3, _, _, rfl, rfl, ex1, ex3, x1, x3, r, r, rfl, k1, k3, _, rfl, _, rfl, ?_⟩
        rw [reqB_self]
        refine iteF ?_
        refine ⟨_, rfl, .ref dW, _, rfl, .inl ⟨mov_dr (hdW11.same s14), sdW.nl⟩, sdW.sh, dpW, lnW, _, rfl, rfl, _, rfl, ne_if ?_⟩
        refine ⟨_, rfl, _, rfl, x1, x2, dx1, dx2, _, _, rfl, rfl, ex1, ex2, x1, x2, r, r', rfl, k1, k2, ?_⟩
        refine ⟨_, rfl, _, rfl, x2, x1, dx2, dx1, _, _, rfl, rfl, ex2, ex1, x2, x1, r', r, rfl, k2, k1, ?_⟩
        refine ⟨_, rfl, _, rfl, x1, x2, dx1, dx2, _, _, rfl, rfl, ex1, ex2, x1, x2, r, r', rfl, k1, k2, _, rfl, _, rfl, ?_⟩
        refine ⟨_, rfl, _, rfl, x2, x1, dx2, dx1, _, _, rfl, rfl, ex2, ex1, x2, x1, r', r, rfl, k2, k1, _, rfl, _, rfl, (by show 4 ≤ sizeLine; decide), fun pB nB => ?_⟩
        rw [reqB_symm r r', Bool.not_not]
        obtain ⟨bs, bd, bl⟩ := bools4 (reqB r r')
        have s15 := s14.trans (same_upd (o := .lst [.bl (reqB r r'), .bl (reqB r r'), .bl (reqB r r'), .bl (reqB r r')]) nB)
        refine ⟨_, .list [.bool (reqB r r'), .bool (reqB r r'), .bool (reqB r r'), .bool (reqB r r')], rfl, .flat (.lst (SqL.of upd_same) (.cons (.bl _) (.cons (.bl _) (.cons (.bl _) (.cons (.bl _) .nil))))) rfl, bs, bd, bl, ?_⟩
        refine ⟨_, rfl, _, rfl, plainD r, plainD r', plain_dr (hP11.same s15), plain_dr (hP11'.same s15), plain_alike ok ok' esg, plain_depth r, (by show 1 ≤ sizeLine; decide), fun pC nC => ?_⟩
        rw [plain_dq ok ok' esg]
        have s16 := s15.trans (same_upd (o := .lst [.bl (reqB r r')]) nC)
        refine ⟨pC, 4, _, rfl, rfl, upd_same, by decide, by decide, (by show 1 * 4 ≤ sizeLine; decide), fun pE nE => ?_⟩
        have s17 := s16.trans (same_upd (o := .lst (List.replicate (Int.toNat 4) [V.bl (reqB r r')]).flatten) nE)
        refine ⟨_, .list [.bool (reqB r r'), .bool (reqB r r'), .bool (reqB r r'), .bool (reqB r r')], rfl, .flat (.lst (SqL.of upd_same) (.cons (.bl _) (.cons (.bl _) (.cons (.bl _) (.cons (.bl _) .nil))))) rfl, bs, bd, bl, rfl, _, rfl, ne_if ?_⟩
        generalize upd (upd (upd H14 pB _) pC _) pE _ = H17 at s17 ⊢
        have k1 := h1.same s17
        obtain ⟨dx1, _, _, ex1, _⟩ := id k1
        obtain ⟨dw, gw, ewp, hMw, _, _⟩ := id (hP11.same s17)
        have qw : DGet H17 p (.str "ways") (some (.ref dw)) := DGet.k (k := (Sum.inr "ways" : Key)) ewp
        refine ⟨_, rfl, _, rfl, p, _, rfl, qw, _, rfl, x1, dx1, _, rfl, ex1, x1, r, rfl, k1, _, rfl, _, rfl, (by show 1 ≤ sizeLine; decide), fun pF nF => ?_⟩
        have s1718 := same_upd (o := .lst [.ref x1]) nF
        have eF : (upd H17 pF (.lst [.ref x1])) pF = some (.lst [.ref x1]) := upd_same
        generalize upd H17 pF (.lst [.ref x1]) = H18 at s1718 eF ⊢
        refine ⟨(by show 6 ≤ sizeLine; decide), fun pO nO => ?_⟩
        have s1819 := same_upd (o := .lst [.non, .int 0, .ref p, .ref dw, .str (toldR r.n r.sg), .ref pF]) nO
        have eO : (upd H18 pO (.lst [.non, .int 0, .ref p, .ref dw, .str (toldR r.n r.sg), .ref pF])) pO = some (.lst [.non, .int 0, .ref p, .ref dw, .str (toldR r.n r.sg), .ref pF]) := upd_same
        have eF := s1819 _ _ eF
        dsimp only [gName]
        generalize upd H18 pO (.lst [.non, .int 0, .ref p, .ref dw, .str (toldR r.n r.sg), .ref pF]) = H19 at s1819 eO eF ⊢
        have s1719 := s1718.trans s1819
        have s1119 := s17.trans s1719
        have ewp := s1719 _ _ ewp
        obtain ⟨kvw, edw, _⟩ := hMw
        have edw := s1719 _ _ edw
        refine ⟨_, rfl, pO, rfl, ⟨_, SqL.of eO⟩, fun D2 hD2 => ?_⟩
        refine lc_list (xs := [V.non, .int 0, .ref p, .ref dw, .str (toldR r.n r.sg), .ref pF]) (fun i H2 => Same H19 H2 ∧ H2 D2 = some (.lst [])) ⟨same_upd hD2, upd_same⟩ (fun i H2 _ z => SqL.of (z.1 _ _ eO)) ?_ ?_
        · rintro i v H2 hv ⟨s2, e2⟩
          refine ⟨rfl, ?_⟩
          have kk := h1.same (s1119.trans s2)
          match i, hv with
          | 0, hv =>
            cases hv
            exact odd_off (K := K) kk (.base .non) O1.n O1.k rfl rfl (iteF ⟨s2, e2⟩)
          | 1, hv =>
            cases hv
            exact odd_off (K := K) kk (.base (.int _)) O2.n O2.k rfl rfl (iteF ⟨s2, e2⟩)
          | 2, hv =>
            cases hv
            exact odd_off (K := K) kk (.base (.dK (s2 _ _ ewp))) O3.n O3.k rfl rfl (iteF ⟨s2, e2⟩)
          | 3, hv =>
            cases hv
            exact odd_off (K := K) kk (.base (.dK (s2 _ _ edw))) O3.n O3.k rfl rfl (iteF ⟨s2, e2⟩)
          | 4, hv =>
            cases hv
            exact odd_off (K := K) kk (.base (.str _)) O4.n O4.k rfl rfl (iteF ⟨s2, e2⟩)
          | 5, hv =>
            cases hv
            exact odd_off (K := K) kk (.base (.lst (s2 _ _ eF))) O5.n O5.k rfl rfl (iteF ⟨s2, e2⟩)
          | n + 6, hv => cases hv
        · rintro H2 ⟨s2, e2⟩
          refine ⟨Nat.zero_le _, fun p2 np2 => ?_⟩
          refine ⟨.list [], .list [], .lst (SqL.of ((same_upd np2) _ _ e2)) .nil, .lst (SqL.of upd_same) .nil, rfl, rfl, _, rfl, ?_⟩
          exact iteF ⟨_, _, rfl, s1119.trans (s2.trans (same_upd np2))⟩
      · rintro σ H12 ⟨t9, t10, rfl, s12⟩
        exact q _ (b011.trans (But.of s12)) (hc11.same s12)
end
end K24

set_option Elab.async false
set_option linter.all false
set_option maxRecDepth 100000
set_option maxHeartbeats 6400000
namespace K24
open PySem L2 Tx Tg Tm Da RZ
theorem small_mov {H Hb : Hp} {pD pT c : Nat} {l : List Nat} (nD : H pD = none) (s : Same (upd H pD (.dK [])) Hb) (hr : RowAt Hb pT l) : Same H (upd Hb pD (.dK [(Sum.inr (one c), V.ref pT)])) ∧ MovAt (upd Hb pD (.dK [(Sum.inr (one c), V.ref pT)])) pD [(c, l)] := by
  have eD : Hb pD = some (.dK []) := s _ _ upd_same
  have k : KeepT Hb (upd Hb pD (.dK [(Sum.inr (one c), V.ref pT)])) := KeepT.upd (.dK eD)
  exact ⟨same_put ((same_upd nD).trans s) nD, _, upd_same, .cons ⟨pT, rfl, k _ _ hr⟩ .nil⟩
theorem small_okW {sg : Str} {c n : Nat} {l : List Nat} (h : cds sg = [c]) (hl : l.length = n) (hq : ∀ q ∈ l, q < n) (h1 : 1 ≤ n) (h2 : n ≤ 60) : okW n sg [(c, l)] := ⟨by rw [h]; exact .refl _, fun w hw => by
  rw [List.mem_singleton.mp hw]
  exact ⟨hl, hq⟩, h1, h2⟩
theorem cds_a : cds ("a" : Str) = [97] ∧ cds ("b" : Str) = [98] ∧ one 97 = ("a" : Str) ∧ one 98 = ("b" : Str) := by decide +kernel
theorem ab_ne : ("a" : Str) ≠ "b" := by decide +kernel
theorem fine_empty : Fine (Str.ofString "") := ⟨by decide +kernel, by decide +kernel, by decide +kernel⟩
theorem init_new {C : Addr} {H : Hp} {x dx : Addr} {sg : Str} {d g : Addr} {W : List Way} {G : List Nat} {n : Nat} {QQ : VK} {E : XK} (nx : H x = none) (ndx : H dx = none) (hsg : Signs sg) (hM : MovAt H d W) (ok : okW n sg W) (hG : RowAt H g G) (og : okG n G) (few : G.length ≤ 60)
    (q : ∀ H', Same H H' → RdAt C H' x ⟨sg, ordW sg W, G, n⟩ → QQ .non H') : spInit C [.ref x, .str sg, .ref d, .ref g] (upd (upd H dx (.own x)) x (.ins C dx [])) QQ E := by
  have sX : Same H (upd (upd H dx (.own x)) x (.ins C dx [])) := fun b o e => by
    rw [upd_ne (ne_of_none e nx), upd_ne (ne_of_none e ndx)]
    exact e
  exact ⟨x, dx, sg, d, g, W, G, n, rfl, upd_same, hsg, hM.same sX, ok, sX _ _ hG, og, few, fun H' b h => q H' (fun c o e => b _ _ (ne_of_none e nx) (sX _ _ e)) h⟩
abbrev nLaw : List Str := ["_law_script", "_law_at", "_law_one", "_law_two"]
def spLaw (K : PySem.W.Frag) : Sp := fun vs H Q _ => ∃ (a : Addr) (ns : List Int), vs = [.ref a] ∧ SqL K H a (ns.map V.int) ∧ ns.length ≤ 63 ∧ ∀ H', Q (.bl true) H'
theorem scLaw : FnScope nLaw ["_law_script"] (defScope sLaw) := ⟨rfl, rfl, rfl, by decide +kernel, rfl, by decide +kernel, by decide +kernel⟩
section
variable {P : Program} {w : World} {K : PySem.W.Frag} {mg : Str → Option Value} {base : Heap} {CC : Addr}
theorem ok_law {f fC fT : Addr} {fd dC dT : FuncData} (F : Fun K "law" "law" sLaw f fd) (T : Txt K mg) (C : Cl P w K mg base CC)
    (DC : Df K mg "_law_cup" sCup ["_law_script", "_law_at"] fC dC) (DT : Df K mg "_law_cell_right" sCell ["_law_cup_here"] fT dT)
    (GC : FnOk P w K mg base CX0 1 fC dC ["_law_script", "_law_at"] (spCup K)) (GT : Kept P w K mg base CX0 10 fT dT ["_law_cup_here"] spCell) :
    Kept P w K mg base CX0 11 f fd ["_law_script"] (spLaw K) := by
  refine Kept.fn F scLaw (fun vs H Q E h => ?_) (fun cdv A outer s H vs Q E hr still h => ?_)
  · obtain ⟨a, ns, rfl, _⟩ := h
    rfl
  · obtain ⟨a, ns, rfl, hS, hlen, q⟩ := h
    obtain ⟨tn, hn⟩ := T.mSta
    refine ⟨_, (pss_cons (ps_if (pt_cmpR op_ne (pe_glob (v := .int 60) rfl hn ⟨_, rfl⟩) pe_int (nomark _)) (pss_one (ps_ret pe_bl)) pss_nil)
    (pss_cons (ps_for PassesOwn.never rfl (pi_range1 rfl T.range (pa_cons (pe_callB (call_max2 rfl) (by rfl) T.max (by decide +kernel) (pa_cons pe_int (pa_cons (pe_callB (call_min2 rfl) (by rfl) T.min (by decide +kernel) (pa_cons pe_int (pa_cons (pe_callB call_len (by rfl) T.len PySem.boot_len (pa_cons (pv 0) pa_nil)) pa_nil))) pa_nil))) pa_nil)) (pg_name (i := 1) scLaw.nd rfl (Or.inl rfl))
      (pss_one (ps_if (pt_not (pt_val (pe_callG GT (hr.mono (by decide)) still (by rfl) DT.m DT.F.kp DT.b .nil pass0 (pa_cons (pe_call GC (hr.mono (by decide)) (by rfl) DC.m DC.F.kp DC.b .nil pass0 (pa_cons (pv 0) (pa_cons (pv 1) pa_nil))) pa_nil)))) (pss_one (ps_ret pe_bl)) pss_nil)))
    (pss_cons (ps_par (i := 2) (j := 3) (by rfl) scLaw.nd rfl rfl (by decide) rfl rfl (pa_cons (pe_make C.MK.M C.MK.gi (hr.mono (by decide)) (by rfl) C.MK.W.gR C.MK.bi .nil pass0 (pa_cons pe_str (pa_cons (pe_disp (pps_cons pe_str (pe_tup (pa_cons pe_int pa_nil)) pps_nil) (by rfl) (by rfl) (fun z => by cases z) (by decide)) (pa_cons (pe_tup pa_nil) pa_nil)))) (pa_cons (pe_make C.MK.M C.MK.gi (hr.mono (by decide)) (by rfl) C.MK.W.gR C.MK.bi .nil pass0 (pa_cons pe_str (pa_cons (pe_disp (pps_cons pe_str (pe_tup (pa_cons pe_int pa_nil)) pps_nil) (by rfl) (by rfl) (fun z => by cases z) (by decide)) (pa_cons (pe_tup pa_nil) pa_nil)))) pa_nil)) (by rfl))
    (pss_one (ps_ret (pe_and (pe_cmpR (Ow.ne_own C.gEq (hr.mono (by decide)) C.ob C.sNe C.sEq C.fnEq C.bEq pass0) (pv 2) (pv 3) (nomark _)) (pe_and (pe_cmpR (Ow.notIn_own C.gIn (hr.mono (by decide)) C.sIn C.fnIn C.bIn pass0) pe_str (pv 2) (by rfl)) (pe_one (pe_cmpR op_eq (pe_callB (Ow.len_own C.gLn (hr.mono (by decide)) C.sLn C.fnLn C.bLn pass0) (by rfl) T.len PySem.boot_len (pa_cons (pe_make C.MK.M C.MK.gi (hr.mono (by decide)) (by rfl) C.MK.W.gR C.MK.bi .nil pass0 (pa_cons pe_str (pa_cons (pe_disp (pps_cons pe_str (pe_op op_repT (pe_tup (pa_cons pe_int pa_nil)) pe_int) pps_nil) (by rfl) (by rfl) (fun z => by cases z) (by decide)) (pa_cons (pe_tup (pa_cons pe_int pa_nil)) pa_nil)))) pa_nil)) pe_int (nomark _)))))))))), ?_⟩
    refine ⟨rfl, _, rfl, ne_if ?_⟩
    have bj : ∀ n : Int, 0 ≤ n → n ≤ 63 → (-(2 ^ 62) ≤ (if (if n < 2 then n else 2) > 1 then (if n < 2 then n else 2) else 1) ∧ (if (if n < 2 then n else 2) > 1 then (if n < 2 then n else 2) else 1) < 2 ^ 62) ∧ (if (if n < 2 then n else 2) > 1 then (if n < 2 then n else 2) else (1 : Int)).toNat ≤ 2 := by
      intro n h0 h1
      repeat' split
      all_goals omega
    obtain ⟨⟨bj1, bj2⟩, bj3⟩ := bj ns.length (by omega) (by omega)
    refine ⟨_, rfl, _, ns.length, rfl, .inl ⟨_, hS, by rw [List.length_map]⟩, _, _, rfl, _, _, rfl, _, rfl, bj1, bj2, for_range (n := _) (fun i σ H1 => ∃ u1 : Option V, σ = [some (.ref a), u1, none, none] ∧ Same H H1)
      ⟨none, rfl, Same.refl H⟩ ?_ ?_⟩
    · rintro k σ H1 hk ⟨u1, rfl, s1⟩
      have hk3 : k < 2 := Nat.lt_of_lt_of_le hk bj3
      refine ⟨_, rfl, _, rfl, a, ns, k, congrArg (fun z => [V.ref a, V.int z]) (Int.zero_add _), s1.seq hS, hlen, by omega, fun c H2 nc s2 hc2 => ?_⟩
      have nc0 : H c = none := free_none s1 nc
      refine ⟨c, rfl, hc2, fun H3 b3 hc3 => ⟨_, rfl, iteF ?_⟩⟩
      refine ⟨_, rfl, fun b o e => ?_⟩
      exact b3 _ _ (ne_of_none e nc0) (s2 _ _ (s1 _ _ e))
    · rintro σ H1 ⟨u1, rfl, s1⟩
      obtain ⟨ca, cb, oa, ob⟩ := cds_a
      have okA : okW 1 "a" [(97, [0])] := small_okW ca rfl (by decide) (by decide) (by decide)
      have okB : okW 1 "b" [(98, [0])] := small_okW cb rfl (by decide) (by decide) (by decide)
      have okE : okG 1 [] := ⟨nofun, .nil⟩
      have sA : Signs "a" := .inr (.inr (.inl rfl))
      have sB : Signs "b" := .inr (.inr (.inr (.inr rfl)))
      dsimp only [tSeq, tPar]
      refine fun pD nD => ⟨(by show 1 ≤ sizeLine; decide), fun pT nT => ?_⟩
      have m1 := small_mov (c := 97) (l := [0]) nD (same_upd (o := .tup [.int 0]) nT) upd_same
      refine ⟨(same_upd (o := .tup [.int 0]) nT) _ _ upd_same, [(Sum.inr "a", .ref pT)], rfl, (by show 1 ≤ 15; decide), (by show 0 ≤ sizeLine; decide), fun pG nG => ?_⟩
      rw [oa] at m1
      obtain ⟨sm, hm⟩ := m1
      refine fun x1 dx1 nx1 ndx1 nex1 => ?_
      have sG := same_upd (o := .tup []) nG
      refine init_new (n := 1) (W := [(97, [0])]) (G := []) nx1 ndx1 sA (hm.same sG) okA upd_same okE (by decide) fun H5 s5 h1 => ⟨rfl, ?_⟩
      clear s5 nx1 ndx1 nex1 sG hm sm nG nT nD s1
      refine fun pD2 nD2 => ⟨(by show 1 ≤ sizeLine; decide), fun pT2 nT2 => ?_⟩
      have m2 := small_mov (c := 98) (l := [0]) nD2 (same_upd (o := .tup [.int 0]) nT2) upd_same
      rw [ob] at m2
      obtain ⟨sm2, hm2⟩ := m2
      refine ⟨(same_upd (o := .tup [.int 0]) nT2) _ _ upd_same, [(Sum.inr "b", .ref pT2)], rfl, (by show 1 ≤ 15; decide), (by show 0 ≤ sizeLine; decide), fun pG2 nG2 => ?_⟩
      refine fun x2 dx2 nx2 ndx2 nex2 => ?_
      have sG2 := same_upd (o := .tup []) nG2
      refine init_new (n := 1) (W := [(98, [0])]) (G := []) nx2 ndx2 sB (hm2.same sG2) okB upd_same okE (by decide) fun H6 s6 h2 => ⟨rfl, _, _, rfl, ?_⟩
      have h1 : RdAt CC H6 x1 _ := h1.same ((sm2.trans sG2).trans s6)
      clear sm2 sG2 s6 nx2 ndx2 nex2 nG2 hm2 nT2 nD2
      obtain ⟨dy1, _, _, e1, _⟩ := id h1
      obtain ⟨dy2, _, _, e2, _⟩ := id h2
      refine ⟨_, rfl, _, rfl, x1, x2, dy1, dy2, _, _, rfl, rfl, e1, e2, x1, x2, _, _, rfl, h1, h2, _, rfl, _, rfl, ?_⟩
      have rne : reqB ⟨"a", ordW "a" [(97, [0])], [], 1⟩ ⟨"b", ordW "b" [(98, [0])], [], 1⟩ = false := decide_eq_false fun h => ab_ne h.1
      rw [rne]
      refine iteT ?_
      refine ⟨_, rfl, x1, dy1, _, rfl, e1, x1, _, .str (Str.ofString ""), .str (Str.ofString ""), rfl, h1, .str _, fine_empty, false, ?_, _, rfl, iteT ?_⟩
      · refine congrArg V.bl ?_
        rw [Bool.and_eq_false_iff]
        refine .inr ?_
        show decide (run (ordW "a" [(97, [0])]) 0 (cds (Str.ofString "")) ∈ ([] : List Nat)) = false
        exact decide_eq_false List.not_mem_nil
      have okS : okW 60 "a" [(97, List.replicate 60 0)] := small_okW ca (List.length_replicate ..) (fun q hq => by rw [(List.mem_replicate.mp hq).2]; decide) (by decide) (by decide)
      have okL : okG 60 [59] := ⟨fun q hq => by rw [List.mem_singleton.mp hq]; decide, List.pairwise_singleton _ _⟩
      refine fun pD nD => ⟨(by show 1 ≤ sizeLine; decide), fun pT nT => ?_⟩
      refine ⟨pT, 60, _, rfl, rfl, SqT.of upd_same, by decide, by decide, by decide, by show 1 ≤ 1000; decide, fun pR nR => ?_⟩
      have sT := (same_upd (o := .tup [.int 0]) nT).trans (same_upd (o := .tup (List.replicate (Int.toNat 60) [V.int 0]).flatten) nR)
      have eR : RowAt (upd (upd (upd H6 pD (.dK [])) pT (.tup [.int 0])) pR (.tup (List.replicate (Int.toNat 60) [V.int 0]).flatten)) pR (List.replicate 60 0) := by
        show (upd _ pR _) pR = _
        rw [upd_same]
        exact congrArg (fun z => some (HO.tup z)) (by decide +kernel)
      have m3 := small_mov (c := 97) nD sT eR
      rw [oa] at m3
      obtain ⟨sm, hm⟩ := m3
      refine ⟨sT _ _ upd_same, [(Sum.inr "a", .ref pR)], rfl, (by show 1 ≤ 15; decide), (by show 1 ≤ sizeLine; decide), fun pG nG => ?_⟩
      refine fun x3 dx3 nx3 ndx3 nex3 => ?_
      have sG := same_upd (o := .tup [.int 59]) nG
      refine init_new (n := 60) (W := [(97, List.replicate 60 0)]) (G := [59]) nx3 ndx3 sA (hm.same sG) okS upd_same okL (by decide) fun H7 s7 h3 => ⟨rfl, ?_⟩
      obtain ⟨dy3, _, _, e3, _⟩ := id h3
      refine ⟨x3, dy3, _, rfl, e3, x3, _, rfl, h3, _, rfl, by decide, by decide, rfl, ?_⟩
      have e60 : decide (V.int ((60 : Nat) : Int) = V.int 60) = true := decide_eq_true rfl
      show Q (.bl (decide (V.int ((60 : Nat) : Int) = V.int 60))) H7
      rw [e60]
      exact q _
end
end K24

set_option Elab.async false
set_option linter.all false
set_option maxRecDepth 100000
set_option maxHeartbeats 6400000
namespace K24
open PySem L2 Tx Tg Tm Da
theorem df_mk {K : PySem.W.Frag} {h : Heap} {mg : Str → Option Value} {x : Str} {st : Stmt} {ps : List Str} {f : Addr} {oc kV dc pm cd ct : Value} {od an : Option Addr} {sl : Array (Option Value)} (X : K.In h) (G : h.Ns mainGlobals mg)
    (a : PySem.W.nsIn K mainGlobals x = some (some (.ref f))) (l : K.lookup f = some ⟨oc, od, .func (PySem.W.fnOf x x (defArgs st) (defBody st) (defScope st) .none kV dc pm an cd ct), sl⟩)
    (c : PySem.W.codeIn K cd x = true) (k : PySem.W.keepIn K (.ref f) = true)
    (hb : ∀ (kV doc pm : Value) (an : Option Addr) (cdv ct : Value) (us : List Value), us.length = ps.length → bindArgs (PySem.W.fnOf x x (defArgs st) (defBody st) (defScope st) .none kV doc pm an cdv ct) ⟨us, []⟩ = pure (ps.zip us)) :
    Df K mg x st ps f (PySem.W.fnOf x x (defArgs st) (defBody st) (defScope st) .none kV dc pm an cd ct) :=
  have F := fun_mk (st := st) l c k
  ⟨F, PySem.W.mg_of X G a, F.binds hb⟩
theorem kit_self {K : PySem.W.Frag} {C : Addr} : PySem.W.kitOne K (.ref C) (.ref C) = some true := by
  unfold PySem.W.kitOne
  rw [if_pos (beq_self_eq_true _)]
theorem all_mk {l : PySem.W.OpenLaw} {w : World} {K : PySem.W.Frag} {h : Heap} {mg : Str → Option Value} {fa CR : Addr} (X : K.In h) (G : h.Ns mainGlobals mg) (hfa : mg "law" = some (.ref fa))
    (hx1 : ∃ n t, n = 10 ^ 200 ∧ mg "LEAST_TOO_LONG" = some (.int n t))
    {f1 : Addr} {od1 an1 : Option Addr} {sl1 : Array (Option Value)} {oc1 kV1 dc1 pm1 cd1 ct1 : Value}
    (a1 : PySem.W.nsIn K mainGlobals "is_integer" = some (some (.ref f1))) (l1 : K.lookup f1 = some ⟨oc1, od1, .func (PySem.W.fnOf "is_integer" "is_integer" (defArgs sInt) (defBody sInt) (defScope sInt) .none kV1 dc1 pm1 an1 cd1 ct1), sl1⟩) (c1 : PySem.W.codeIn K cd1 "is_integer" = true) (k1 : PySem.W.keepIn K (.ref f1) = true)
    {f2 : Addr} {od2 an2 : Option Addr} {sl2 : Array (Option Value)} {oc2 kV2 dc2 pm2 cd2 ct2 : Value}
    (a2 : PySem.W.nsIn K mainGlobals "is_letters" = some (some (.ref f2))) (l2 : K.lookup f2 = some ⟨oc2, od2, .func (PySem.W.fnOf "is_letters" "is_letters" (defArgs sLetters) (defBody sLetters) (defScope sLetters) .none kV2 dc2 pm2 an2 cd2 ct2), sl2⟩) (c2 : PySem.W.codeIn K cd2 "is_letters" = true) (k2 : PySem.W.keepIn K (.ref f2) = true)
    {f3 : Addr} {od3 an3 : Option Addr} {sl3 : Array (Option Value)} {oc3 kV3 dc3 pm3 cd3 ct3 : Value}
    (a3 : PySem.W.nsIn K mainGlobals "is_text" = some (some (.ref f3))) (l3 : K.lookup f3 = some ⟨oc3, od3, .func (PySem.W.fnOf "is_text" "is_text" (defArgs sText) (defBody sText) (defScope sText) .none kV3 dc3 pm3 an3 cd3 ct3), sl3⟩) (c3 : PySem.W.codeIn K cd3 "is_text" = true) (k3 : PySem.W.keepIn K (.ref f3) = true)
    {f4 : Addr} {od4 an4 : Option Addr} {sl4 : Array (Option Value)} {oc4 kV4 dc4 pm4 cd4 ct4 : Value}
    (a4 : PySem.W.nsIn K mainGlobals "check_letters" = some (some (.ref f4))) (l4 : K.lookup f4 = some ⟨oc4, od4, .func (PySem.W.fnOf "check_letters" "check_letters" (defArgs sCheck) (defBody sCheck) (defScope sCheck) .none kV4 dc4 pm4 an4 cd4 ct4), sl4⟩) (c4 : PySem.W.codeIn K cd4 "check_letters" = true) (k4 : PySem.W.keepIn K (.ref f4) = true)
    {f5 : Addr} {od5 an5 : Option Addr} {sl5 : Array (Option Value)} {oc5 kV5 dc5 pm5 cd5 ct5 : Value}
    (a5 : PySem.W.nsIn K mainGlobals "has_only" = some (some (.ref f5))) (l5 : K.lookup f5 = some ⟨oc5, od5, .func (PySem.W.fnOf "has_only" "has_only" (defArgs sHas) (defBody sHas) (defScope sHas) .none kV5 dc5 pm5 an5 cd5 ct5), sl5⟩) (c5 : PySem.W.codeIn K cd5 "has_only" = true) (k5 : PySem.W.keepIn K (.ref f5) = true)
    {f6 : Addr} {od6 an6 : Option Addr} {sl6 : Array (Option Value)} {oc6 kV6 dc6 pm6 cd6 ct6 : Value}
    (a6 : PySem.W.nsIn K mainGlobals "check_text" = some (some (.ref f6))) (l6 : K.lookup f6 = some ⟨oc6, od6, .func (PySem.W.fnOf "check_text" "check_text" (defArgs sCText) (defBody sCText) (defScope sCText) .none kV6 dc6 pm6 an6 cd6 ct6), sl6⟩) (c6 : PySem.W.codeIn K cd6 "check_text" = true) (k6 : PySem.W.keepIn K (.ref f6) = true)
    {f7 : Addr} {od7 an7 : Option Addr} {sl7 : Array (Option Value)} {oc7 kV7 dc7 pm7 cd7 ct7 : Value}
    (a7 : PySem.W.nsIn K mainGlobals "is_state" = some (some (.ref f7))) (l7 : K.lookup f7 = some ⟨oc7, od7, .func (PySem.W.fnOf "is_state" "is_state" (defArgs sIsState) (defBody sIsState) (defScope sIsState) .none kV7 dc7 pm7 an7 cd7 ct7), sl7⟩) (c7 : PySem.W.codeIn K cd7 "is_state" = true) (k7 : PySem.W.keepIn K (.ref f7) = true)
    {f8 : Addr} {od8 an8 : Option Addr} {sl8 : Array (Option Value)} {oc8 kV8 dc8 pm8 cd8 ct8 : Value}
    (a8 : PySem.W.nsIn K mainGlobals "is_row_of_states" = some (some (.ref f8))) (l8 : K.lookup f8 = some ⟨oc8, od8, .func (PySem.W.fnOf "is_row_of_states" "is_row_of_states" (defArgs sRowOk) (defBody sRowOk) (defScope sRowOk) .none kV8 dc8 pm8 an8 cd8 ct8), sl8⟩) (c8 : PySem.W.codeIn K cd8 "is_row_of_states" = true) (k8 : PySem.W.keepIn K (.ref f8) = true)
    {f9 : Addr} {od9 an9 : Option Addr} {sl9 : Array (Option Value)} {oc9 kV9 dc9 pm9 cd9 ct9 : Value}
    (a9 : PySem.W.nsIn K mainGlobals "are_reader_moves" = some (some (.ref f9))) (l9 : K.lookup f9 = some ⟨oc9, od9, .func (PySem.W.fnOf "are_reader_moves" "are_reader_moves" (defArgs sMovesOk) (defBody sMovesOk) (defScope sMovesOk) .none kV9 dc9 pm9 an9 cd9 ct9), sl9⟩) (c9 : PySem.W.codeIn K cd9 "are_reader_moves" = true) (k9 : PySem.W.keepIn K (.ref f9) = true)
    {f10 : Addr} {od10 an10 : Option Addr} {sl10 : Array (Option Value)} {oc10 kV10 dc10 pm10 cd10 ct10 : Value}
    (a10 : PySem.W.nsIn K mainGlobals "are_yes_states" = some (some (.ref f10))) (l10 : K.lookup f10 = some ⟨oc10, od10, .func (PySem.W.fnOf "are_yes_states" "are_yes_states" (defArgs sYesOk) (defBody sYesOk) (defScope sYesOk) .none kV10 dc10 pm10 an10 cd10 ct10), sl10⟩) (c10 : PySem.W.codeIn K cd10 "are_yes_states" = true) (k10 : PySem.W.keepIn K (.ref f10) = true)
    {f11 : Addr} {od11 an11 : Option Addr} {sl11 : Array (Option Value)} {oc11 kV11 dc11 pm11 cd11 ct11 : Value}
    (a11 : PySem.W.nsIn K mainGlobals "_law_cup" = some (some (.ref f11))) (l11 : K.lookup f11 = some ⟨oc11, od11, .func (PySem.W.fnOf "_law_cup" "_law_cup" (defArgs sCup) (defBody sCup) (defScope sCup) .none kV11 dc11 pm11 an11 cd11 ct11), sl11⟩) (c11 : PySem.W.codeIn K cd11 "_law_cup" = true) (k11 : PySem.W.keepIn K (.ref f11) = true)
    {f12 : Addr} {od12 an12 : Option Addr} {sl12 : Array (Option Value)} {oc12 kV12 dc12 pm12 cd12 ct12 : Value}
    (a12 : PySem.W.nsIn K mainGlobals "_law_bit" = some (some (.ref f12))) (l12 : K.lookup f12 = some ⟨oc12, od12, .func (PySem.W.fnOf "_law_bit" "_law_bit" (defArgs sBit) (defBody sBit) (defScope sBit) .none kV12 dc12 pm12 an12 cd12 ct12), sl12⟩) (c12 : PySem.W.codeIn K cd12 "_law_bit" = true) (k12 : PySem.W.keepIn K (.ref f12) = true)
    {f13 : Addr} {od13 an13 : Option Addr} {sl13 : Array (Option Value)} {oc13 kV13 dc13 pm13 cd13 ct13 : Value}
    (a13 : PySem.W.nsIn K mainGlobals "_law_pick" = some (some (.ref f13))) (l13 : K.lookup f13 = some ⟨oc13, od13, .func (PySem.W.fnOf "_law_pick" "_law_pick" (defArgs sPick) (defBody sPick) (defScope sPick) .none kV13 dc13 pm13 an13 cd13 ct13), sl13⟩) (c13 : PySem.W.codeIn K cd13 "_law_pick" = true) (k13 : PySem.W.keepIn K (.ref f13) = true)
    {f14 : Addr} {od14 an14 : Option Addr} {sl14 : Array (Option Value)} {oc14 kV14 dc14 pm14 cd14 ct14 : Value}
    (a14 : PySem.W.nsIn K mainGlobals "_law_dealt" = some (some (.ref f14))) (l14 : K.lookup f14 = some ⟨oc14, od14, .func (PySem.W.fnOf "_law_dealt" "_law_dealt" (defArgs sDealt) (defBody sDealt) (defScope sDealt) .none kV14 dc14 pm14 an14 cd14 ct14), sl14⟩) (c14 : PySem.W.codeIn K cd14 "_law_dealt" = true) (k14 : PySem.W.keepIn K (.ref f14) = true)
    {f15 : Addr} {od15 an15 : Option Addr} {sl15 : Array (Option Value)} {oc15 kV15 dc15 pm15 cd15 ct15 : Value}
    (a15 : PySem.W.nsIn K mainGlobals "_law_signs" = some (some (.ref f15))) (l15 : K.lookup f15 = some ⟨oc15, od15, .func (PySem.W.fnOf "_law_signs" "_law_signs" (defArgs sSigns) (defBody sSigns) (defScope sSigns) .none kV15 dc15 pm15 an15 cd15 ct15), sl15⟩) (c15 : PySem.W.codeIn K cd15 "_law_signs" = true) (k15 : PySem.W.keepIn K (.ref f15) = true)
    {f16 : Addr} {od16 an16 : Option Addr} {sl16 : Array (Option Value)} {oc16 kV16 dc16 pm16 cd16 ct16 : Value}
    (a16 : PySem.W.nsIn K mainGlobals "_law_line" = some (some (.ref f16))) (l16 : K.lookup f16 = some ⟨oc16, od16, .func (PySem.W.fnOf "_law_line" "_law_line" (defArgs sLine) (defBody sLine) (defScope sLine) .none kV16 dc16 pm16 an16 cd16 ct16), sl16⟩) (c16 : PySem.W.codeIn K cd16 "_law_line" = true) (k16 : PySem.W.keepIn K (.ref f16) = true)
    {f17 : Addr} {od17 an17 : Option Addr} {sl17 : Array (Option Value)} {oc17 kV17 dc17 pm17 cd17 ct17 : Value}
    (a17 : PySem.W.nsIn K mainGlobals "_law_some_of" = some (some (.ref f17))) (l17 : K.lookup f17 = some ⟨oc17, od17, .func (PySem.W.fnOf "_law_some_of" "_law_some_of" (defArgs sSome) (defBody sSome) (defScope sSome) .none kV17 dc17 pm17 an17 cd17 ct17), sl17⟩) (c17 : PySem.W.codeIn K cd17 "_law_some_of" = true) (k17 : PySem.W.keepIn K (.ref f17) = true)
    {f18 : Addr} {od18 an18 : Option Addr} {sl18 : Array (Option Value)} {oc18 kV18 dc18 pm18 cd18 ct18 : Value}
    (a18 : PySem.W.nsIn K mainGlobals "_law_any_ways" = some (some (.ref f18))) (l18 : K.lookup f18 = some ⟨oc18, od18, .func (PySem.W.fnOf "_law_any_ways" "_law_any_ways" (defArgs sAny) (defBody sAny) (defScope sAny) .none kV18 dc18 pm18 an18 cd18 ct18), sl18⟩) (c18 : PySem.W.codeIn K cd18 "_law_any_ways" = true) (k18 : PySem.W.keepIn K (.ref f18) = true)
    {f19 : Addr} {od19 an19 : Option Addr} {sl19 : Array (Option Value)} {oc19 kV19 dc19 pm19 cd19 ct19 : Value}
    (a19 : PySem.W.nsIn K mainGlobals "_law_turning_ways" = some (some (.ref f19))) (l19 : K.lookup f19 = some ⟨oc19, od19, .func (PySem.W.fnOf "_law_turning_ways" "_law_turning_ways" (defArgs sTurning) (defBody sTurning) (defScope sTurning) .none kV19 dc19 pm19 an19 cd19 ct19), sl19⟩) (c19 : PySem.W.codeIn K cd19 "_law_turning_ways" = true) (k19 : PySem.W.keepIn K (.ref f19) = true)
    {f20 : Addr} {od20 an20 : Option Addr} {sl20 : Array (Option Value)} {oc20 kV20 dc20 pm20 cd20 ct20 : Value}
    (a20 : PySem.W.nsIn K mainGlobals "_law_ring_ways" = some (some (.ref f20))) (l20 : K.lookup f20 = some ⟨oc20, od20, .func (PySem.W.fnOf "_law_ring_ways" "_law_ring_ways" (defArgs sRing) (defBody sRing) (defScope sRing) .none kV20 dc20 pm20 an20 cd20 ct20), sl20⟩) (c20 : PySem.W.codeIn K cd20 "_law_ring_ways" = true) (k20 : PySem.W.keepIn K (.ref f20) = true)
    {f21 : Addr} {od21 an21 : Option Addr} {sl21 : Array (Option Value)} {oc21 kV21 dc21 pm21 cd21 ct21 : Value}
    (a21 : PySem.W.nsIn K mainGlobals "_law_pair_ways" = some (some (.ref f21))) (l21 : K.lookup f21 = some ⟨oc21, od21, .func (PySem.W.fnOf "_law_pair_ways" "_law_pair_ways" (defArgs sPair) (defBody sPair) (defScope sPair) .none kV21 dc21 pm21 an21 cd21 ct21), sl21⟩) (c21 : PySem.W.codeIn K cd21 "_law_pair_ways" = true) (k21 : PySem.W.keepIn K (.ref f21) = true)
    {f22 : Addr} {od22 an22 : Option Addr} {sl22 : Array (Option Value)} {oc22 kV22 dc22 pm22 cd22 ct22 : Value}
    (a22 : PySem.W.nsIn K mainGlobals "_law_turner" = some (some (.ref f22))) (l22 : K.lookup f22 = some ⟨oc22, od22, .func (PySem.W.fnOf "_law_turner" "_law_turner" (defArgs sTurner) (defBody sTurner) (defScope sTurner) .none kV22 dc22 pm22 an22 cd22 ct22), sl22⟩) (c22 : PySem.W.codeIn K cd22 "_law_turner" = true) (k22 : PySem.W.keepIn K (.ref f22) = true)
    {f23 : Addr} {od23 an23 : Option Addr} {sl23 : Array (Option Value)} {oc23 kV23 dc23 pm23 cd23 ct23 : Value}
    (a23 : PySem.W.nsIn K mainGlobals "_law_plain_reader" = some (some (.ref f23))) (l23 : K.lookup f23 = some ⟨oc23, od23, .func (PySem.W.fnOf "_law_plain_reader" "_law_plain_reader" (defArgs sPlain) (defBody sPlain) (defScope sPlain) .none kV23 dc23 pm23 an23 cd23 ct23), sl23⟩) (c23 : PySem.W.codeIn K cd23 "_law_plain_reader" = true) (k23 : PySem.W.keepIn K (.ref f23) = true)
    {f24 : Addr} {od24 an24 : Option Addr} {sl24 : Array (Option Value)} {oc24 kV24 dc24 pm24 cd24 ct24 : Value}
    (a24 : PySem.W.nsIn K mainGlobals "_law_read" = some (some (.ref f24))) (l24 : K.lookup f24 = some ⟨oc24, od24, .func (PySem.W.fnOf "_law_read" "_law_read" (defArgs sRead) (defBody sRead) (defScope sRead) .none kV24 dc24 pm24 an24 cd24 ct24), sl24⟩) (c24 : PySem.W.codeIn K cd24 "_law_read" = true) (k24 : PySem.W.keepIn K (.ref f24) = true)
    {f25 : Addr} {od25 an25 : Option Addr} {sl25 : Array (Option Value)} {oc25 kV25 dc25 pm25 cd25 ct25 : Value}
    (a25 : PySem.W.nsIn K mainGlobals "_law_says_yes" = some (some (.ref f25))) (l25 : K.lookup f25 = some ⟨oc25, od25, .func (PySem.W.fnOf "_law_says_yes" "_law_says_yes" (defArgs sSays) (defBody sSays) (defScope sSays) .none kV25 dc25 pm25 an25 cd25 ct25), sl25⟩) (c25 : PySem.W.codeIn K cd25 "_law_says_yes" = true) (k25 : PySem.W.keepIn K (.ref f25) = true)
    {f26 : Addr} {od26 an26 : Option Addr} {sl26 : Array (Option Value)} {oc26 kV26 dc26 pm26 cd26 ct26 : Value}
    (a26 : PySem.W.nsIn K mainGlobals "_law_made_reader" = some (some (.ref f26))) (l26 : K.lookup f26 = some ⟨oc26, od26, .func (PySem.W.fnOf "_law_made_reader" "_law_made_reader" (defArgs sMade) (defBody sMade) (defScope sMade) .none kV26 dc26 pm26 an26 cd26 ct26), sl26⟩) (c26 : PySem.W.codeIn K cd26 "_law_made_reader" = true) (k26 : PySem.W.keepIn K (.ref f26) = true)
    {f27 : Addr} {od27 an27 : Option Addr} {sl27 : Array (Option Value)} {oc27 kV27 dc27 pm27 cd27 ct27 : Value}
    (a27 : PySem.W.nsIn K mainGlobals "_law_state_count" = some (some (.ref f27))) (l27 : K.lookup f27 = some ⟨oc27, od27, .func (PySem.W.fnOf "_law_state_count" "_law_state_count" (defArgs sCount) (defBody sCount) (defScope sCount) .none kV27 dc27 pm27 an27 cd27 ct27), sl27⟩) (c27 : PySem.W.codeIn K cd27 "_law_state_count" = true) (k27 : PySem.W.keepIn K (.ref f27) = true)
    {f28 : Addr} {od28 an28 : Option Addr} {sl28 : Array (Option Value)} {oc28 kV28 dc28 pm28 cd28 ct28 : Value}
    (a28 : PySem.W.nsIn K mainGlobals "_law_is_reader" = some (some (.ref f28))) (l28 : K.lookup f28 = some ⟨oc28, od28, .func (PySem.W.fnOf "_law_is_reader" "_law_is_reader" (defArgs sIsR) (defBody sIsR) (defScope sIsR) .none kV28 dc28 pm28 an28 cd28 ct28), sl28⟩) (c28 : PySem.W.codeIn K cd28 "_law_is_reader" = true) (k28 : PySem.W.keepIn K (.ref f28) = true)
    {f29 : Addr} {od29 an29 : Option Addr} {sl29 : Array (Option Value)} {oc29 kV29 dc29 pm29 cd29 ct29 : Value}
    (a29 : PySem.W.nsIn K mainGlobals "_law_lines" = some (some (.ref f29))) (l29 : K.lookup f29 = some ⟨oc29, od29, .func (PySem.W.fnOf "_law_lines" "_law_lines" (defArgs sLines) (defBody sLines) (defScope sLines) .none kV29 dc29 pm29 an29 cd29 ct29), sl29⟩) (c29 : PySem.W.codeIn K cd29 "_law_lines" = true) (k29 : PySem.W.keepIn K (.ref f29) = true)
    {f30 : Addr} {od30 an30 : Option Addr} {sl30 : Array (Option Value)} {oc30 kV30 dc30 pm30 cd30 ct30 : Value}
    (a30 : PySem.W.nsIn K mainGlobals "_law_near_reader" = some (some (.ref f30))) (l30 : K.lookup f30 = some ⟨oc30, od30, .func (PySem.W.fnOf "_law_near_reader" "_law_near_reader" (defArgs sNear) (defBody sNear) (defScope sNear) .none kV30 dc30 pm30 an30 cd30 ct30), sl30⟩) (c30 : PySem.W.codeIn K cd30 "_law_near_reader" = true) (k30 : PySem.W.keepIn K (.ref f30) = true)
    {f31 : Addr} {od31 an31 : Option Addr} {sl31 : Array (Option Value)} {oc31 kV31 dc31 pm31 cd31 ct31 : Value}
    (a31 : PySem.W.nsIn K mainGlobals "_law_all_right" = some (some (.ref f31))) (l31 : K.lookup f31 = some ⟨oc31, od31, .func (PySem.W.fnOf "_law_all_right" "_law_all_right" (defArgs sAll) (defBody sAll) (defScope sAll) .none kV31 dc31 pm31 an31 cd31 ct31), sl31⟩) (c31 : PySem.W.codeIn K cd31 "_law_all_right" = true) (k31 : PySem.W.keepIn K (.ref f31) = true)
    {f32 : Addr} {od32 an32 : Option Addr} {sl32 : Array (Option Value)} {oc32 kV32 dc32 pm32 cd32 ct32 : Value}
    (a32 : PySem.W.nsIn K mainGlobals "_law_cell_right" = some (some (.ref f32))) (l32 : K.lookup f32 = some ⟨oc32, od32, .func (PySem.W.fnOf "_law_cell_right" "_law_cell_right" (defArgs sCell) (defBody sCell) (defScope sCell) .none kV32 dc32 pm32 an32 cd32 ct32), sl32⟩) (c32 : PySem.W.codeIn K cd32 "_law_cell_right" = true) (k32 : PySem.W.keepIn K (.ref f32) = true)
    {f33 : Addr} {od33 an33 : Option Addr} {sl33 : Array (Option Value)} {oc33 kV33 dc33 pm33 cd33 ct33 : Value}
    (a33 : PySem.W.nsIn K mainGlobals "law" = some (some (.ref f33))) (l33 : K.lookup f33 = some ⟨oc33, od33, .func (PySem.W.fnOf "law" "law" (defArgs sLaw) (defBody sLaw) (defScope sLaw) .none kV33 dc33 pm33 an33 cd33 ct33), sl33⟩) (c33 : PySem.W.codeIn K cd33 "law" = true) (k33 : PySem.W.keepIn K (.ref f33) = true)
    (aXR : PySem.W.nsIn K mainGlobals "Reader" = some (some (.ref CR)))
    {fIn : Addr} {odIn anIn : Option Addr} {slIn : Array (Option Value)} {ocIn kVIn dcIn pmIn cdIn ctIn : Value}
    (aIn : PySem.W.findIn K (.ref CR) "__init__" = some (some (.ref fIn))) (iIn : PySem.W.isFn K (.ref fIn) = true) (lIn : K.lookup fIn = some ⟨ocIn, odIn, .func (PySem.W.fnOf "__init__" "Reader.__init__" (defArgs sInit) (defBody sInit) (defScope sInit) .none kVIn dcIn pmIn anIn cdIn ctIn), slIn⟩) (cIn : PySem.W.codeIn K cdIn "Reader.__init__" = true) (kIn : PySem.W.keepIn K (.ref fIn) = true)
    {fLd : Addr} {odLd anLd : Option Addr} {slLd : Array (Option Value)} {ocLd kVLd dcLd pmLd cdLd ctLd : Value}
    (aLd : PySem.W.findIn K (.ref CR) "led" = some (some (.ref fLd))) (iLd : PySem.W.isFn K (.ref fLd) = true) (lLd : K.lookup fLd = some ⟨ocLd, odLd, .func (PySem.W.fnOf "led" "Reader.led" (defArgs sLed) (defBody sLed) (defScope sLed) .none kVLd dcLd pmLd anLd cdLd ctLd), slLd⟩) (cLd : PySem.W.codeIn K cdLd "Reader.led" = true) (kLd : PySem.W.keepIn K (.ref fLd) = true)
    {fLn : Addr} {odLn anLn : Option Addr} {slLn : Array (Option Value)} {ocLn kVLn dcLn pmLn cdLn ctLn : Value}
    (aLn : PySem.W.findIn K (.ref CR) "__len__" = some (some (.ref fLn))) (iLn : PySem.W.isFn K (.ref fLn) = true) (lLn : K.lookup fLn = some ⟨ocLn, odLn, .func (PySem.W.fnOf "__len__" "Reader.__len__" (defArgs sLen) (defBody sLen) (defScope sLen) .none kVLn dcLn pmLn anLn cdLn ctLn), slLn⟩) (cLn : PySem.W.codeIn K cdLn "Reader.__len__" = true) (kLn : PySem.W.keepIn K (.ref fLn) = true)
    {fCn : Addr} {odCn anCn : Option Addr} {slCn : Array (Option Value)} {ocCn kVCn dcCn pmCn cdCn ctCn : Value}
    (aCn : PySem.W.findIn K (.ref CR) "__contains__" = some (some (.ref fCn))) (iCn : PySem.W.isFn K (.ref fCn) = true) (lCn : K.lookup fCn = some ⟨ocCn, odCn, .func (PySem.W.fnOf "__contains__" "Reader.__contains__" (defArgs sIn) (defBody sIn) (defScope sIn) .none kVCn dcCn pmCn anCn cdCn ctCn), slCn⟩) (cCn : PySem.W.codeIn K cdCn "Reader.__contains__" = true) (kCn : PySem.W.keepIn K (.ref fCn) = true)
    {fEq : Addr} {odEq anEq : Option Addr} {slEq : Array (Option Value)} {ocEq kVEq dcEq pmEq cdEq ctEq : Value}
    (aEq : PySem.W.findIn K (.ref CR) "__eq__" = some (some (.ref fEq))) (iEq : PySem.W.isFn K (.ref fEq) = true) (lEq : K.lookup fEq = some ⟨ocEq, odEq, .func (PySem.W.fnOf "__eq__" "Reader.__eq__" (defArgs sEq) (defBody sEq) (defScope sEq) .none kVEq dcEq pmEq anEq cdEq ctEq), slEq⟩) (cEq : PySem.W.codeIn K cdEq "Reader.__eq__" = true) (kEq : PySem.W.keepIn K (.ref fEq) = true)
    {fSr : Addr} {odSr anSr : Option Addr} {slSr : Array (Option Value)} {ocSr kVSr dcSr pmSr cdSr ctSr : Value}
    (aSr : PySem.W.findIn K (.ref CR) "__str__" = some (some (.ref fSr))) (iSr : PySem.W.isFn K (.ref fSr) = true) (lSr : K.lookup fSr = some ⟨ocSr, odSr, .func (PySem.W.fnOf "__str__" "Reader.__str__" (defArgs sStr) (defBody sStr) (defScope sStr) .none kVSr dcSr pmSr anSr cdSr ctSr), slSr⟩) (cSr : PySem.W.codeIn K cdSr "Reader.__str__" = true) (kSr : PySem.W.keepIn K (.ref fSr) = true)
    {fL2 : Addr} {odL2 anL2 : Option Addr} {slL2 : Array (Option Value)} {ocL2 kVL2 dcL2 pmL2 cdL2 ctL2 : Value}
    (aL2 : PySem.W.findIn K (.ref CR) "_led" = some (some (.ref fL2))) (iL2 : PySem.W.isFn K (.ref fL2) = true) (lL2 : K.lookup fL2 = some ⟨ocL2, odL2, .func (PySem.W.fnOf "_led" "Reader._led" (defArgs sLed2) (defBody sLed2) (defScope sLed2) .none kVL2 dcL2 pmL2 anL2 cdL2 ctL2), slL2⟩) (cL2 : PySem.W.codeIn K cdL2 "Reader._led" = true) (kL2 : PySem.W.keepIn K (.ref fL2) = true)
    {fLe : Addr} {odLe anLe : Option Addr} {slLe : Array (Option Value)} {ocLe kVLe dcLe pmLe cdLe ctLe : Value}
    {pLe : Addr} {restLe : List Value} (aLe : PySem.W.findIn K (.ref CR) "letters" = some (some (.ref pLe))) (gLe' : PySem.W.specialIn K (.ref pLe) "__get__" = some (some (.builtin "property.__get__"))) (tLe : PySem.W.takesIn K (.ref pLe) = some true) (rLe : PySem.W.recIn K pLe "property" = some (.ref fLe :: restLe)) (lLe : K.lookup fLe = some ⟨ocLe, odLe, .func (PySem.W.fnOf "letters" "Reader.letters" (defArgs sLet) (defBody sLet) (defScope sLet) .none kVLe dcLe pmLe anLe cdLe ctLe), slLe⟩) (cLe : PySem.W.codeIn K cdLe "Reader.letters" = true) (kLe : PySem.W.keepIn K (.ref fLe) = true)
    {fMo : Addr} {odMo anMo : Option Addr} {slMo : Array (Option Value)} {ocMo kVMo dcMo pmMo cdMo ctMo : Value}
    {pMo : Addr} {restMo : List Value} (aMo : PySem.W.findIn K (.ref CR) "moves" = some (some (.ref pMo))) (gMo' : PySem.W.specialIn K (.ref pMo) "__get__" = some (some (.builtin "property.__get__"))) (tMo : PySem.W.takesIn K (.ref pMo) = some true) (rMo : PySem.W.recIn K pMo "property" = some (.ref fMo :: restMo)) (lMo : K.lookup fMo = some ⟨ocMo, odMo, .func (PySem.W.fnOf "moves" "Reader.moves" (defArgs sMov) (defBody sMov) (defScope sMov) .none kVMo dcMo pmMo anMo cdMo ctMo), slMo⟩) (cMo : PySem.W.codeIn K cdMo "Reader.moves" = true) (kMo : PySem.W.keepIn K (.ref fMo) = true)
    {fYe : Addr} {odYe anYe : Option Addr} {slYe : Array (Option Value)} {ocYe kVYe dcYe pmYe cdYe ctYe : Value}
    {pYe : Addr} {restYe : List Value} (aYe : PySem.W.findIn K (.ref CR) "yes" = some (some (.ref pYe))) (gYe' : PySem.W.specialIn K (.ref pYe) "__get__" = some (some (.builtin "property.__get__"))) (tYe : PySem.W.takesIn K (.ref pYe) = some true) (rYe : PySem.W.recIn K pYe "property" = some (.ref fYe :: restYe)) (lYe : K.lookup fYe = some ⟨ocYe, odYe, .func (PySem.W.fnOf "yes" "Reader.yes" (defArgs sYes) (defBody sYes) (defScope sYes) .none kVYe dcYe pmYe anYe cdYe ctYe), slYe⟩) (cYe : PySem.W.codeIn K cdYe "Reader.yes" = true) (kYe : PySem.W.keepIn K (.ref fYe) = true)
    (pgXR : PySem.W.plainGet K CR Str.empty = true) (hdXR : PySem.W.hasDictIn K CR = true) (poXR : PySem.W.plainOver K CR = true) (saXR : PySem.W.findIn K (.ref CR) "__setattr__" = some (some (.builtin "object.__setattr__"))) (mkXR : PySem.W.makesIn K CR = true) (kcXR : PySem.W.keepIn K (.ref CR) = true)
    (haXR : PySem.W.findIn K (.ref CR) "__class__" = some (some (.builtin "object.__class__"))) (hmXR : PySem.W.mroIn K CR (.type "object") = some true)
    (qHn : PySem.W.specialIn K (.builtin "object.__class__") "__get__" = some (some (.builtin "getset_descriptor.__get__"))) (qHt : PySem.W.takesIn K (.builtin "object.__class__") = some true)
    (nL : PySem.W.findIn K (.ref CR) "_letters" = some none)
    (nM : PySem.W.findIn K (.ref CR) "_moves" = some none)
    (nY : PySem.W.findIn K (.ref CR) "_yes" = some none)
    (qNf : PySem.W.notFirst K CR (.ref CR) = true)
    (qOb : PySem.W.subIn K (.ref CR) (.type "object") = some true)
    (qNe : PySem.W.findIn K (.ref CR) "__ne__" = some (some (.builtin "object.__ne__")))
    (x1 : PySem.W.notFirst K CR (.type "NoneType") = true)
    (y1 : PySem.W.kitOne K (.type "NoneType") (.ref CR) = some false)
    (x2 : PySem.W.notFirst K CR (.type "int") = true)
    (y2 : PySem.W.kitOne K (.type "int") (.ref CR) = some false)
    (x3 : PySem.W.notFirst K CR (.type "dict") = true)
    (y3 : PySem.W.kitOne K (.type "dict") (.ref CR) = some false)
    (x4 : PySem.W.notFirst K CR (.type "str") = true)
    (y4 : PySem.W.kitOne K (.type "str") (.ref CR) = some false)
    (x5 : PySem.W.notFirst K CR (.type "list") = true)
    (y5 : PySem.W.kitOne K (.type "list") (.ref CR) = some false)
    (z1 : PySem.W.nsIn K mainGlobals "isinstance" = some none)
    (z2 : PySem.W.nsIn K mainGlobals "int" = some none)
    (z3 : PySem.W.nsIn K mainGlobals "str" = some none)
    (z4 : PySem.W.nsIn K mainGlobals "bool" = some none)
    (z5 : PySem.W.nsIn K mainGlobals "abs" = some none)
    (z6 : PySem.W.nsIn K mainGlobals "len" = some none)
    (z7 : PySem.W.nsIn K mainGlobals "list" = some none)
    (z8 : PySem.W.nsIn K mainGlobals "set" = some none)
    (z9 : PySem.W.nsIn K mainGlobals "sorted" = some none)
    (z10 : PySem.W.nsIn K mainGlobals "repr" = some none)
    (z11 : PySem.W.nsIn K mainGlobals "range" = some none)
    (z12 : PySem.W.nsIn K mainGlobals "max" = some none)
    (z13 : PySem.W.nsIn K mainGlobals "min" = some none)
    (z14 : PySem.W.nsIn K mainGlobals "all" = some none)
    (z15 : PySem.W.nsIn K mainGlobals "tuple" = some none)
    (z16 : PySem.W.nsIn K mainGlobals "dict" = some none)
    (z17 : PySem.W.nsIn K mainGlobals "zip" = some none)
    {t1 : Tok} (v1 : PySem.W.nsIn K mainGlobals "ALPHABET" = some (some (.str alpha t1)))
    {t2 : Tok} (v2 : PySem.W.nsIn K mainGlobals "MAX_LETTERS" = some (some (.int 3 t2)))
    {t3 : Tok} (v3 : PySem.W.nsIn K mainGlobals "MAX_TEXT" = some (some (.int 4000 t3)))
    {t4 : Tok} (v4 : PySem.W.nsIn K mainGlobals "MAX_STATES" = some (some (.int 60 t4))) :
    ∃ fd : FuncData, (∀ (s : Shared) (v : Value), BindsTo s fd ⟨[v], []⟩ [("_law_script", v)]) ∧ ∀ base : Heap, K.In base → base.Ns mainGlobals mg → Kept l.prog w K mg base CX0 11 fa fd ["_law_script"] (spLaw K) := by
  have e := hfa.symm.trans (PySem.W.mg_of X G a33)
  cases e
  obtain ⟨n1, t01, en1, hx1⟩ := hx1
  subst en1
  have T : Txt K mg := ⟨PySem.W.mg_none_of X G z1, PySem.W.mg_none_of X G z2, PySem.W.mg_none_of X G z3, PySem.W.mg_none_of X G z4, PySem.W.mg_none_of X G z5, PySem.W.mg_none_of X G z6, PySem.W.mg_none_of X G z7, PySem.W.mg_none_of X G z8, PySem.W.mg_none_of X G z9, PySem.W.mg_none_of X G z10, PySem.W.mg_none_of X G z11, PySem.W.mg_none_of X G z12, PySem.W.mg_none_of X G z13, PySem.W.mg_none_of X G z14, PySem.W.mg_none_of X G z15, PySem.W.mg_none_of X G z16, PySem.W.mg_none_of X G z17, ⟨_, hx1⟩, ⟨_, PySem.W.mg_of X G v1⟩, ⟨_, PySem.W.mg_of X G v2⟩, ⟨_, PySem.W.mg_of X G v3⟩, ⟨_, PySem.W.mg_of X G v4⟩⟩
  have D1 : Df K mg "is_integer" sInt ["value"] f1 _ := df_mk X G a1 l1 c1 k1 fun _ _ _ _ _ _ us hl => match us, hl with | [_], _ => rfl
  have D2 : Df K mg "is_letters" sLetters ["value"] f2 _ := df_mk X G a2 l2 c2 k2 fun _ _ _ _ _ _ us hl => match us, hl with | [_], _ => rfl
  have D3 : Df K mg "is_text" sText ["letters", "value"] f3 _ := df_mk X G a3 l3 c3 k3 fun _ _ _ _ _ _ us hl => match us, hl with | [_, _], _ => rfl
  have D4 : Df K mg "check_letters" sCheck ["value"] f4 _ := df_mk X G a4 l4 c4 k4 fun _ _ _ _ _ _ us hl => match us, hl with | [_], _ => rfl
  have D5 : Df K mg "has_only" sHas ["value", "signs", "most"] f5 _ := df_mk X G a5 l5 c5 k5 fun _ _ _ _ _ _ us hl => match us, hl with | [_, _, _], _ => rfl
  have D6 : Df K mg "check_text" sCText ["letters", "value"] f6 _ := df_mk X G a6 l6 c6 k6 fun _ _ _ _ _ _ us hl => match us, hl with | [_, _], _ => rfl
  have D7 : Df K mg "is_state" sIsState ["value", "many"] f7 _ := df_mk X G a7 l7 c7 k7 fun _ _ _ _ _ _ us hl => match us, hl with | [_, _], _ => rfl
  have D8 : Df K mg "is_row_of_states" sRowOk ["value", "many"] f8 _ := df_mk X G a8 l8 c8 k8 fun _ _ _ _ _ _ us hl => match us, hl with | [_, _], _ => rfl
  have D9 : Df K mg "are_reader_moves" sMovesOk ["letters", "value"] f9 _ := df_mk X G a9 l9 c9 k9 fun _ _ _ _ _ _ us hl => match us, hl with | [_, _], _ => rfl
  have D10 : Df K mg "are_yes_states" sYesOk ["value", "many"] f10 _ := df_mk X G a10 l10 c10 k10 fun _ _ _ _ _ _ us hl => match us, hl with | [_, _], _ => rfl
  have D11 : Df K mg "_law_cup" sCup ["_law_script", "_law_at"] f11 _ := df_mk X G a11 l11 c11 k11 fun _ _ _ _ _ _ us hl => match us, hl with | [_, _], _ => rfl
  have D12 : Df K mg "_law_bit" sBit ["_law_cup_here", "_law_much"] f12 _ := df_mk X G a12 l12 c12 k12 fun _ _ _ _ _ _ us hl => match us, hl with | [_, _], _ => rfl
  have D13 : Df K mg "_law_pick" sPick ["_law_cup_here", "_law_items"] f13 _ := df_mk X G a13 l13 c13 k13 fun _ _ _ _ _ _ us hl => match us, hl with | [_, _], _ => rfl
  have D14 : Df K mg "_law_dealt" sDealt ["_law_cup_here", "_law_items"] f14 _ := df_mk X G a14 l14 c14 k14 fun _ _ _ _ _ _ us hl => match us, hl with | [_, _], _ => rfl
  have D15 : Df K mg "_law_signs" sSigns ["_law_cup_here"] f15 _ := df_mk X G a15 l15 c15 k15 fun _ _ _ _ _ _ us hl => match us, hl with | [_], _ => rfl
  have D16 : Df K mg "_law_line" sLine ["_law_cup_here", "_law_signs_here", "_law_most"] f16 _ := df_mk X G a16 l16 c16 k16 fun _ _ _ _ _ _ us hl => match us, hl with | [_, _, _], _ => rfl
  have D17 : Df K mg "_law_some_of" sSome ["_law_cup_here", "_law_many"] f17 _ := df_mk X G a17 l17 c17 k17 fun _ _ _ _ _ _ us hl => match us, hl with | [_, _], _ => rfl
  have D18 : Df K mg "_law_any_ways" sAny ["_law_cup_here", "_law_signs_here", "_law_many"] f18 _ := df_mk X G a18 l18 c18 k18 fun _ _ _ _ _ _ us hl => match us, hl with | [_, _, _], _ => rfl
  have D19 : Df K mg "_law_turning_ways" sTurning ["_law_cup_here", "_law_signs_here", "_law_many"] f19 _ := df_mk X G a19 l19 c19 k19 fun _ _ _ _ _ _ us hl => match us, hl with | [_, _, _], _ => rfl
  have D20 : Df K mg "_law_ring_ways" sRing ["_law_cup_here", "_law_signs_here", "_law_many"] f20 _ := df_mk X G a20 l20 c20 k20 fun _ _ _ _ _ _ us hl => match us, hl with | [_, _, _], _ => rfl
  have D21 : Df K mg "_law_pair_ways" sPair ["_law_cup_here", "_law_signs_here", "_law_many"] f21 _ := df_mk X G a21 l21 c21 k21 fun _ _ _ _ _ _ us hl => match us, hl with | [_, _, _], _ => rfl
  have D22 : Df K mg "_law_turner" sTurner ["_law_cup_here", "_law_signs_here"] f22 _ := df_mk X G a22 l22 c22 k22 fun _ _ _ _ _ _ us hl => match us, hl with | [_, _], _ => rfl
  have D23 : Df K mg "_law_plain_reader" sPlain ["_law_cup_here", "_law_signs_here"] f23 _ := df_mk X G a23 l23 c23 k23 fun _ _ _ _ _ _ us hl => match us, hl with | [_, _], _ => rfl
  have D24 : Df K mg "_law_read" sRead ["_law_plain", "_law_at", "_law_line_here"] f24 _ := df_mk X G a24 l24 c24 k24 fun _ _ _ _ _ _ us hl => match us, hl with | [_, _, _], _ => rfl
  have D25 : Df K mg "_law_says_yes" sSays ["_law_plain", "_law_line_here"] f25 _ := df_mk X G a25 l25 c25 k25 fun _ _ _ _ _ _ us hl => match us, hl with | [_, _], _ => rfl
  have D26 : Df K mg "_law_made_reader" sMade ["_law_plain"] f26 _ := df_mk X G a26 l26 c26 k26 fun _ _ _ _ _ _ us hl => match us, hl with | [_], _ => rfl
  have D27 : Df K mg "_law_state_count" sCount ["_law_plain"] f27 _ := df_mk X G a27 l27 c27 k27 fun _ _ _ _ _ _ us hl => match us, hl with | [_], _ => rfl
  have D28 : Df K mg "_law_is_reader" sIsR ["_law_made", "_law_plain"] f28 _ := df_mk X G a28 l28 c28 k28 fun _ _ _ _ _ _ us hl => match us, hl with | [_, _], _ => rfl
  have D29 : Df K mg "_law_lines" sLines ["_law_cup_here", "_law_signs_here", "_law_most", "_law_many"] f29 _ := df_mk X G a29 l29 c29 k29 fun _ _ _ _ _ _ us hl => match us, hl with | [_, _, _, _], _ => rfl
  have D30 : Df K mg "_law_near_reader" sNear ["_law_cup_here", "_law_plain"] f30 _ := df_mk X G a30 l30 c30 k30 fun _ _ _ _ _ _ us hl => match us, hl with | [_, _], _ => rfl
  have D31 : Df K mg "_law_all_right" sAll ["_law_made", "_law_plain", "_law_lines_here"] f31 _ := df_mk X G a31 l31 c31 k31 fun _ _ _ _ _ _ us hl => match us, hl with | [_, _, _], _ => rfl
  have D32 : Df K mg "_law_cell_right" sCell ["_law_cup_here"] f32 _ := df_mk X G a32 l32 c32 k32 fun _ _ _ _ _ _ us hl => match us, hl with | [_], _ => rfl
  have D33 : Df K mg "law" sLaw ["_law_script"] fa _ := df_mk X G a33 l33 c33 k33 fun _ _ _ _ _ _ us hl => match us, hl with | [_], _ => rfl
  have FIn := fun_mk (st := sInit) lIn cIn kIn
  have bIn := FIn.binds (ps := ["self", "letters", "moves", "yes"]) fun _ _ _ _ _ _ us hl => match us, hl with | [_, _, _, _], _ => rfl
  have FLd := fun_mk (st := sLed) lLd cLd kLd
  have bLd := FLd.binds (ps := ["self", "state", "text"]) fun _ _ _ _ _ _ us hl => match us, hl with | [_, _, _], _ => rfl
  have FLn := fun_mk (st := sLen) lLn cLn kLn
  have bLn := FLn.binds (ps := ["self"]) fun _ _ _ _ _ _ us hl => match us, hl with | [_], _ => rfl
  have FCn := fun_mk (st := sIn) lCn cCn kCn
  have bCn := FCn.binds (ps := ["self", "value"]) fun _ _ _ _ _ _ us hl => match us, hl with | [_, _], _ => rfl
  have FEq := fun_mk (st := sEq) lEq cEq kEq
  have bEq := FEq.binds (ps := ["self", "other"]) fun _ _ _ _ _ _ us hl => match us, hl with | [_, _], _ => rfl
  have FSr := fun_mk (st := sStr) lSr cSr kSr
  have bSr := FSr.binds (ps := ["self"]) fun _ _ _ _ _ _ us hl => match us, hl with | [_], _ => rfl
  have FL2 := fun_mk (st := sLed2) lL2 cL2 kL2
  have bL2 := FL2.binds (ps := ["self", "state", "text"]) fun _ _ _ _ _ _ us hl => match us, hl with | [_, _, _], _ => rfl
  have FLe := fun_mk (st := sLet) lLe cLe kLe
  have bLe := FLe.binds (ps := ["self"]) fun _ _ _ _ _ _ us hl => match us, hl with | [_], _ => rfl
  have FMo := fun_mk (st := sMov) lMo cMo kMo
  have bMo := FMo.binds (ps := ["self"]) fun _ _ _ _ _ _ us hl => match us, hl with | [_], _ => rfl
  have FYe := fun_mk (st := sYes) lYe cYe kYe
  have bYe := FYe.binds (ps := ["self"]) fun _ _ _ _ _ _ us hl => match us, hl with | [_], _ => rfl
  have clXR : Cls K CR := ⟨pgXR, hdXR, poXR, saXR⟩
  have W : WR K mg CR := ⟨PySem.W.mg_of X G aXR, clXR, nL, nM, nY, fun H a dx fs e => .base (.ins e clXR haXR qHn qHt hmXR), kit_self⟩
  refine ⟨PySem.W.fnOf "law" "law" (defArgs sLaw) (defBody sLaw) (defScope sLaw) .none kV33 dc33 pm33 an33 cd33 ct33, fun s v => .of_eq rfl, fun base _ _ => ?_⟩
  have LO : Low K mg _ _ _ _ _ _ _ _ _ _ := ⟨D1, D5, D2, D4, D3⟩
  have B : LowR K mg _ _ _ _ _ _ _ _ _ _ _ _ _ _ _ _ _ _ _ _ := ⟨LO, D7, D8, D9, D10, D6⟩
  have N : LenR l.prog w K mg base CR fLn _ := ⟨ok_len FLn T W, bLn, aLn, iLn⟩
  have L : LedR l.prog w K mg base CR fL2 _ := ⟨ok_led2 FL2 W, bL2, ⟨aL2, iL2, kL2⟩⟩
  have MK : MkR l.prog w K mg base CR fIn _ := ⟨W, ⟨mkXR, aIn, iIn, kcXR⟩, ok_init FIn T W B, bIn⟩
  have C : Cl l.prog w K mg base CR :=
    { fI := fIn, fLe := fLe, fMo := fMo, fYe := fYe, fLd := fLd, fLn := fLn, fIn := fCn, fEq := fEq, fSr := fSr, pL := pLe, pM := pMo, pY := pYe
      dI := _, dLe := _, dMo := _, dYe := _, dLd := _, dLn := _, dIn := _, dEq := _, dSr := _, MK := MK
      gLe := ok_let FLe W, gMo := ok_mov FMo T W, gYe := ok_yesp FYe W, gLd := ok_led FLd T W B N L, gLn := ok_len FLn T W, gIn := ok_in FCn T W B L, gEq := ok_eq FEq T W, gEqX := ok_eqX FEq T W, gSr := ok_str FSr T W N
      bLe := bLe, bMo := bMo, bYe := bYe, bLd := bLd, bLn := bLn, bIn := bCn, bEq := bEq, bSr := bSr, nf := qNf, ob := qOb, sEq := aEq, sNe := qNe, sLn := aLn, sIn := aCn, sSr := aSr, fnEq := iEq, fnLn := iLn, fnIn := iCn, fnSr := iSr
      mLd := ⟨aLd, iLd, kLd⟩, pLe := ⟨aLe, gLe', tLe, restLe, rLe⟩, pMo := ⟨aMo, gMo', tMo, restMo, rMo⟩, pYe := ⟨aYe, gYe', tYe, restYe, rYe⟩ }
  have R : Dr1 K mg _ _ _ _ _ _ _ _ _ _ _ _ _ _ _ _ := ⟨D12, D13, D14, D17, D18, D19, D20, D21⟩
  have U : Up l.prog w K mg base CR _ _ _ _ _ _ _ _ _ _ _ _ _ _ := ⟨D23, D15, D30, D29, D14, D26, D31,
    ok_plain D23.F T R D22, ok_signs D15.F T D12 D13, ok_near D30.F T D12 D13 D27, ok_lines D29.F T D12 D13 D16,
    ok_dealtS D14.F T D12, ok_made D26.F C, ok_all D31.F T C D27 D28 D25 D24⟩
  exact ok_law D33.F T C D11 D32 (ok_cup D11.F T) (ok_cell D32.F T C U ⟨x1, y1⟩ ⟨x2, y2⟩ ⟨x3, y3⟩ ⟨x4, y4⟩ ⟨x5, y5⟩)
theorem fin {l : PySem.W.OpenLaw} {q : Program} {loose : List Str} {XP : (Str → Option Value) → Heap → Prop} {YP : World → Heap → Prop} {d : DefRec} {K : Params → PySem.W.Frag} (hn : l.most = some 63) (hdf : d.params.defaults = [])
    (hY : ∀ (w : World) (h : Heap), YP w h → (K w.params).In h)
    (F : ∀ (w : World) (mg : Str → Option Value) (fa : Addr) (h : Heap), (K w.params).In h → h.Ns mainGlobals mg → mg d.name = some (.ref fa) → XP mg h →
      ∃ fd : FuncData, (∀ (s : Shared) (u : Value), BindsTo s fd ⟨[u], []⟩ [("_law_script", u)]) ∧ ∀ base : Heap, (K w.params).In base → base.Ns mainGlobals mg → Kept l.prog w (K w.params) mg base CX0 11 fa fd ["_law_script"] (spLaw (K w.params))) :
    PySem.W.WalkO q loose XP YP l.row.toRowW d [] (fun f vs => PySem.call f vs) :=
  Tg.walk (n := 63) (k := 11) (x := "_law_script") (cx := fun _ => CX0) (sp := fun w => spLaw (K w.params)) hn (by decide) hdf ⟨rfl, by decide, by decide⟩ hY F (fun _ _ a ns hl _ hS => ⟨a, ns, rfl, hS, hl, fun _ => rfl⟩) fun _ _ _ _ _ z => z
end K24

set_option Elab.async false
set_option maxRecDepth 100000
open PySem PySem.W PyProof.Rows
set_option maxRecDepth 100000 in
set_option maxHeartbeats 0 in
theorem PySem.Challenge.cw_whatcounts_k24_readers_told_holds : PySem.Challenge.rw_whatcounts_k24_readers_told.Holds := by
  w_on; o_law; k_head; (case hw => w_witness2)
  k_fill
  refine K24.fin (l := PySem.Challenge.rw_whatcounts_k24_readers_told) rfl rfl (fun w h Y => PySem.W.kIn_of Y) ?F
  case F =>
    intro w mg fa h KX G hmg hx
    have hx1 : ∃ n t, n = 10 ^ 200 ∧ mg "LEAST_TOO_LONG" = some (.int n t) := by
      first
      | (obtain ⟨v, e, r⟩ := hx.2.val _ (List.Mem.head _); cases r; exact ⟨_, _, by decide +kernel, e⟩)
      | (obtain ⟨v, e, r⟩ := hx.2.val _ (List.Mem.tail _ (List.Mem.head _)); cases r; exact ⟨_, _, by decide +kernel, e⟩)
      | (obtain ⟨v, e, r⟩ := hx.2.val _ (List.Mem.tail _ (List.Mem.tail _ (List.Mem.head _))); cases r; exact ⟨_, _, by decide +kernel, e⟩)
      | (obtain ⟨v, e, r⟩ := hx.2.val _ (List.Mem.tail _ (List.Mem.tail _ (List.Mem.tail _ (List.Mem.head _)))); cases r; exact ⟨_, _, by decide +kernel, e⟩)
      | (obtain ⟨v, e, r⟩ := hx.2.val _ (List.Mem.tail _ (List.Mem.tail _ (List.Mem.tail _ (List.Mem.tail _ (List.Mem.head _))))); cases r; exact ⟨_, _, by decide +kernel, e⟩)
      | (obtain ⟨v, e, r⟩ := hx.2.val _ (List.Mem.tail _ (List.Mem.tail _ (List.Mem.tail _ (List.Mem.tail _ (List.Mem.tail _ (List.Mem.head _)))))); cases r; exact ⟨_, _, by decide +kernel, e⟩)
      | (obtain ⟨v, e, r⟩ := hx.2.val _ (List.Mem.tail _ (List.Mem.tail _ (List.Mem.tail _ (List.Mem.tail _ (List.Mem.tail _ (List.Mem.tail _ (List.Mem.head _))))))); cases r; exact ⟨_, _, by decide +kernel, e⟩)
      | (obtain ⟨v, e, r⟩ := hx.2.val _ (List.Mem.tail _ (List.Mem.tail _ (List.Mem.tail _ (List.Mem.tail _ (List.Mem.tail _ (List.Mem.tail _ (List.Mem.tail _ (List.Mem.head _)))))))); cases r; exact ⟨_, _, by decide +kernel, e⟩)
    refine' K24.all_mk KX G hmg hx1 ?a1 ?l1 ?c1 ?k1 ?a2 ?l2 ?c2 ?k2 ?a3 ?l3 ?c3 ?k3 ?a4 ?l4 ?c4 ?k4 ?a5 ?l5 ?c5 ?k5 ?a6 ?l6 ?c6 ?k6 ?a7 ?l7 ?c7 ?k7 ?a8 ?l8 ?c8 ?k8 ?a9 ?l9 ?c9 ?k9 ?a10 ?l10 ?c10 ?k10 ?a11 ?l11 ?c11 ?k11 ?a12 ?l12 ?c12 ?k12 ?a13 ?l13 ?c13 ?k13 ?a14 ?l14 ?c14 ?k14 ?a15 ?l15 ?c15 ?k15 ?a16 ?l16 ?c16 ?k16 ?a17 ?l17 ?c17 ?k17 ?a18 ?l18 ?c18 ?k18 ?a19 ?l19 ?c19 ?k19 ?a20 ?l20 ?c20 ?k20 ?a21 ?l21 ?c21 ?k21 ?a22 ?l22 ?c22 ?k22 ?a23 ?l23 ?c23 ?k23 ?a24 ?l24 ?c24 ?k24 ?a25 ?l25 ?c25 ?k25 ?a26 ?l26 ?c26 ?k26 ?a27 ?l27 ?c27 ?k27 ?a28 ?l28 ?c28 ?k28 ?a29 ?l29 ?c29 ?k29 ?a30 ?l30 ?c30 ?k30 ?a31 ?l31 ?c31 ?k31 ?a32 ?l32 ?c32 ?k32 ?a33 ?l33 ?c33 ?k33 ?aXR ?aIn ?iIn ?lIn ?cIn ?kIn ?aLd ?iLd ?lLd ?cLd ?kLd ?aLn ?iLn ?lLn ?cLn ?kLn ?aCn ?iCn ?lCn ?cCn ?kCn ?aEq ?iEq ?lEq ?cEq ?kEq ?aSr ?iSr ?lSr ?cSr ?kSr ?aL2 ?iL2 ?lL2 ?cL2 ?kL2 ?aLe ?gLe' ?tLe ?rLe ?lLe ?cLe ?kLe ?aMo ?gMo' ?tMo ?rMo ?lMo ?cMo ?kMo ?aYe ?gYe' ?tYe ?rYe ?lYe ?cYe ?kYe ?pgXR ?hdXR ?poXR ?saXR ?mkXR ?kcXR ?haXR ?hmXR ?qHn ?qHt ?nL ?nM ?nY ?qNf ?qOb ?qNe ?x1 ?y1 ?x2 ?y2 ?x3 ?y3 ?x4 ?y4 ?x5 ?y5 ?z1 ?z2 ?z3 ?z4 ?z5 ?z6 ?z7 ?z8 ?z9 ?z10 ?z11 ?z12 ?z13 ?z14 ?z15 ?z16 ?z17 ?v1 ?v2 ?v3 ?v4
    (case a1 => k_is)
    (case l1 => k_is)
    (case c1 => k_is)
    (case k1 => k_is)
    (case a2 => k_is)
    (case l2 => k_is)
    (case c2 => k_is)
    (case k2 => k_is)
    (case a3 => k_is)
    (case l3 => k_is)
    (case c3 => k_is)
    (case k3 => k_is)
    (case a4 => k_is)
    (case l4 => k_is)
    (case c4 => k_is)
    (case k4 => k_is)
    (case a5 => k_is)
    (case l5 => k_is)
    (case c5 => k_is)
    (case k5 => k_is)
    (case a6 => k_is)
    (case l6 => k_is)
    (case c6 => k_is)
    (case k6 => k_is)
    (case a7 => k_is)
    (case l7 => k_is)
    (case c7 => k_is)
    (case k7 => k_is)
    (case a8 => k_is)
    (case l8 => k_is)
    (case c8 => k_is)
    (case k8 => k_is)
    (case a9 => k_is)
    (case l9 => k_is)
    (case c9 => k_is)
    (case k9 => k_is)
    (case a10 => k_is)
    (case l10 => k_is)
    (case c10 => k_is)
    (case k10 => k_is)
    (case a11 => k_is)
    (case l11 => k_is)
    (case c11 => k_is)
    (case k11 => k_is)
    (case a12 => k_is)
    (case l12 => k_is)
    (case c12 => k_is)
    (case k12 => k_is)
    (case a13 => k_is)
    (case l13 => k_is)
    (case c13 => k_is)
    (case k13 => k_is)
    (case a14 => k_is)
    (case l14 => k_is)
    (case c14 => k_is)
    (case k14 => k_is)
    (case a15 => k_is)
    (case l15 => k_is)
    (case c15 => k_is)
    (case k15 => k_is)
    (case a16 => k_is)
    (case l16 => k_is)
    (case c16 => k_is)
    (case k16 => k_is)
    (case a17 => k_is)
    (case l17 => k_is)
    (case c17 => k_is)
    (case k17 => k_is)
    (case a18 => k_is)
    (case l18 => k_is)
    (case c18 => k_is)
    (case k18 => k_is)
    (case a19 => k_is)
    (case l19 => k_is)
    (case c19 => k_is)
    (case k19 => k_is)
    (case a20 => k_is)
    (case l20 => k_is)
    (case c20 => k_is)
    (case k20 => k_is)
    (case a21 => k_is)
    (case l21 => k_is)
    (case c21 => k_is)
    (case k21 => k_is)
    (case a22 => k_is)
    (case l22 => k_is)
    (case c22 => k_is)
    (case k22 => k_is)
    (case a23 => k_is)
    (case l23 => k_is)
    (case c23 => k_is)
    (case k23 => k_is)
    (case a24 => k_is)
    (case l24 => k_is)
    (case c24 => k_is)
    (case k24 => k_is)
    (case a25 => k_is)
    (case l25 => k_is)
    (case c25 => k_is)
    (case k25 => k_is)
    (case a26 => k_is)
    (case l26 => k_is)
    (case c26 => k_is)
    (case k26 => k_is)
    (case a27 => k_is)
    (case l27 => k_is)
    (case c27 => k_is)
    (case k27 => k_is)
    (case a28 => k_is)
    (case l28 => k_is)
    (case c28 => k_is)
    (case k28 => k_is)
    (case a29 => k_is)
    (case l29 => k_is)
    (case c29 => k_is)
    (case k29 => k_is)
    (case a30 => k_is)
    (case l30 => k_is)
    (case c30 => k_is)
    (case k30 => k_is)
    (case a31 => k_is)
    (case l31 => k_is)
    (case c31 => k_is)
    (case k31 => k_is)
    (case a32 => k_is)
    (case l32 => k_is)
    (case c32 => k_is)
    (case k32 => k_is)
    (case a33 => k_is)
    (case l33 => k_is)
    (case c33 => k_is)
    (case k33 => k_is)
    (case aXR => k_is)
    (case aIn => k_is)
    (case iIn => k_is)
    (case lIn => k_is)
    (case cIn => k_is)
    (case kIn => k_is)
    (case aLd => k_is)
    (case iLd => k_is)
    (case lLd => k_is)
    (case cLd => k_is)
    (case kLd => k_is)
    (case aLn => k_is)
    (case iLn => k_is)
    (case lLn => k_is)
    (case cLn => k_is)
    (case kLn => k_is)
    (case aCn => k_is)
    (case iCn => k_is)
    (case lCn => k_is)
    (case cCn => k_is)
    (case kCn => k_is)
    (case aEq => k_is)
    (case iEq => k_is)
    (case lEq => k_is)
    (case cEq => k_is)
    (case kEq => k_is)
    (case aSr => k_is)
    (case iSr => k_is)
    (case lSr => k_is)
    (case cSr => k_is)
    (case kSr => k_is)
    (case aL2 => k_is)
    (case iL2 => k_is)
    (case lL2 => k_is)
    (case cL2 => k_is)
    (case kL2 => k_is)
    (case aLe => k_is)
    (case gLe' => k_is)
    (case tLe => k_is)
    (case rLe => k_is)
    (case lLe => k_is)
    (case cLe => k_is)
    (case kLe => k_is)
    (case aMo => k_is)
    (case gMo' => k_is)
    (case tMo => k_is)
    (case rMo => k_is)
    (case lMo => k_is)
    (case cMo => k_is)
    (case kMo => k_is)
    (case aYe => k_is)
    (case gYe' => k_is)
    (case tYe => k_is)
    (case rYe => k_is)
    (case lYe => k_is)
    (case cYe => k_is)
    (case kYe => k_is)
    (case pgXR => k_is)
    (case hdXR => k_is)
    (case poXR => k_is)
    (case saXR => k_is)
    (case mkXR => k_is)
    (case kcXR => k_is)
    (case haXR => k_is)
    (case hmXR => k_is)
    (case qHn => k_is)
    (case qHt => k_is)
    (case nL => k_is)
    (case nM => k_is)
    (case nY => k_is)
    (case qNf => first | rfl | k_is)
    (case qOb => k_is)
    (case qNe => k_is)
    (case x1 => first | rfl | k_is)
    (case y1 => first | k_is | kit_is)
    (case x2 => first | rfl | k_is)
    (case y2 => first | k_is | kit_is)
    (case x3 => first | rfl | k_is)
    (case y3 => first | k_is | kit_is)
    (case x4 => first | rfl | k_is)
    (case y4 => first | k_is | kit_is)
    (case x5 => first | rfl | k_is)
    (case y5 => first | k_is | kit_is)
    (case z1 => k_is)
    (case z2 => k_is)
    (case z3 => k_is)
    (case z4 => k_is)
    (case z5 => k_is)
    (case z6 => k_is)
    (case z7 => k_is)
    (case z8 => k_is)
    (case z9 => k_is)
    (case z10 => k_is)
    (case z11 => k_is)
    (case z12 => k_is)
    (case z13 => k_is)
    (case z14 => k_is)
    (case z15 => k_is)
    (case z16 => k_is)
    (case z17 => k_is)
    (case v1 => k_is)
    (case v2 => k_is)
    (case v3 => k_is)
    (case v4 => k_is)

