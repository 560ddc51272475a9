import PyProof.Rows.All
import Wide.All
import OpenK.AllK
import Wide.FinOn
import HandS.ForMost
import HandS.SetBool
import PyProof.Rows.SortShellAny
import KE.GoesMore
import KE.GoesEnum
import HandS.Walk
import HandS.TupMul
import HandS.Codes
import HandS.IsInst
import HandS.Zip
import HandS.SortRule
import HandS.Deep
import KE.LtData
import HandS.TupAny
import PyProof.Rows.StrMeet
import PyProof.Rows.SortKeyStr
import HandS.DictComp
import HandS.DictTup
import HandS.Conv
import HandS.Style
import KE.KDictSum
import KE.KDictDisplayH
import PyProof.TupleOfSeq
import HandS.WideBits
import PyProof.Rows.SetFrom
import HandS.SortInts
import HandS.Comp
import HandS.Set
import HandS.Strs
import HandS.SortKw
import KE.DatumOrd
import PyProof.EqAt
import PyProof.EqKinds
import PyProof.DictFindH
import KE.KEqDict
import KE.KDictCopyH
import HandS.TupLen
import HandS.More
import HandS.Finally
import PyProof.ReprRoads
import PyProof.ReprLen
import PyProof.FitsInt
import HandS.TupLe
import HandS.Steps
import HandS.WordsDict
import HandS.Flow
import PySem.Challenge.RW_untoldgames_k24_pairings_judged
set_option Elab.async false
set_option linter.all false
set_option maxRecDepth 100000
set_option maxHeartbeats 4000000
/-! Sets of texts: what stands there, a text more, a comprehension that makes one, sorted of it. -/
namespace Nm
open PySem PySem.Spec PyProof.Rows L2
section
variable {P : Program} {w : World} {A : Around} {E : Value → Shared → Prop} {s : Shared} {a : Addr} {o : Obj}
/-- the end of an addition: the set is stored, and laid out anew if it is too full -/
theorem tailG {g : Bool → Sem Unit} (hg : ∀ (b : Bool) (z : Shared) (U : Unit → Shared → Prop), U () z → wpAny (model P w) A (g b) U E z)
    {es fs : Array (Int × Value)} {ep : Nat} {t u : SetTable} {dm : Bool} {R : Option Bool → Shared → Prop}
    (ho : s.heap.get? a = some o) (hd : o.data = .set es ep t) (hb : fs.size < scanBound) (hf : u.fits fs.size = true) (hr : Ris u.place.toList)
    (hR : ∀ h' (es' : Array (Int × Value)) (ep' : Nat) (t' : SetTable), Heap.SameBut a s.heap h' → h'.get? a = some { o with data := .set es' ep' t' } → es'.toList.Perm fs.toList → t'.fits es'.size = true →
      Ris t'.place.toList → t'.led = u.led → R (some true) { s with heap := h' }) :
    wpAny (model P w) A (do
        storeSet a fs u
        if (!dm && u.tooFull) = true then do
            g (relayAll u fs (SetTable.grown fs.size)).2.2
            storeSet a (relayAll u fs (SetTable.grown fs.size)).1 (relayAll u fs (SetTable.grown fs.size)).2.1
            pure (some true)
          else pure (some true)) R E s := by
  have at1 := store_at (es' := fs) (t' := u) ho hd
  have same1 := Heap.SameBut.update s.heap a (Obj.putSet fs u)
  refine wpAny_bind (wpAny_storeSet_of ho hd ?_ (fits_of_scanBound hb))
  split
  · have perm := relayAll_perm u fs (SetTable.grown fs.size)
    have fit3 := relayAll_fits u fs (SetTable.grown fs.size)
    have ris3 := relayAll_ris u fs (SetTable.grown fs.size)
    have led3 := relayAll_led u fs (SetTable.grown fs.size)
    generalize relayAll u fs (SetTable.grown fs.size) = Z at perm fit3 ris3 led3 ⊢
    obtain ⟨gs, v, gave⟩ := Z
    dsimp only at perm fit3 ris3 led3 ⊢
    have size3 : gs.size = fs.size := by
      have q := perm.length_eq
      rwa [Array.length_toList, Array.length_toList] at q
    refine wpAny_bind (hg _ _ _ ?_)
    refine wpAny_bind (wpAny_storeSet_of at1 rfl ?_ (fits_of_scanBound (by rw [size3]; exact hb)))
    have at3 := store_at (es' := gs) (t' := v) at1 rfl
    exact wpAny_pure (hR _ gs _ v (same1.trans (Heap.SameBut.update _ a _)) at3 perm fit3 ris3 led3)
  · exact wpAny_pure (hR _ fs _ u same1 at1 (List.Perm.refl _) hf hr rfl)
/-- a key is added whose hash is known: it is there, or it comes in -/
theorem addG {κ : Type} [DecidableEq κ] {knd : PySem.KeyKind P w κ} {k : κ} {x : Value} {es : Array (Int × Value)} {ep : Nat} {t : SetTable} {Q : Bool → Shared → Prop}
    (hk : knd.is k x = true) (hx : x.scannable = true) (ho : s.heap.get? a = some o) (hd : o.data = .set es ep t) (hel : ElemsOf knd es.toList) (hb : es.size + 1 < scanBound) (hf : t.fits es.size = true) (hr : Ris t.place.toList)
    (old : (∃ e ∈ es.toList, knd.is k e.2 = true) → Q false s)
    (new : (∀ e ∈ es.toList, knd.is k e.2 = false) → ∀ h' (es' : Array (Int × Value)) (ep' : Nat) (t' : SetTable), Heap.SameBut a s.heap h' → h'.get? a = some { o with data := .set es' ep' t' } →
      es'.toList.Perm ((knd.hash k, x) :: es.toList) → t'.fits es'.size = true → Ris t'.place.toList → t'.led = t.led → Q true { s with heap := h' }) :
    wpAny (model P w) A (setAddHashed a x (knd.hash k)) Q E s := by
  unfold setAddHashed setAddHashedIn
  refine wpAny_holding (wpAny_bind (wpAny_setState_of ho hd hf ?_))
  dsimp only
  rw [byScan_of hx (Nat.lt_of_succ_lt hb) hel]
  simp only [↓reduceIte]
  unfold setAddByScan
  refine wpAny_bind (wpAny_bind (wpAny_rule ?_))
  refine wpAny_bind (wpAny_setScan_of hk ho hd hf hel ?_)
  cases met : List.findIdx? (fun e => knd.is k e.2) es.toList with
  | some j =>
    dsimp only
    obtain ⟨hj, pj, _⟩ := List.findIdx?_eq_some_iff_getElem.mp met
    exact wpAny_pure (wpAny_pure (old ⟨_, List.getElem_mem hj, pj⟩))
  | none =>
    dsimp only
    have no : ∀ e ∈ es.toList, knd.is k e.2 = false := fun e he => List.findIdx?_eq_none_iff.mp met e he
    have gw : ∀ (b : Bool) {z : Shared} {U : Unit → Shared → Prop}, U () z → wpAny (model P w) A (match b with | true => rule "set.scan.the-table-gave-way" | false => pure ()) U E z := fun b z U q => by
      cases b
      · exact wpAny_pure q
      · exact wpAny_rule q
    have perm := layNew_perm t es (knd.hash k) x
    have fit1 := layNew_fits t es (knd.hash k) x
    have ris1 := layNew_ris t es (knd.hash k) x hr
    have led1 := layNew_led t es (knd.hash k) x
    generalize layNew t es (knd.hash k) x = Z at perm fit1 ris1 led1 ⊢
    obtain ⟨fs, u, dm, gave⟩ := Z
    dsimp only at perm fit1 ris1 led1 ⊢
    rw [Array.toList_push] at perm
    have pc : fs.toList.Perm ((knd.hash k, x) :: es.toList) := perm.trans (List.perm_append_singleton _ _)
    have size1 : fs.size < scanBound := by
      have q := pc.length_eq
      rw [List.length_cons, Array.length_toList, Array.length_toList] at q
      omega
    have fin : ∀ (u' : SetTable), u'.led = u.led → ∀ h' (es' : Array (Int × Value)) (ep' : Nat) (t' : SetTable), Heap.SameBut a s.heap h' → h'.get? a = some { o with data := .set es' ep' t' } → es'.toList.Perm fs.toList →
        t'.fits es'.size = true → Ris t'.place.toList → t'.led = u'.led → Q true { s with heap := h' } := fun u' e h' es' ep' t' sb g p f r l =>
      new no h' es' ep' t' sb g (p.trans pc) f r (l.trans (e.trans led1))
    refine wpAny_bind (gw _ ?_)
    split
    · refine wpAny_bind ?_
      rw [hashByValue_scannable 8 hx]
      refine wpAny_pure ?_
      refine tailG ?_ ho hd size1 ?_ ?_ ?_
      · intro b z U q
        cases b
        · exact wpAny_pure q
        · exact wpAny_rule q
      · first
          | exact fit1
          | (split <;> first | exact fit1 | exact SetTable.fits_plain_off fit1)
      · first
          | exact ris1
          | (split <;> exact ris1)
      · intro h' es' ep' t' sb g p f r l
        dsimp only
        refine wpAny_pure (fin _ ?_ h' es' ep' t' sb g p f r l)
        first
          | rfl
          | (split <;> rfl)
    · refine wpAny_bind (wpAny_pure ?_)
      simp only [↓reduceIte]
      refine tailG ?_ ho hd size1 fit1 ris1 ?_
      · intro b z U q
        cases b
        · exact wpAny_pure q
        · exact wpAny_rule q
      · intro h' es' ep' t' sb g p f r l
        dsimp only
        exact wpAny_pure (fin u rfl h' es' ep' t' sb g p f r l)
end
/-! ### a set of texts -/
def nm (e : Int × Value) : Str := match e.2 with | .str x _ => x | _ => Str.empty
def Tx (w : World) (e : Int × Value) : Prop := ∃ x t, e.2 = Value.str x t ∧ e.1 = hashStr w x
/-- the set at a has just the texts ks, each once -/
def Has (w : World) (h : Heap) (a : Addr) (ks : List Str) : Prop :=
  ∃ o es ep t, h.get? a = some o ∧ o.ExactSet ∧ o.data = .set es ep t ∧ (∀ e ∈ es.toList, Tx w e) ∧ (es.toList.map nm).Perm ks ∧ ks.Nodup ∧ ks.length < scanBound ∧ t.fits es.size = true ∧ Ris t.place.toList ∧
    (w.params.followText "set-order" = true ∨ t.led = true)
def plus (ks : List Str) (k : Str) : List Str := if k ∈ ks then ks else k :: ks
section
variable {P : Program} {w : World} {A : Around} {E : Value → Shared → Prop} {s : Shared} {a : Addr} {ks : List Str} {h h' : Heap}
theorem Has.at (R : Has w h a ks) (k : ∀ o, h.get? a = some o → h'.get? a = some o) : Has w h' a ks := by
  obtain ⟨o, es, ep, t, ho, r⟩ := R
  exact ⟨o, es, ep, t, k o ho, r⟩
theorem tx_elems {l : List (Int × Value)} (g : ∀ e ∈ l, Tx w e) : ElemsOf (strKind P w) l := fun e he => by
  obtain ⟨x, t, e1, e2⟩ := g e he
  refine ⟨⟨x, ?_, e2⟩, ?_⟩
  · rw [e1]
    exact strKind_is P w x t
  · rw [e1]
    rfl
theorem tx_is {e : Int × Value} (g : Tx w e) (k : Str) : (strKind P w).is k e.2 = true ↔ nm e = k := by
  obtain ⟨x, t, e1, _⟩ := g
  have n : nm e = x := by unfold nm; rw [e1]
  rw [n, e1]
  constructor
  · intro q
    exact (strKind P w).inj _ _ _ (strKind_is P w x t) q
  · intro q
    subst q
    exact strKind_is P w x t
theorem size_of {es : Array (Int × Value)} (p : (es.toList.map nm).Perm ks) : es.size = ks.length := by
  have q := p.length_eq
  rwa [List.length_map, Array.length_toList] at q
/-- one text more -/
theorem add_raw {k : Str} {tk : Tok} {Q : Value → Shared → Prop} (R : Has w s.heap a ks) (room : ks.length + 1 < scanBound)
    (hQ : ∀ h', Heap.SameBut a s.heap h' → Has w h' a (plus ks k) → Q .none { s with heap := h', toks := s.toks + 1 }) :
    wpAny (model P w) A (call (.builtin "set.add") [.ref a, .str k tk]) Q E s := by
  obtain ⟨o, es, ep, t, ho, hex, hd, g, pm, nd, hb, hf, hr, hl⟩ := R
  have hsz := size_of pm
  have hS : s.TypeIs (.ref a) "set" := ⟨o, ho, hex.1⟩
  refine wpAny_call_entry F.slot_set_add hS F.entry_set_add ?_ (F.args_set_add_2 _ _)
  unfold Builtin.«set.add» Builtin.Frozenset.oneOther
  simp only [List.isEmpty_nil, bind_assoc]
  unfold Builtin.Frozenset.addrOf setAdd
  refine wpAny_bind (wpAny_pure ?_)
  try dsimp only
  refine wpAny_bind (wpAny_pure ?_)
  try dsimp only
  refine wpAny_bind (wpAny_holding (wpAny_bind ((strKind P w).pyHash (strKind_is P w k tk) ?_)))
  have mem : (∃ e ∈ es.toList, (strKind P w).is k e.2 = true) ↔ k ∈ ks := by
    rw [← pm.mem_iff, List.mem_map]
    exact ⟨fun ⟨e, he, q⟩ => ⟨e, he, (tx_is (g e he) k).1 q⟩, fun ⟨e, he, q⟩ => ⟨e, he, (tx_is (g e he) k).2 q⟩⟩
  refine addG (knd := strKind P w) (s := { s with toks := s.toks + 1 }) (strKind_is P w k tk) rfl ho hd (tx_elems g) (by rw [hsz]; exact room) hf hr ?_ ?_
  · intro there
    have hk : k ∈ ks := mem.1 there
    have ek : plus ks k = ks := if_pos hk
    refine wpAny_pure ⟨_, rfl, hQ s.heap (Heap.SameBut.refl a s.heap) ?_⟩
    rw [ek]
    exact ⟨o, es, ep, t, ho, hex, hd, g, pm, nd, hb, hf, hr, hl⟩
  · intro no h' es' ep' t' sb ho' p f r l
    have hk : k ∉ ks := fun z => by
      obtain ⟨e, he, q⟩ := mem.2 z
      rw [no e he] at q
      cases q
    have ek : plus ks k = k :: ks := if_neg hk
    refine wpAny_pure ⟨_, rfl, hQ h' sb ?_⟩
    rw [ek]
    refine ⟨_, es', ep', t', ho', hex, rfl, fun e he => ?_, ?_, List.nodup_cons.mpr ⟨hk, nd⟩, room, f, r, hl.imp id fun z => l.trans z⟩
    · rcases List.mem_cons.mp (p.mem_iff.mp he) with z | z
      · rw [z]
        exact ⟨k, tk, rfl, rfl⟩
      · exact g e z
    · exact (p.map nm).trans (pm.cons k)
theorem has_fresh {h : Heap} (w : World) : Has w (h.push { cls := .type "set", dict := none, data := .set #[] 0 (.fresh 0 0 (!w.params.followText "set-order")) }) h.objs.size [] := by
  refine ⟨_, #[], 0, _, Heap.get?_push_size _ rfl, ⟨rfl, rfl, rfl⟩, rfl, (fun e he => by simp at he), List.Perm.refl _, List.nodup_nil, by decide, by rfl, List.Pairwise.nil, ?_⟩
  show _ ∨ (!w.params.followText "set-order") = true
  cases w.params.followText "set-order" with
  | false => exact .inr rfl
  | true => exact .inl rfl
end
/-- a set of texts as a tracked thing -/
def TxO (w : World) (a : Addr) (ks : List Str) : HO := .ext fun h => Has w h a ks
theorem txO_new {w : World} {P : Program} {H : Hp} {h : Heap} {a : Addr} {ks : List Str} (R : Has w h a ks) : ObjOk P w H h a (TxO w a ks) := by
  have ⟨o, _, _, _, ho, _⟩ := R
  exact ⟨R, ⟨o, ho⟩, fun h1 h2 p k => Has.at p k⟩
section
variable {X : Cx}
theorem txO_get {pins : List (Addr × Obj)} {σ : L2.St} {H : Hp} {s : Shared} {a : Addr} {ks : List Str} (I : Inv X pins σ H s) (ha : H a = some (TxO X.w a ks)) : Has X.w s.heap a ks := (I.hok a _ ha).1
theorem add_ok {pins : List (Addr × Obj)} {σ : L2.St} {H : Hp} {s : Shared} {E : Value → Shared → Prop} {D : Addr} {ks : List Str} {k : Str} {tk : Tok} {Q : Value → Shared → Prop} (I : Inv X pins σ H s) (hD : H D = some (TxO X.w D ks)) (room : ks.length + 1 < scanBound)
    (q : ∀ s', Inv X pins σ (upd H D (TxO X.w D (plus ks k))) s' → Q .none s') : wpAny (model X.prog X.w) X.A (call (.builtin "set.add") [.ref D, .str k tk]) Q E s := by
  refine add_raw (txO_get I hD) room fun h' sb new => ?_
  have there : ∃ u, h'.get? D = some u := by
    obtain ⟨o, _, _, _, ho, _⟩ := new
    exact ⟨o, ho⟩
  exact q _ (I.write (e := D) (t' := s.toks + 1) (by rw [hD]; trivial) (.inl rfl) (fun b u hb hu => (sb.2 b hb).trans hu) there (txO_new new))
/-! ### sorted of it -/
def rSortTx (w : World) : List V → Hp → VK → Prop := fun vs H Q => ∃ (a : Addr) (ks : List Str), vs = [V.ref a] ∧ H a = some (TxO w a ks) ∧ ks.length < 64 ∧
  ∀ (ys : List Str) (p : Addr), ys.Perm ks → sortedS ys = true → H p = none → Q (.ref p) (upd H p (.lst (ys.map V.str)))
end
/-- all of them, each once -/
def gathered (xs : List Str) : List Str := xs.foldl plus []
theorem plus_mem {ks : List Str} {k x : Str} : x ∈ plus ks k ↔ x = k ∨ x ∈ ks := by
  unfold plus
  by_cases h : k ∈ ks
  · rw [if_pos h]
    exact ⟨.inr, fun z => z.elim (fun e => e ▸ h) id⟩
  · rw [if_neg h, List.mem_cons]
theorem plus_nd {ks : List Str} {k : Str} (nd : ks.Nodup) : (plus ks k).Nodup := by
  unfold plus
  by_cases h : k ∈ ks
  · rw [if_pos h]
    exact nd
  · rw [if_neg h]
    exact List.nodup_cons.mpr ⟨h, nd⟩
theorem plus_len (ks : List Str) (k : Str) : (plus ks k).length ≤ ks.length + 1 := by
  unfold plus
  by_cases h : k ∈ ks
  · rw [if_pos h]
    exact Nat.le_succ _
  · rw [if_neg h]
    exact Nat.le_refl _
theorem fold_facts : ∀ (xs ks : List Str), ks.Nodup → (xs.foldl plus ks).Nodup ∧ (∀ x, x ∈ xs.foldl plus ks ↔ x ∈ xs ∨ x ∈ ks) ∧ (xs.foldl plus ks).length ≤ ks.length + xs.length
  | [], ks, nd => ⟨nd, fun x => by simp, by simp⟩
  | k :: xs, ks, nd => by
    obtain ⟨h1, h2, h3⟩ := fold_facts xs (plus ks k) (plus_nd nd)
    refine ⟨h1, fun x => ?_, ?_⟩
    · rw [List.foldl_cons, h2 x, plus_mem, List.mem_cons]
      constructor
      · rintro (h | h | h)
        · exact .inl (.inr h)
        · exact .inl (.inl h)
        · exact .inr h
      · rintro ((h | h) | h)
        · exact .inr (.inl h)
        · exact .inl h
        · exact .inr (.inr h)
    · rw [List.foldl_cons, List.length_cons]
      have := plus_len ks k
      omega
theorem gathered_facts (xs : List Str) : (gathered xs).Nodup ∧ (∀ x, x ∈ gathered xs ↔ x ∈ xs) ∧ (gathered xs).length ≤ xs.length := by
  obtain ⟨h1, h2, h3⟩ := fold_facts xs [] List.nodup_nil
  refine ⟨h1, fun x => ?_, ?_⟩
  · show x ∈ xs.foldl plus [] ↔ _
    rw [h2 x]
    simp
  · show (xs.foldl plus []).length ≤ xs.length
    simpa using h3
theorem gathered_snoc (xs : List Str) (k : Str) : gathered (xs ++ [k]) = plus (gathered xs) k := by
  unfold gathered
  rw [List.foldl_append]
  rfl
end Nm
namespace Nm
open PySem PySem.Spec PyProof.Rows L2
section
variable {P : Program} {w : World} {A : Around} {E : Value → Shared → Prop} {s : Shared} {a : Addr}
theorem strs_of : ∀ (l : List Value) (ks : List Str), Paired (fun v k => ∃ t, v = Value.str k t) l ks → StrsAre l ks
  | _, _, .nil => .nil
  | _, _, .cons h r => by
    obtain ⟨t, e⟩ := h
    subst e
    exact .cons _ t (strs_of _ _ r)
def tx (v : Value) : Str := match v with | .str x _ => x | _ => Str.empty
theorem strs_tx : ∀ (l : List Value), (∀ v ∈ l, ∃ x t, v = Value.str x t) → StrsAre l (l.map tx)
  | [], _ => .nil
  | v :: l, h => by
    obtain ⟨x, t, e⟩ := h v List.mem_cons_self
    subst e
    exact .cons x t (strs_tx l fun u hu => h u (List.mem_cons_of_mem _ hu))
theorem sorted_raw {ks : List Str} {Q : Value → Shared → Prop} (R : Has w s.heap a ks) (hh : A.handled = none)
    (hQ : ∀ s' p (out : Array Value) (c : Nat) (ys : List Str), (∀ b o, s.heap.get? b = some o → s'.heap.get? b = some o) → s'.gens = s.gens → s'.os = s.os → s.heap.objs.size ≤ p →
      s'.heap.get? p = some (seqObj "list" out c) → StrsAre out.toList ys → ys.Perm ks → sortedS ys = true → Q (.ref p) s') :
    wpAny (model P w) A (call (.builtin "sorted") [.ref a]) Q E s := by
  obtain ⟨o, es, ep, t, ho, hex, hd, g, pm, nd, hb, hf, hr, hl⟩ := R
  have hsz := size_of pm
  refine Calls.call_function_entry kind_sorted plain_sorted entry_sorted (args_sorted1 _) ?_
  unfold Builtin.«sorted»
  refine wpAny_bind (m := checkCount "sorted" 1 1 _) (wpAny_pure ?_)
  refine wpAny_bind (collect_set (A := A.in1) hh ⟨o, ho, hex.1, hd⟩ hf (by rw [hsz]; exact hb) hr hl fun s1 vs k1 hz g1 o1 q => ?_)
  have len : vs.length ≤ sizeLine := by
    have z : vs.length = es.size := by rw [q.length_eq, List.length_map, Array.length_toList]
    rw [z, hsz]
    exact fits_of_scanBound hb
  have hS : StrsAre vs (vs.map tx) := strs_tx vs fun v hv => by
    obtain ⟨e, he, z⟩ := List.mem_map.mp (q.mem_iff.mp hv)
    obtain ⟨x, tk, h1, _⟩ := g e he
    exact ⟨x, tk, by rw [← z]; exact h1⟩
  have pk : (vs.map tx).Perm ks := by
    have z := q.map tx
    rw [List.map_map] at z
    exact z.trans pm
  refine wpAny_bind (wpAny_newList ?_ len)
  have hoL : (s1.heap.push (seqObj "list" vs.toArray 0)).get? s1.heap.objs.size = some (seqObj "list" vs.toArray 0) := Heap.get?_push_size _ rfl
  refine wpAny_bind (wpAny_holding (wpAny_call_entry slot_list_sort ⟨_, hoL, rfl⟩ entry_list_sort
    (list_sort_treeKAny strKind_oneLt hoL hS.keysOf (fun v₁ v₂ rest e => keyKind_strs (by rw [← e]; exact hS)) len fun st' hp hs => ?_) (args_list_sort _)))
  obtain ⟨ys, b1, b2, b3⟩ := sorted_out_str hS hp hs
  obtain ⟨c, hc⟩ := sortedHeap_at (vs := vs) (out := (arrOf st').map (·.2)) hoL
  refine ⟨_, rfl, wpAny_pure ⟨_, rfl, hQ _ s1.heap.objs.size _ c ys (fun b u e => ?_) g1 o1 hz hc b1 (b2.trans pk) b3⟩⟩
  have z := k1 b u e
  have lt := Heap.lt_size z
  show (sortedHeap (s1.heap.push (seqObj "list" vs.toArray 0)) s1.heap.objs.size vs ((arrOf st').map (·.2))).get? b = some u
  rw [sortedHeap_old (Nat.ne_of_lt lt) (by rw [size_push']; exact Nat.lt_succ_of_lt lt)]
  exact Heap.get?_push_of_some _ z
end
section
variable {X : Cx}
theorem cr_sortTx (hc : X.calm = true) : CallR X (.builtin "sorted") (rSortTx X.w) := by
  intro pins s σ H vs us Q I r h
  obtain ⟨a, ks, rfl, ha, h64, q⟩ := h
  rw [Vals.ref1 r]
  refine sorted_raw (txO_get I ha) (I.ok.hd hc) fun s' p out c ys k g o hp hg hS pm so => ?_
  have len : (ys.map V.str).length ≤ sizeLine := by
    rw [List.length_map, pm.length_eq]
    exact small64 h64
  have hn : H p = none := I.hok.fresh hp
  have J : Inv X pins σ (upd H p (.lst (ys.map V.str))) { s with heap := s'.heap, gens := s'.gens, drawn := s'.drawn, toks := s'.toks } :=
    I.call (ch := []) (Un.laid k hp hn) (I.hok.laid k hp ⟨len, out.toList, c, vals_of_strs hS, hg⟩) (by rw [g]; exact I.bare) (fun _ z => nomatch z)
  have e : s' = { s with heap := s'.heap, gens := s'.gens, drawn := s'.drawn, toks := s'.toks } := by
    cases s'
    cases s
    cases o
    rfl
  rw [e]
  exact ⟨.ref p, _, J, rfl, q ys p pm so hn⟩
end
end Nm
namespace Nm
open PySem PySem.Spec PyProof.Rows L2
section
variable {X : Cx}
/-- what a set display by a walk asks, its element being a text -/
def tNm (w : World) (wi : TI) (g : TG) (te : TE) (vs : List Nat) : TE := fun σ H Q => wi σ H fun J H1 => ∀ D, H1 D = none → ∃ W : Nat → Nat → Hp → Prop,
  (∃ m, W 0 m (upd H1 D (TxO w D []))) ∧ ∀ i m H, W i m H → (J.stop i H ∧ Q (.ref D) H) ∨ (J.go i H ∧ ∃ Nx : Hp → Prop, (∀ H', Nx H' → ∃ m', m' < m ∧ W (i + 1) m' H') ∧
    ∀ x H', J.yld i H x H' → g x (wipe σ vs) H' fun σ2 H2 => wipe σ2 vs = wipe σ vs ∧ te σ2 H2 fun y H4 =>
      ∃ (c : Str) (ks : List Str), y = .str c ∧ H4 D = some (TxO w D ks) ∧ ks.length + 1 < scanBound ∧ Nx (upd H4 D (TxO w D (plus ks c))))
/-- a new set as the model makes it -/
abbrev setObj (X : Cx) : Obj := { cls := .type "set", dict := none, data := .set #[] 0 (.fresh 0 0 (!X.w.params.followText "set-order")) }
theorem pe_nm {elt tg iter : Expr} {scope : Scope} {own : List (PySem.Str × Nat)} {pos : Pos} {wi : TI} {g : TG} {te : TE} (hc : X.calm = true) (hN : X.N.Nodup) (hi : PI X tg iter wi) (ok : BlkOk X.N X.env.scope scope own)
    (hg : ∀ (s : Shared) (H : Hp) (C : Addr) (cl : List (PySem.Str × Addr)) (fp : List Addr), PG (X.blk s H scope (compEnvC scope cl C X.env) fp) tg g)
    (he : ∀ (s : Shared) (H : Hp) (C : Addr) (cl : List (PySem.Str × Addr)) (fp : List Addr), PE (X.blk s H scope (compEnvC scope cl C X.env) fp) elt te)
    (hs : ∀ x, foldedSetIterable iter X.env x = pure x := by intro _; rfl) : PE X (.SetComp elt [⟨tg, iter, [], 0⟩] scope pos) (tNm X.w wi g te (own.map (·.2))) := by
  refine ⟨fun pins s σ H Q I h => ?_⟩
  rw [PpSet.eval_SetComp]
  have closed : ∀ y ∈ scope.names, y.2 = .free → ∃ c, X.env.cells.lookup y.1 = some c := fun y hy e => (ok.free y hy e).elim (fun k => I.ok.has _ (.inl k)) fun k => I.ok.has _ (.inr k)
  refine wpAny_comprehension_free (use := none) rfl hs (closure_ok closed) ok.kind (fun y hy e => by rw [ok.uniq y hy, e]) (thn (hi.run pins s σ H _ I h) fun xv s1 hx => thn hx fun itv s2 h2 => ?_)
  obtain ⟨it, fp, tn, J, H2, e, I2, T, st2, f2, q⟩ := h2
  subst e
  refine PpSet.newSet_ok (newEnv_comp ?_)
  generalize hD : s2.heap.objs.size = D
  have hDn : H2 D = none := I2.hok.fresh (Nat.le_of_eq hD)
  obtain ⟨W, ⟨m0, w0⟩, turn⟩ := q D hDn
  generalize hs3 : ({ s2 with heap := s2.heap.push (setObj X) } : Shared) = s3
  have h3 : s3.heap = s2.heap.push (setObj X) := by rw [← hs3]
  generalize hH3 : upd H2 D (TxO X.w D []) = H3 at w0
  have I3 : Inv X pins σ H3 s3 := by
    rw [← hs3, ← hH3]
    refine I2.laid (t' := s2.toks) (fun b o e => Heap.get?_push_of_some _ e) (Nat.le_of_eq hD) ?_
    rw [← hD]
    exact txO_new (has_fresh X.w)
  have below : ∀ b ∈ fp, b < s2.heap.objs.size := fun b hb => by
    obtain ⟨o, e, _⟩ := T.obj _ _ st2 b hb
    exact Heap.lt_size e
  have f3 : ∀ b ∈ fp, FpOk X pins H3 b ∧ b < s3.heap.objs.size := fun b hb => by
    have lt := below b hb
    have ne : b ≠ D := by rw [← hD]; exact Nat.ne_of_lt lt
    refine ⟨⟨?_, (f2 b hb).2⟩, by rw [h3, Heap.size_push]; exact Nat.lt_succ_of_lt lt⟩
    rw [← hH3, upd_ne ne]
    exact (f2 b hb).1
  have st3 : tn 0 s3.heap := T.keep _ _ _ st2 fun b _ o e => by rw [h3]; exact Heap.get?_push_of_some _ e
  have I4 := block_start I3 ok hN f3
  generalize hcl : cellsFrom (s3.heap.objs.size + 1) scope.names (cloFrom X.env.cells scope.names []) = cl at I4
  have pg := hg s3 H3 s3.heap.objs.size cl fp
  have pe := he s3 H3 s3.heap.objs.size cl fp
  have goal : codeAny (model X.prog X.w) X.A (.compStart (.SetComp elt [⟨tg, iter, [], 0⟩] scope pos) 0 (.ref it) (.ref D) (compEnvC scope cl s3.heap.objs.size X.env))
      (compPost (model X.prog X.w) X.A X.xe none (EP X pins σ Q) (.ref D) s3.heap.objs.size) { s3 with heap := pushCells (s3.heap.push { cls := .type "dict", data := .dict #[] }) scope.names } := by
    have free3 : ∀ b ∈ fp, H3 b = none := fun b hb => (f3 b hb).1.1
    generalize hce : compEnvC scope cl s3.heap.objs.size X.env = ce at I4 pg pe ⊢
    have locals : ce.locals = s3.heap.objs.size := by subst hce; rfl
    generalize hs4 : ({ s3 with heap := pushCells (s3.heap.push { cls := .type "dict", data := .dict #[] }) scope.names } : Shared) = s4 at I4 ⊢
    have st4 : tn 0 s4.heap := T.keep _ _ _ st3 fun b _ o e => by rw [← hs4]; exact pushCells_keeps _ _ _ _ (Heap.get?_push_of_some _ e)
    have stat : ∀ {σ' : L2.St} {H' : Hp} {s' : Shared}, Inv (X.blk s3 H3 scope ce fp) [] σ' H' s' → (∀ b ∈ fp, H' b = none) → ∀ b ∈ fp, FpOk (X.blk s3 H3 scope ce fp) [] H' b := fun {σ' H' s'} I' hn b hb =>
      ⟨hn b hb, (I'.ok.exf b hb).1, I'.ok.exfs b hb, .inl hb, fun x c e => (I'.ok.exf b hb).2 x c e, fun p hp => absurd (show p ∈ ([] : List (Addr × Obj)) ++ [] from hp) (by simp)⟩
    have loop : codeAny (model X.prog X.w) X.A (.compLoop (.SetComp elt [⟨tg, iter, [], 0⟩] scope pos) 0 (.ref it) (.ref D) ce) (compPost (model X.prog X.w) X.A X.xe none (EP X pins σ Q) (.ref D) s3.heap.objs.size) s4 := by
      refine PpSet.compLoopS_any (fun n s' => ∃ i H', Inv (X.blk s3 H3 scope ce fp) [] (wipe σ (own.map (·.2))) H' s' ∧ tn i s'.heap ∧ (∀ b ∈ fp, H' b = none) ∧ W i n H') ?_ m0 ⟨0, H3, I4, st4, free3, w0⟩
      rintro n s5 ⟨i, H5, I5, st5, n5, w5⟩
      rcases turn i n H5 w5 with ⟨stop, qq⟩ | ⟨go, Nx, hNx, step⟩
      · refine thnF (T.done (X.blk s3 H3 scope ce fp) rfl rfl rfl hc i [] s5 _ H5 (fun _ _ => False) I5 (stat I5 n5) st5 stop) fun r s6 ⟨hr, I6⟩ => ?_
        subst hr
        have I7 : Inv X pins σ H5 s6 := I3.call' (ch := fp) I6.os I6.base I6.hok I6.bare fun b hb => by
          have z := (f3 b hb).1
          exact ⟨z.2.2.2.1, z.2.1, z.2.2.2.2.1, z.2.2.2.2.2⟩
        have nC : H5 s3.heap.objs.size = none := by
          rw [← locals]
          exact I6.free
        obtain ⟨m, hn, _⟩ := I6.loc
        have hn' : s6.heap.Ns s3.heap.objs.size m := by
          rw [← locals]
          exact hn
        refine ⟨m, hn', fun h'' sb => ?_⟩
        obtain ⟨z0, z1, z2, z3, z4, z5⟩ := I3.fpOk (Nat.le_refl _) nC
        exact ⟨.ref D, H5, I7.turned (t' := s6.toks) (fun b o hb e => (sb.2 b hb).trans e) z0 z1 z3 z4 z5, rfl, qq⟩
      · refine thnF (T.item (X.blk s3 H3 scope ce fp) rfl rfl rfl hc i [] s5 _ H5 (fun _ _ => False) I5 (stat I5 n5) st5 go) fun r s6 ⟨u, hr, h6⟩ => ?_
        subst hr
        refine thnF h6 fun _ s7 ⟨x, H7, I7, r7, y7, st7, n7⟩ => ?_
        have I7' := I7.pinned (stat I7 n7) (T.obj _ _ st7)
        refine thnF (pg.run _ s7 _ H7 x u _ I7' r7 (step x H7 y7)) fun _ s8 ⟨σ8, H8, I8, hw8, q8⟩ => ?_
        refine wpAny_pure ?_
        rw [if_pos rfl]
        refine thnF (pe.run _ s8 σ8 H8 _ I8 q8) fun z s10 ⟨yv, H10, I10, r10, c, ks, ey, hD10, room, nx⟩ => ?_
        subst ey
        obtain ⟨tk, ez⟩ := (show ∃ t, z = Value.str c t from r10)
        subst ez
        refine add_ok (X := X.blk s3 H3 scope ce fp) I10 hD10 room fun s11 I11 => ?_
        obtain ⟨m', hm, w'⟩ := hNx _ nx
        have pin' : ∀ b ∈ fp, ∀ o, s7.heap.get? b = some o → s11.heap.get? b = some o ∧ upd H10 D (TxO (X.blk s3 H3 scope ce fp).w D (plus ks c)) b = none := fun b hb o e =>
          let z := I11.pin (b, o) (List.mem_append_right _ (List.mem_append_right _ (mem_pinsAt hb e)))
          ⟨z.1, z.2.1⟩
        have len : (wipe σ (own.map (·.2))).length = σ8.length := by rw [← hw8, wipe_length]
        refine ⟨m', hm, i + 1, _, (I11.unpinned (pins := [])).weak len (fun j v e => ?_), T.keep _ _ _ st7 fun b hb o e => (pin' b hb o e).1, fun b hb => ?_, w'⟩
        · rw [← hw8] at e
          exact (wipe_some e).1
        · obtain ⟨o, e, _⟩ := T.obj _ _ st7 b hb
          exact (pin' b hb o e).2
    exact PpSet.codeAny_compStart_set loop (T.self X.A 0 _ _ _ st4 loop)
  exact goal
/-- over a tuple that stands still -/
theorem nm_tup {w : World} {K : PySem.W.Frag} {a : Addr} {xs : List V} {g : TG} {te : TE} {vs : List Nat} {σ : L2.St} {H1 : Hp} {D : Addr} {Qd : Hp → Prop} (Pv : Nat → Hp → Prop) (h0 : Pv 0 (upd H1 D (TxO w D [])))
    (hl : ∀ i H, i ≤ xs.length → Pv i H → SqT K H a xs)
    (hs : ∀ i x H, xs[i]? = some x → Pv i H → g x (wipe σ vs) H fun σ2 H2 => wipe σ2 vs = wipe σ vs ∧ te σ2 H2 fun y H4 =>
      ∃ (c : Str) (ks : List Str), y = .str c ∧ H4 D = some (TxO w D ks) ∧ ks.length + 1 < scanBound ∧ Pv (i + 1) (upd H4 D (TxO w D (plus ks c)))) (hd : ∀ H, Pv xs.length H → Qd H) :
    ∃ W : Nat → Nat → Hp → Prop, (∃ m, W 0 m (upd H1 D (TxO w D []))) ∧ ∀ i m H, W i m H → ((Itt K a).stop i H ∧ Qd H) ∨ ((Itt K a).go i H ∧ ∃ Nx : Hp → Prop, (∀ H', Nx H' → ∃ m', m' < m ∧ W (i + 1) m' H') ∧
      ∀ x H', (Itt K a).yld i H x H' → g x (wipe σ vs) H' fun σ2 H2 => wipe σ2 vs = wipe σ vs ∧ te σ2 H2 fun y H4 =>
        ∃ (c : Str) (ks : List Str), y = .str c ∧ H4 D = some (TxO w D ks) ∧ ks.length + 1 < scanBound ∧ Nx (upd H4 D (TxO w D (plus ks c)))) := by
  refine ⟨fun i m H => m = xs.length - i ∧ i ≤ xs.length ∧ Pv i H, ⟨xs.length, by simp, Nat.zero_le _, h0⟩, ?_⟩
  rintro i m H ⟨rfl, hi, p⟩
  have q := hl i H hi p
  rcases Nat.lt_or_ge i xs.length with lt | ge
  · refine .inr ⟨⟨xs, xs[i], q, by simp [lt]⟩, Pv (i + 1), fun H' p' => ⟨xs.length - (i + 1), by omega, rfl, lt, p'⟩, fun x H' y => ?_⟩
    obtain ⟨e, y⟩ := y
    subst e
    exact hs i x _ (y xs q) p
  · have e : i = xs.length := by omega
    subst e
    exact .inl ⟨⟨xs, q, Nat.le_refl _⟩, hd H p⟩
end
end Nm
namespace Nm
open PySem PySem.Spec PyProof.Rows L2
open Sem (wp)
abbrev enumObj (it : Addr) : Obj := { cls := .type "enumerate", data := .fields #[.none, .bool false, .ref it, rawInt 0, .none, .none] }
theorem meets_enum1 {v : Value} {o : Obj} {G : Heap → Prop} (B : Begins v o G) :
    Meets (Builtin.«enumerate.__new__» ⟨[.type "enumerate", v], []⟩) (fun _ R s => G s.heap ∧ R (.ok (.ret (.ref (s.heap.push o).objs.size))) { s with heap := (s.heap.push o).push (enumObj s.heap.objs.size) }) :=
  .of_wp fun prog w A R s h => by
    obtain ⟨hp, g, d, tk, os⟩ := s
    obtain ⟨h1, h⟩ := h
    have sub := sub_enumerate
    have begins : ∀ {A' : Around} {E : Value → Shared → Prop} {Q : Value → Shared → Prop}, Q (.ref hp.objs.size) ⟨hp.push o, g, d, tk, os⟩ → wpAny (model prog w) A' (pyIter v) Q E ⟨hp, g, d, tk, os⟩ := fun q => B.iter prog w _ _ ⟨hp, g, d, tk, os⟩ _ h1 q
    wp_walk
    refine wpAny_stack_any fun st => wpAny_pure ?_
    split
    · rename_i c _ _ _ _ _
      cases (c == Value.type "enumerate") <;> (wp_walk using begins; exact ⟨_, rfl, h⟩)
    · wp_walk using begins
      exact ⟨_, rfl, h⟩
section
variable {prog : Program} {w : World} {A : Around} {E : Value → Shared → Prop} {s : Shared}
theorem call_enum1 {v : Value} {o : Obj} {G : Heap → Prop} {Q : Value → Shared → Prop} (B : Begins v o G) (h1 : G s.heap)
    (h : ∀ h', IsEnum h' (s.heap.objs.size + 1) s.heap.objs.size 0 .none → h'.get? s.heap.objs.size = some o → h'.objs.size = s.heap.objs.size + 2 → (∀ b u, s.heap.get? b = some u → h'.get? b = some u) →
      Q (.ref (s.heap.objs.size + 1)) { s with heap := h' }) : wpAny (model prog w) A (call (.type "enumerate") [v]) Q E s := by
  have one : (s.heap.push o).objs.size = s.heap.objs.size + 1 := Heap.size_push ..
  have made : IsEnum ((s.heap.push o).push (enumObj s.heap.objs.size)) (s.heap.objs.size + 1) s.heap.objs.size 0 .none := by
    have q := Heap.get?_push_size (s.heap.push o) (o := enumObj s.heap.objs.size) rfl
    rw [one] at q
    exact q
  refine callType_new F.called_enumerate (by decide) (F.typeCall_enumerate_1 _) (F.newCall_enumerate_1 _) (fun obj => F.args_object_init_2 obj _) F.entry_enumerate_new (meets_enum1 B) ⟨h1, ?_⟩
  show _ ∧ _
  rw [one]
  exact ⟨⟨_, made, rfl⟩, h _ made (Heap.get?_push_of_some _ (Heap.get?_push_size _ B.free)) (by rw [Heap.size_push, one]) fun b u x => Heap.get?_push_of_some _ (Heap.get?_push_of_some _ x)⟩
end
/-- enumerate of a tuple that stands still: each item in a new pair -/
def Itu (K : PySem.W.Frag) (a : Addr) : It :=
  ⟨fun i H => ∃ (xs : List V) (x : V), SqT K H a xs ∧ xs[i]? = some x,
   fun i H v H' => ∃ T x, v = .ref T ∧ H T = none ∧ H' = upd H T (.tup [.int (i : Nat), x]) ∧ ∀ xs, SqT K H a xs → xs[i]? = some x,
   fun i H => ∃ xs : List V, SqT K H a xs ∧ xs.length ≤ i⟩
theorem turn_itu {P : Program} {w : World} {K : PySem.W.Frag} {elts : List Expr} {kk : Nat} {tpos : Pos} (a e it : Addr) (hei : e ≠ it) (hea : e ≠ a) (hia : a ≠ it) :
    Turn P w K (.Tuple elts kk tpos) (Itu K a) [e, it] e (fun i h => (∃ old, IsEnum h e it ((i : Nat) : Int) old) ∧ h.IsTupleIter it a i) where
  mem := by simp
  obj := fun i h st b hb => by
    obtain ⟨⟨old, he⟩, ⟨o, ho, hc, hd⟩⟩ := st
    rcases (show b = e ∨ b = it by simpa using hb) with z | z
    · rw [z]
      exact ⟨_, he, fun v q => nomatch q⟩
    · rw [z]
      exact ⟨o, ho, fun v q => by rw [hd] at q; cases q⟩
  keep := fun i h h' st k => ⟨st.1.imp fun old he => k e (by simp) _ he, st.2.at fun o q => k it (by simp) o q⟩
  item := by
    intro X hP hw hK hc i pins s σ H E I hf st hg
    subst hP hw hK
    obtain ⟨⟨old, he⟩, hit⟩ := st
    obtain ⟨xs, x, hq, hx⟩ := hg
    obtain ⟨its, rv, p, hz⟩ := I.tuple hq
    obtain ⟨u, hu, ru⟩ := rv.get hx
    have lte : e < s.heap.objs.size := Heap.lt_size he
    have lti : it < s.heap.objs.size := by
      obtain ⟨_, q, _⟩ := hit
      exact Heap.lt_size q
    have li : i < its.toArray.size := by
      have q := (List.getElem?_eq_some_iff.mp hu).1
      simpa using q
    refine wpAny_pyNext_enum_itemD (Draws.tuple (A := X.A.in1) (I.ok.hd hc) it a hia its.toArray) he ⟨hit, p⟩ li hei (by simp [hei, hea]) fun y h' tk hy ho hst' hT hsz hk => ?_
    have ey : y = u := by
      rw [show its.toArray[i]? = some u by simpa using hu] at hy
      exact (Option.some.inj hy).symm
    subst ey
    refine ⟨_, rfl, wpAny_letOwnedTupleGo_enum (s := { s with heap := h', toks := tk + 1 }) ho fun h'' he' sb => ?_⟩
    have hT2 : h''.get? s.heap.objs.size = some { cls := .type "tuple", data := .seq #[.int i tk, y] } := (sb.2 _ (Nat.ne_of_gt lte)).trans hT
    have new : ObjOk X.prog X.w (upd H s.heap.objs.size (.tup [.int (i : Nat), x])) h'' s.heap.objs.size (.tup [.int (i : Nat), x]) :=
      ⟨by show 2 ≤ sizeLine; decide, [.int i tk, y], .cons ⟨_, rfl⟩ (.cons ru .nil), ⟨_, hT2, rfl, _, rfl⟩⟩
    have I1 : Inv X pins σ (upd H s.heap.objs.size (.tup [.int (i : Nat), x])) { s with heap := h'', toks := tk + 1 } :=
      I.turnedNew (ch := [e, it]) (fun b ob hb q => (sb.2 b (fun z => hb (by simp [z]))).trans (hk b ob (fun z => hb (by simp [z])) (fun z => hb (by simp [z])) q)) hf (Nat.le_refl _) new
    refine ⟨.ref s.heap.objs.size, _, I1, rfl, ⟨_, x, rfl, I.hok.fresh (Nat.le_refl _), rfl, fun ys hys => by rw [I.tuple_inj hys hq]; exact hx⟩, ⟨⟨y, ?_⟩, hst'.1.at fun o q => (sb.2 it (Ne.symm hei)).trans q⟩, fun b hb => ?_⟩
    · rw [show ((i + 1 : Nat) : Int) = (i : Int) + 1 by omega]
      exact he'
    · have lt : b < s.heap.objs.size := by
        rcases (show b = e ∨ b = it by simpa using hb) with z | z
        · rw [z]; exact lte
        · rw [z]; exact lti
      rw [upd_ne (Nat.ne_of_lt lt)]
      exact (hf b hb).1
  done := by
    intro X hP hw hK hc i pins s σ H E I hf st hg
    subst hP hw hK
    obtain ⟨⟨old, he⟩, hit⟩ := st
    obtain ⟨xs, hq, hx⟩ := hg
    obtain ⟨its, rv, p, hz⟩ := I.tuple hq
    obtain ⟨f0, f1, f2, f3, f4, f5⟩ := hf it (by simp)
    have hl := rv.length
    have D : Draws X.prog X.w X.A.in1 it [it, a] i (fun _ _ => True) (fun j h => j = i ∧ h.IsTupleIter it a j ∧ h.IsTuple a its.toArray) := by
      have T := Draws.tuple (prog := X.prog) (w := X.w) (A := X.A.in1) (I.ok.hd hc) it a hia its.toArray
      exact {
        live := fun j h z => T.live j h z.2
        frame := fun j h h' z k => ⟨z.1, T.frame j h h' z.2 k⟩
        item := fun j s Q E hj st hQ => absurd hj (by rw [st.1]; exact Nat.lt_irrefl _)
        done := fun s Q E st hE => wpAny_nextOf_tuple_end (I.ok.hd hc) st.2.1 st.2.2 (by simp; omega) hE }
    exact wpAny_pyNext_enum_endD D he ⟨rfl, hit, p⟩ fun h' eb => ⟨rfl, I.turned (t' := s.toks) (fun b o hb q => eb b o hb q) f0 f1 f3 f4 f5⟩
  self := fun A i s Q E st h => let ⟨⟨_, he⟩, _⟩ := st; wpAny_pyIter_enum he h
/-- for i, x in enumerate(t), t a tuple -/
def iEnuT (K : PySem.W.Frag) (ta : TA) : TI := fun σ H R => ta σ H fun vs H1 => ∃ a xs, vs = [.ref a] ∧ SqT K H1 a xs ∧ R (Itu K a) H1
theorem pi_enuT {X : Cx} {e : Expr} {ta : TA} {p pos tpos : Pos} {elts : List Expr} {kk : Nat} (hg : Gl X "enumerate") (hm : X.mg "enumerate" = none) (ha : PA X [e] ta) (hs : starEach [e] X.env = [(false, eval e X.env)] := by rfl) :
    PI X (.Tuple elts kk tpos) (.Call (.Name "enumerate" p) [e] [] pos) (iEnuT X.K ta) := by
  refine ⟨fun pins s σ H R I h => ?_⟩
  refine Call_ (ld_blt I hg hm boot_enumerate (PyProof.Rows.callWith_type1 (thn (ha.run pos pins s σ H _ I h) fun us s1 ⟨vs, H1, I1, r1, q1⟩ => ?_) hs rfl))
  obtain ⟨a, xs, ex, hq, q⟩ := q1
  subst ex
  cases r1 with
  | cons r rr =>
    cases rr
    cases r
    obtain ⟨its, rv, p', hz⟩ := I1.tuple hq
    have lta : a < s1.heap.objs.size := by
      obtain ⟨o, ho, _⟩ := id p'
      exact Heap.lt_size ho
    refine call_enum1 (begins_tuple a its.toArray) p' fun h' he hit hsz hk => wpAny_pyIter_enum he ?_
    have I2 : Inv X pins σ H1 { s1 with heap := h' } := I1.kept (t' := s1.toks) hk
    refine ⟨s1.heap.objs.size + 1, [s1.heap.objs.size + 1, s1.heap.objs.size], _, _, H1, rfl, I2,
      turn_itu a (s1.heap.objs.size + 1) s1.heap.objs.size (Nat.succ_ne_self _) (Nat.ne_of_gt (Nat.lt_succ_of_lt lta)) (Nat.ne_of_lt lta), ⟨⟨.none, he⟩, ⟨_, hit, rfl, rfl⟩⟩, fun b hb => ?_, q⟩
    have le : s1.heap.objs.size ≤ b := by
      rcases (show b = s1.heap.objs.size + 1 ∨ b = s1.heap.objs.size by simpa using hb) with z | z
      · rw [z]; exact Nat.le_add_right _ _
      · rw [z]; exact Nat.le_refl _
    exact I1.fpOk le (I1.hok.fresh le)
theorem walk_itu {K : PySem.W.Frag} {a : Addr} {xs : List V} : Walk (Itu K a) xs.length (fun H => SqT K H a xs) (YPair (fun i => some (.int (i : Nat))) (fun i => xs[i]?)) := by
  refine ⟨fun i _ hi q => ⟨xs, xs[i], q, by simp [hi]⟩, fun _ q => ⟨xs, q, Nat.le_refl _⟩, fun i H v H' _ q y => ?_⟩
  obtain ⟨T, x, h1, h2, h3, h4⟩ := y
  exact ⟨T, .int (i : Nat), x, h1, h2, h3, rfl, h4 xs q⟩
end Nm
namespace Nm
open PySem PySem.Spec PyProof.Rows L2
/-- t * 1 is t itself -/
theorem tuple_mul1 (l : Addr) (items : Array Value) (n : Nat) (dd : Option Addr) (sl : Array (Option Value)) (u : Tok) :
    Meets (Builtin.«tuple.__mul__» ⟨[.ref l, .int 1 u], []⟩) (fun _ R s => s.heap.get? l = some { cls := .type "tuple", dict := dd, data := .seq items n, slots := sl } ∧ R (.ok (.ret (Value.ref l))) s) :=
  .of_wp fun prog w A R s h => by
    obtain ⟨hp, g, d, tk, os⟩ := s
    obtain ⟨hl, h⟩ := h
    have f1 := AutoSeq1.idx_int
    have c0 : (decide ((1 : Int) < -(2 ^ 63)) || decide ((1 : Int) ≥ 2 ^ 63)) = false := by decide
    have c1 : (items.isEmpty || (1 : Int) == 1) = true := by cases items.isEmpty <;> rfl
    wp_walk using wpAny_loadPart' hl
    exact ⟨_, rfl, h⟩
def rRep1 (K : PySem.W.Frag) : R2 := fun x y H Q => ∃ l xs, x = .ref l ∧ y = .int 1 ∧ SqT K H l xs ∧ Q (.ref l) H
def rBlCount (K : PySem.W.Frag) : V → List V → Hp → VK → Prop := fun x xs H Q => ∃ (p : Addr) (bs : List Bool) (c : Bool), x = .ref p ∧ xs = [.bl c] ∧ SqL K H p (bs.map V.bl) ∧ Q (.int (bs.count c : Nat)) H
section
variable {X : Cx}
theorem op_rep1 : OpR X (binaryOp .Mult) (rRep1 X.K) := by
  intro pins s σ H x y v u Q I rx ry h
  obtain ⟨l, xs, rfl, rfl, hT, q⟩ := h
  cases rx
  obtain ⟨t, rfl⟩ := ry
  obtain ⟨its, r, ⟨⟨cls, dd, data, sl⟩, ho, hc, n, hd⟩, hs⟩ := I.tuple hT
  simp only at hc hd
  subst hc hd
  refine wpAny_binaryOp_repeat_ref (T := "tuple") (U := "int") (by decide) ⟨_, ho, rfl⟩ (fun s' => typeIs_int s' 1 t) noFill_tuple_mul F.fills_int_mul F.slot_int_rmul repeat_tuple F.slot_int_index.lookup
    (call_meets F.slot_int_rmul (typeIs_int s 1 t) F.entry_int_rmul (F.args_int_rmul_2 _ _) (int_rmul_tuple 1 t l its.toArray n dd sl)
      ⟨ho, rfl, ⟨_, ho, rfl⟩, call_meets F.slot_tuple_mul ⟨_, ho, rfl⟩ F.entry_tuple_mul (F.args_tuple_mul_2 _ _) (tuple_mul1 l its.toArray n dd sl t) ⟨ho, ⟨.ref l, H, I, rfl, q⟩⟩⟩)
def isBl (c : Bool) (v : Value) : Bool := match v with | .bool b => b == c | _ => false
theorem mt_blcount : MtR X "list.count" (rBlCount X.K) := by
  intro pins s σ H x xs v us Q I rx rxs h
  obtain ⟨p, bs, c, rfl, rfl, hs, q⟩ := h
  cases rx
  obtain ⟨u, rfl, ru⟩ := rxs.one
  obtain rfl : u = Value.bool c := ru
  obtain ⟨its, rv, ⟨⟨cls, dd, data, sl⟩, n, ho, hc, hdn, hd⟩, hlen⟩ := I.list hs
  simp only at hc hd
  subst hc hd
  have eb := Vals.bls rv
  refine call_meets PySem.F.slot_list_count ⟨_, ho, rfl⟩ PySem.F.entry_list_count (PySem.F.args_list_count_2 _ _) (SeqAt.list_countAt p its.toArray n dd sl (.bool c) (isBl c)) ⟨ho, fun y hy => ?_, ?_⟩
  · have hm : y ∈ its := by simpa using hy
    rw [eb] at hm
    obtain ⟨b, _, rfl⟩ := List.mem_map.mp hm
    exact SeqAt.EqAt.bool_bool b c
  · have ec : its.toArray.toList.countP (isBl c) = bs.count c := by
      show its.countP (isBl c) = _
      rw [eb, List.countP_map]
      rfl
    refine ⟨.int (bs.count c : Nat), H, I.tok _, ⟨s.toks, ?_⟩, q⟩
    show Value.int ((its.toArray.toList.countP (isBl c) : Nat) : Int) s.toks = Value.int ((bs.count c : Nat) : Int) s.toks
    rw [ec]
/-- nothing is asked that could be met: an expression that is never reached -/
theorem pe_never {e : Expr} : PE X e (fun _ _ _ => False) := ⟨fun _ _ _ _ _ _ h => h.elim⟩
end
end Nm
namespace Nm
open PySem PySem.Spec PyProof.Rows L2
open C8 (Cal Mak pe_c pe_mk pe_gc)
open RZ (ItzT pi_zipA)
/-- a def of the text that stands under its name -/
def Top (K : PySem.W.Frag) (mg : Str → Option Value) (x : Str) (st : Stmt) : Prop := ∃ f fd, Fun K x x st f fd ∧ mg x = some (.ref f)
section
variable {P : Program} {w : World} {K : PySem.W.Frag} {mg : Str → Option Value} {base : Heap}
theorem cal_of {x : Str} {st : Stmt} {N ps : List Str} {k : Nat} {sp : Sp} (D : Top K mg x st) (S : FnScope N ps (defScope st))
    (hb : ∀ (kV doc pm : Value) (an : Option Addr) (cdv ct : Value) (us : List Value), us.length = ps.length → bindArgs (PySem.W.fnOf x x (defArgs st) (defBody st) (defScope st) .none kV doc pm an cdv ct) ⟨us, []⟩ = pure (ps.zip us))
    (len : ∀ vs H Q E, sp vs H Q E → vs.length = ps.length)
    (body : ∀ (f : Addr) (cdv : Value) (A : Around) (outer : List Env) (s : Shared) (H : Hp) (vs : List V) (Q : VK) (E : XK), Room k (A.deeper (envOfC x (defScope st) s.heap.objs.size f cdv)) → sp vs H Q E →
      ∃ t, PSs (cxOf CX0 P w K mg base N x (defScope st) f cdv A outer s H E).nox (defBody st) t ∧ t { nx := fun _ H' => Q .non H', rt := Q } (start N vs) H) : Cal P w K mg base (k + 1) x sp [] := by
  obtain ⟨f, fd, F, hm⟩ := D
  exact ⟨f, fd, ps, [], F.ok S len fun cdv A outer s H vs Q E hr h => body f cdv A outer s H vs Q E hr h, hm, F.kp, F.binds hb, .nil⟩
end
theorem cal_mono {P : Program} {w : World} {K : PySem.W.Frag} {mg : Str → Option Value} {base : Heap} {k : Nat} {x : Str} {sp sp' : Sp} (c : Cal P w K mg base k x sp []) (h : ∀ vs H Q E, sp' vs H Q E → sp vs H Q E) : Cal P w K mg base k x sp' [] := by
  obtain ⟨f, fd, ps, ds, F, hm, kp, b, d⟩ := c.ex
  obtain ⟨F1, F2⟩ := F
  exact ⟨f, fd, ps, ds, ⟨fun vs H Q E q => F1 vs H Q E (h vs H Q E q), fun A outer s H args us vs Q E a1 a2 a3 a4 q => F2 A outer s H args us vs Q E a1 a2 a3 a4 (h vs H Q E q)⟩, hm, kp, b, d⟩
/-- laid over something new all stands -/
theorem same_new {H : Hp} {p : Addr} {o : HO} (h : H p = none) : Same H (upd H p o) := fun b u q => by
  rw [upd_ne (ne_of_none q h)]
  exact q
/-- what happens to a new object leaves the rest -/
theorem same_mut {H H' : Hp} {p : Addr} {o : HO} (g : Same H H') (h : H p = none) : Same H (upd H' p o) := fun b u q => by
  rw [upd_ne (ne_of_none q h)]
  exact g b u q
/-- what isinstance says -/
theorem is_int {K : PySem.W.Frag} : PySem.W.kitOne K (.type "int") (.type "int") = some true := kit_ty (by decide +kernel)
theorem is_int_bool {K : PySem.W.Frag} : PySem.W.kitOne K (.type "int") (.type "bool") = some false := kit_ty (by decide +kernel)
theorem is_tup_int {K : PySem.W.Frag} : PySem.W.kitOne K (.type "tuple") (.type "int") = some false := kit_ty (by decide +kernel)
theorem is_tup {K : PySem.W.Frag} : PySem.W.kitOne K (.type "tuple") (.type "tuple") = some true := kit_ty (by decide +kernel)
theorem is_int_tup {K : PySem.W.Frag} : PySem.W.kitOne K (.type "int") (.type "tuple") = some false := kit_ty (by decide +kernel)
theorem is_str {K : PySem.W.Frag} : PySem.W.kitOne K (.type "str") (.type "str") = some true := kit_ty (by decide +kernel)
theorem is_bool {K : PySem.W.Frag} : PySem.W.kitOne K (.type "bool") (.type "bool") = some true := kit_ty (by decide +kernel)
def isInt : V → Bool
  | .int _ => true
  | _ => false
def isStr : V → Bool
  | .str _ => true
  | _ => false
/-- isinstance(x, n) is b -/
def TyC (K : PySem.W.Frag) (H : Hp) (x : V) (n : String) (b : Bool) : Prop := ∃ t, TyX K H x t ∧ PySem.W.kitOne K t (.type n) = some b
/-- what the program's own look for an integer needs -/
def TyI (K : PySem.W.Frag) (H : Hp) (x : V) : Prop := ∃ b c, TyC K H x "int" b ∧ TyC K H x "bool" c ∧ (b && !c) = isInt x
section
variable {K : PySem.W.Frag} {H : Hp}
theorem tyc_int (i : Int) : TyC K H (.int i) "int" true := ⟨_, .base (.int i), kit_ty (by decide +kernel)⟩
theorem tyi_int (i : Int) : TyI K H (.int i) := ⟨true, false, ⟨_, .base (.int i), kit_ty (by decide +kernel)⟩, ⟨_, .base (.int i), kit_ty (by decide +kernel)⟩, rfl⟩
theorem tyi_tup {a : Addr} {xs : List V} (h : H a = some (.tup xs)) : TyI K H (.ref a) := ⟨false, false, ⟨_, .base (.tup h), kit_ty (by decide +kernel)⟩, ⟨_, .base (.tup h), kit_ty (by decide +kernel)⟩, rfl⟩
theorem tyi_str (z : Str) : TyI K H (.str z) := ⟨false, false, ⟨_, .base (.str z), kit_ty (by decide +kernel)⟩, ⟨_, .base (.str z), kit_ty (by decide +kernel)⟩, rfl⟩
theorem tyc_tup {a : Addr} {xs : List V} (h : H a = some (.tup xs)) : TyC K H (.ref a) "tuple" true := ⟨_, .base (.tup h), kit_ty (by decide +kernel)⟩
theorem tyc_int_tup (i : Int) : TyC K H (.int i) "tuple" false := ⟨_, .base (.int i), kit_ty (by decide +kernel)⟩
theorem tyc_str (z : Str) : TyC K H (.str z) "str" true := ⟨_, .base (.str z), kit_ty (by decide +kernel)⟩
theorem tyc_bl (b : Bool) : TyC K H (.bl b) "bool" true := ⟨_, .base (.bl b), kit_ty (by decide +kernel)⟩
end
/-- a text of 1 to most letters a to z -/
def letB (z : Str) (most : Int) : Bool := decide (1 ≤ (z.length : Int)) && decide ((z.length : Int) ≤ most) && z.cps.toList.all (fun c => decide (97 ≤ c) && decide (c ≤ 122))
def letV (x : V) (most : Int) : Bool := match x with | .str z => letB z most | _ => false
def within (x : V) (lo hi : Int) : Bool := match x with | .int n => decide (lo ≤ n) && decide (n ≤ hi) | _ => false
theorem sign_lt (c d : Nat) : decide (([c] : List Nat) < [d]) = decide (c < d) := by
  by_cases h : c < d
  · rw [decide_eq_true h]
    exact decide_eq_true (List.Lex.rel h)
  · rw [decide_eq_false h]
    refine decide_eq_false fun q => ?_
    cases q with
    | rel r => exact h r
    | cons r => cases r
/-! ### boards -/
/-- a board: its name, the side, the row that was played -/
abbrev Bd := Str × Int × List Str
def BoardAt (H : Hp) (v : V) (b : Bd) : Prop := ∃ a r, v = .ref a ∧ H a = some (.tup [.str b.1, .int b.2.1, .ref r]) ∧ H r = some (.tup (b.2.2.map V.str))
def BoardsAt (H : Hp) (a : Addr) (bs : List Bd) : Prop := ∃ xs, H a = some (.tup xs) ∧ Paired (BoardAt H) xs bs
def rowB (ws : List Str) (most : Int) : Bool := decide ((ws.length : Int) ≤ most) && ws.all (fun z => letB z 20)
def boardB (b : Bd) : Bool := letB b.1 8 && (within (.int b.2.1) 0 1 && rowB b.2.2 20)
/-- nothing here is too long for the model -/
def smallBd (b : Bd) : Prop := b.1.length ≤ 1000 ∧ b.2.2.length ≤ 1000 ∧ ∀ z ∈ b.2.2, z.length ≤ 1000
theorem BoardAt.mono {H H' : Hp} (k : ∀ a xs, H a = some (.tup xs) → H' a = some (.tup xs)) {v : V} {b : Bd} (h : BoardAt H v b) : BoardAt H' v b := by
  obtain ⟨a, r, e, h1, h2⟩ := h
  exact ⟨a, r, e, k _ _ h1, k _ _ h2⟩
theorem paired_mono {α β : Type} {R S : α → β → Prop} (h : ∀ a b, R a b → S a b) : ∀ {xs : List α} {ys : List β}, Paired R xs ys → Paired S xs ys
  | _, _, .nil => .nil
  | _, _, .cons r t => .cons (h _ _ r) (paired_mono h t)
theorem paired_at {α β : Type} {R : α → β → Prop} : ∀ {xs : List α} {ys : List β}, Paired R xs ys → ∀ (i : Nat) (x : α), xs[i]? = some x → ∃ y, ys[i]? = some y ∧ R x y
  | _, _, .nil, i, x, h => by simp at h
  | _, _, .cons r t, 0, x, h => by
    simp at h
    subst h
    exact ⟨_, rfl, r⟩
  | _, _, .cons r t, i + 1, x, h => by
    obtain ⟨y, h1, h2⟩ := paired_at t i x (by simpa using h)
    exact ⟨y, by simpa using h1, h2⟩
theorem paired_len {α β : Type} {R : α → β → Prop} : ∀ {xs : List α} {ys : List β}, Paired R xs ys → xs.length = ys.length
  | _, _, .nil => rfl
  | _, _, .cons _ t => by rw [List.length_cons, List.length_cons, paired_len t]
theorem BoardsAt.mono {H H' : Hp} (k : ∀ a xs, H a = some (.tup xs) → H' a = some (.tup xs)) {a : Addr} {bs : List Bd} (h : BoardsAt H a bs) : BoardsAt H' a bs := by
  obtain ⟨xs, h1, h2⟩ := h
  exact ⟨xs, k _ _ h1, paired_mono (fun _ _ => BoardAt.mono k) h2⟩
theorem same_tups {H H' : Hp} (g : Same H H') : ∀ a xs, H a = some (.tup xs) → H' a = some (.tup xs) := fun a xs h => g a _ h
/-! ### texts gathered -/
theorem take_one {α : Type} {l : List α} {i : Nat} {x : α} (h : l[i]? = some x) : l.take (i + 1) = l.take i ++ [x] := by
  rw [List.take_add_one, h]
  rfl
/-- the program's own word for the names: each once, ascending -/
structure Names (xs ys : List Str) : Prop where
  up : PyProof.Rows.sortedS ys = true
  nd : ys.Nodup
  mem : ∀ x, x ∈ ys ↔ x ∈ xs
/-- a hall stands at p, with these boards -/
def HallAt (K : PySem.W.Frag) (H : Hp) (p : Addr) (bs : List Bd) : Prop := ∃ C dx fs a n ys, Cls K C ∧ NoAttr K C "boards" ∧ NoAttr K C "names" ∧ H p = some (.ins C dx fs) ∧ fs.lookup ("boards" : Str) = some (.ref a) ∧ fs.lookup ("names" : Str) = some (.ref n) ∧
  BoardsAt H a bs ∧ H n = some (.tup (ys.map V.str)) ∧ Names (bs.map (·.1)) ys
/-- all that is no list stands -/
def Keep (H H' : Hp) : Prop := ∀ b o, H b = some o → (∀ xs, o ≠ .lst xs) → H' b = some o
theorem same_keep {H H' : Hp} (g : Same H H') : Keep H H' := fun b o h _ => g b o h
theorem Keep.refl (H : Hp) : Keep H H := fun _ _ h _ => h
theorem Keep.trans {H H1 H2 : Hp} (a : Keep H H1) (b : Keep H1 H2) : Keep H H2 := fun c o h n => b c o (a c o h n) n
theorem Keep.tups {H H' : Hp} (g : Keep H H') : ∀ a xs, H a = some (.tup xs) → H' a = some (.tup xs) := fun a xs h => g a _ h fun _ e => nomatch e
theorem HallAt.mono {K : PySem.W.Frag} {H H' : Hp} (g : Keep H H') {p : Addr} {bs : List Bd} (h : HallAt K H p bs) : HallAt K H' p bs := by
  obtain ⟨C, dx, fs, a, n, ys, h1, h2, h3, h4, h5, h6, h7, h8, h9⟩ := h
  exact ⟨C, dx, fs, a, n, ys, h1, h2, h3, g _ _ h4 (fun _ e => nomatch e), h5, h6, h7.mono g.tups, g.tups _ _ h8, h9⟩
theorem nb_ne : ¬ (("boards" : Str) = "names") := by decide +kernel
/-! ### zip of two tuples of any lengths -/
theorem walk_zipT {K : PySem.W.Frag} {a b : Addr} {xs ys : List V} {n : Nat} (hn : n = min xs.length ys.length) : Walk (ItzT K a b) n (fun H => SqT K H a xs ∧ SqT K H b ys) (YPair (fun i => xs[i]?) (fun i => ys[i]?)) := by
  subst hn
  refine ⟨fun i _ hi q => ?_, fun _ q => ⟨xs, ys, q.1, q.2, by omega⟩, fun i H v H' _ q y => ?_⟩
  · have h1 : i < xs.length := by omega
    have h2 : i < ys.length := by omega
    exact ⟨xs, ys, xs[i], ys[i], q.1, q.2, by simp [h1], by simp [h2]⟩
  · obtain ⟨T, x, z, h1, h2, h3, h4, h5⟩ := y
    exact ⟨T, x, z, h1, h2, h3, h4 xs q.1, h5 ys q.2⟩
/-- the ints rise, each pair of neighbours looked at -/
def ascB (ns : List Int) : Bool := (ns.zip (ns.drop 1)).all fun p => decide (p.1 < p.2)
theorem ascB_of {ns : List Int} (h : ns.Pairwise (· < ·)) : ascB ns = true := by
  unfold ascB
  rw [List.all_eq_true]
  intro p hp
  refine decide_eq_true ?_
  induction ns with
  | nil => simp at hp
  | cons a r ih =>
    obtain ⟨h1, h2⟩ := List.pairwise_cons.mp h
    cases r with
    | nil => simp at hp
    | cons b r =>
      rw [List.drop_one, List.tail_cons] at hp
      rcases List.mem_cons.mp (by simpa using hp) with e | e
      · subst e
        exact h1 b List.mem_cons_self
      · refine ih h2 ?_
        rw [List.drop_one, List.tail_cons]
        exact e
theorem map_at {α β : Type} {f : α → β} {l : List α} {i : Nat} {y : β} (h : (l.map f)[i]? = some y) : ∃ x, l[i]? = some x ∧ y = f x := by
  rw [List.getElem?_map] at h
  cases e : l[i]? with
  | none =>
    rw [e] at h
    cases h
  | some x =>
    rw [e] at h
    exact ⟨x, rfl, (Option.some.inj h).symm⟩
/-- a def that nobody can ask anything of -/
theorem cal_void {P : Program} {w : World} {K : PySem.W.Frag} {mg : Str → Option Value} {base : Heap} {x : Str} {st : Stmt} {ps : List Str} {k : Nat} {sp : Sp} (D : Top K mg x st)
    (hb : ∀ (kV doc pm : Value) (an : Option Addr) (cdv ct : Value) (us : List Value), us.length = ps.length → PySem.bindArgs (PySem.W.fnOf x x (defArgs st) (defBody st) (defScope st) .none kV doc pm an cdv ct) ⟨us, []⟩ = pure (ps.zip us))
    (no : ∀ vs H Q E, ¬ sp vs H Q E) : Cal P w K mg base k x sp [] := by
  obtain ⟨f, fd, F, hm⟩ := D
  exact ⟨f, fd, ps, [], ⟨fun vs H Q E h => absurd h (no vs H Q E), fun A outer s H args us vs Q E _ _ _ _ h => absurd h (no vs H Q E)⟩, hm, F.kp, F.binds hb, .nil⟩
/-! ### aims -/
inductive AKind where
  | all | some | least (k : Int)
def AKind.head : AKind → List V
  | .all => [.str "all"]
  | .some => [.str "some"]
  | .least k => [.str "least", .int k]
def AKind.ok : AKind → Prop
  | .least k => 0 ≤ k ∧ k ≤ 25
  | _ => True
def AKind.val : AKind → List Bool → Bool
  | .all, bs => bs.all id
  | .some, bs => bs.any id
  | .least k, bs => decide (k ≤ (bs.count true : Nat))
def AKind.need : AKind → Nat → Int
  | .all, n => n
  | .some, _ => 1
  | .least k, _ => k
/-- what an aim says of the boards that are won -/
abbrev ASem := (Int → Bool) → Bool
/-- at v stands an aim of boards below many, at most d deep, of s aims, that says φ -/
def AimV (H : Hp) (many : Int) : Nat → V → Nat → ASem → Prop
  | 0, _, _, _ => False
  | d + 1, v, s, φ => (∃ n : Int, v = .int n ∧ 0 ≤ n ∧ n < many ∧ s = 1 ∧ φ = fun w => w n) ∨
    (∃ (a p : Addr) (xs : List V) (kd : AKind) (ys : List (Nat × ASem)), v = .ref a ∧ H a = some (.tup (kd.head ++ [.ref p])) ∧ H p = some (.tup xs) ∧ kd.ok ∧ xs.length ≤ 24 ∧ Paired (fun x y => AimV H many d x y.1 y.2) xs ys ∧
      s = 1 + (ys.map (·.1)).sum ∧ φ = fun w => kd.val (ys.map fun y => y.2 w))
theorem AimV.mono {H H' : Hp} {many : Int} (k : ∀ a xs, H a = some (.tup xs) → H' a = some (.tup xs)) : ∀ {d : Nat} {v : V} {s : Nat} {φ : ASem}, AimV H many d v s φ → AimV H' many d v s φ
  | 0, _, _, _, h => h.elim
  | d + 1, v, s, φ, h => by
    rcases h with h | ⟨a, p, xs, kd, ys, h1, h2, h3, h4, h5, h6, h7, h8⟩
    · exact .inl h
    · exact .inr ⟨a, p, xs, kd, ys, h1, k _ _ h2, k _ _ h3, h4, h5, paired_mono (fun _ _ h => AimV.mono k h) h6, h7, h8⟩
theorem AimV.deeper {H : Hp} {many : Int} : ∀ {d e : Nat} {v : V} {s : Nat} {φ : ASem}, d ≤ e → AimV H many d v s φ → AimV H many e v s φ
  | 0, _, _, _, _, _, h => h.elim
  | d + 1, 0, _, _, _, l, _ => absurd l (Nat.not_succ_le_zero d)
  | d + 1, e + 1, v, s, φ, l, h => by
    rcases h with h | ⟨a, p, xs, kd, ys, h1, h2, h3, h4, h5, h6, h7, h8⟩
    · exact .inl h
    · exact .inr ⟨a, p, xs, kd, ys, h1, h2, h3, h4, h5, paired_mono (fun _ _ h => AimV.deeper (Nat.le_of_succ_le_succ l) h) h6, h7, h8⟩
theorem AimV.pos {H : Hp} {many : Int} : ∀ {d : Nat} {v : V} {s : Nat} {φ : ASem}, AimV H many d v s φ → 1 ≤ s
  | 0, _, _, _, h => h.elim
  | d + 1, v, s, φ, h => by
    rcases h with ⟨n, _, _, _, e, _⟩ | ⟨a, p, xs, kd, ys, h1, h2, h3, h4, h5, h6, h7, h8⟩ <;> omega
theorem head_len (kd : AKind) : (kd.head ++ [V.ref p]).length = 2 ∨ (kd.head ++ [V.ref p]).length = 3 := by
  cases kd
  · exact .inl rfl
  · exact .inl rfl
  · exact .inr rfl
def b2 (b : Bool) : Int := if b then 1 else 0
theorem iteP {c A B : Prop} [Decidable c] (hc : c) (h : A) : if c then A else B := by
  rw [if_pos hc]
  exact h
theorem iteN {c A B : Prop} [Decidable c] (hc : ¬ c) (h : B) : if c then A else B := by
  rw [if_neg hc]
  exact h
theorem nt {b : Bool} (h : b = false) : ¬ b = true := by rw [h]; exact Bool.false_ne_true
theorem l2 : 2 ≤ PySem.sizeLine := by decide
theorem sum_take_le : ∀ (l : List Nat) (i : Nat), (l.take i).sum ≤ l.sum
  | [], i => by simp
  | x :: l, 0 => by simp
  | x :: l, i + 1 => by
    have := sum_take_le l i
    simp only [List.take_succ_cons, List.sum_cons]
    omega
theorem sum_take_one {l : List Nat} {i x : Nat} (h : l[i]? = some x) : (l.take (i + 1)).sum = (l.take i).sum + x := by
  rw [take_one h, List.sum_append]
  simp
theorem int_ne {i j : Int} (h : i ≠ j) : decide (V.int i = V.int j) = false := decide_eq_false fun e => h (V.int.inj e)
theorem int_eq {i j : Int} (h : i = j) : decide (V.int i = V.int j) = true := decide_eq_true (congrArg V.int h)
/-! ### the tape from which a law draws -/
def TapeAt (H : Hp) (tp l : Addr) : Prop := ∃ (ns : List Int) (i c m n : Int), H tp = some (.lst [.ref l, .int i, .int c, .int m, .int n]) ∧ H l = some (.lst (ns.map V.int)) ∧ 0 ≤ i
/-- all but the tape stands -/
def Mov (tp : Addr) (H H' : Hp) : Prop := ∀ b o, H b = some o → b ≠ tp → H' b = some o
theorem Mov.refl (tp : Addr) (H : Hp) : Mov tp H H := fun _ _ h _ => h
theorem Mov.trans {tp : Addr} {H H1 H2 : Hp} (a : Mov tp H H1) (b : Mov tp H1 H2) : Mov tp H H2 := fun c o h n => b c o (a c o h n) n
theorem mov_same {tp : Addr} {H H' : Hp} (g : Same H H') : Mov tp H H' := fun b o h _ => g b o h
theorem mov_upd {tp : Addr} {H : Hp} {o : HO} : Mov tp H (upd H tp o) := fun b u h n => by
  rw [upd_ne n]
  exact h
theorem mov_mut {tp : Addr} {H H' : Hp} {p : Addr} {o : HO} (g : Mov tp H H') (h : H p = none) : Mov tp H (upd H' p o) := fun b u q n => by
  rw [upd_ne (ne_of_none q h)]
  exact g b u q n
theorem TapeAt.keep {H H' : Hp} {tp l : Addr} (t : TapeAt H tp l) (m : Mov tp H H') : Keep H H' := fun b o h n => m b o h fun e => by
  obtain ⟨ns, i, c, k, j, h1, _⟩ := t
  rw [e, h1] at h
  exact n _ (Option.some.inj h).symm
theorem TapeAt.same {H H' : Hp} {tp l : Addr} (t : TapeAt H tp l) (g : Same H H') : TapeAt H' tp l := by
  obtain ⟨ns, i, c, k, j, h1, h2, h3⟩ := t
  exact ⟨ns, i, c, k, j, g _ _ h1, g _ _ h2, h3⟩
theorem TapeAt.new {H : Hp} {tp l p : Addr} (t : TapeAt H tp l) (h : H p = none) : p ≠ tp ∧ p ≠ l := by
  obtain ⟨ns, i, c, k, j, h1, h2, h3⟩ := t
  exact ⟨(ne_of_none h1 h).symm, (ne_of_none h2 h).symm⟩
theorem TapeAt.upd {H : Hp} {tp l p : Addr} {o : HO} (t : TapeAt H tp l) (n : p ≠ tp ∧ p ≠ l) : TapeAt (L2.upd H p o) tp l := by
  obtain ⟨ns, i, c, k, j, h1, h2, h3⟩ := t
  exact ⟨ns, i, c, k, j, by rw [upd_ne n.1.symm]; exact h1, by rw [upd_ne n.2.symm]; exact h2, h3⟩
theorem keep_lst {H : Hp} {p : Addr} {xs ys : List V} (h : H p = some (.lst xs)) : Keep H (upd H p (.lst ys)) := fun b o hb n => by
  rw [upd_ne (fun e => by rw [e, h] at hb; exact n _ (Option.some.inj hb).symm)]
  exact hb
theorem paired_snoc {α β : Type} {R : α → β → Prop} : ∀ {xs : List α} {ys : List β} {x : α} {y : β}, Paired R xs ys → R x y → Paired R (xs ++ [x]) (ys ++ [y])
  | _, _, _, _, .nil, h => .cons h .nil
  | _, _, _, _, .cons r t, h => .cons r (paired_snoc t h)
theorem sum_bound {B : Nat} : ∀ (l : List Nat), (∀ x ∈ l, x ≤ B) → l.sum ≤ B * l.length
  | [], _ => by simp
  | x :: l, h => by
    have h1 := h x List.mem_cons_self
    have h2 := sum_bound l fun y hy => h y (List.mem_cons_of_mem _ hy)
    rw [List.sum_cons, List.length_cons, Nat.mul_succ]
    omega
theorem tape_ne {H : Hp} {tp l : Addr} {ns : List Int} {i c m n : Int} (h1 : H tp = some (.lst [.ref l, .int i, .int c, .int m, .int n])) (h2 : H l = some (.lst (ns.map V.int))) : l ≠ tp := fun e => by
  rw [e, h1] at h2
  cases ns with
  | nil => cases h2
  | cons a r => cases h2
theorem at_getD {L : List Int} {k : Nat} (h : k < L.length) : atI (L.map V.int) (k : Int) = some (V.int (L.getD k 0)) := by
  refine atI_nat ?_
  rw [List.getElem?_map, List.getD_eq_getElem?_getD, List.getElem?_eq_getElem h]
  rfl
theorem ixN_nat {n k : Nat} (h : k < n) : ixN n (k : Int) = some k := by
  unfold ixN
  rw [if_pos (by omega), if_pos (by omega)]
  rfl
theorem in_ints (n : Int) : ∀ ns : List Int, inV (.int n) (ns.map V.int) = decide (n ∈ ns)
  | [] => rfl
  | m :: ns => by
    have ih := in_ints n ns
    unfold inV at ih ⊢
    rw [List.map_cons, List.any_cons, ih]
    have e : eqV (V.int m) (V.int n) = decide (m = n) := by
      show (m == n) = decide (m = n)
      by_cases h : m = n
      · rw [decide_eq_true h, h]
        exact beq_self_eq_true n
      · rw [decide_eq_false h]
        exact beq_eq_false_iff_ne.mpr h
    rw [e]
    by_cases h : m = n
    · subst h
      simp
    · have h' : ¬ n = m := fun z => h z.symm
      simp [h, h']
theorem flat_ints (ns : List Int) : (ns.map V.int).all flatV = true := by
  rw [List.all_map]
  exact List.all_eq_true.mpr fun _ _ => rfl
end Nm
namespace NmD
open PySem PySem.Spec PyProof.Rows L2 PySem.W PySem.SeqAt
mutual
/-- no list and no dict in it -/
def pureD : PyData → Bool
  | .none => true
  | .bool _ => true
  | .int _ => true
  | .str _ => true
  | .list _ => false
  | .tuple xs => pureAll xs
  | .dict _ => false
def pureAll : List PyData → Bool
  | [] => true
  | x :: xs => pureD x && pureAll xs
end
def Tups (h h' : Heap) : Prop := ∀ b o, h.get? b = some o → o.cls = .type "tuple" → h'.get? b = some o
mutual
theorem reads_keep {h h' : Heap} (kp : Tups h h') : ∀ (d : PyData) (v : Value) (as : List Addr), pureD d = true → Reads h v d as → ∃ bs, Reads h' v d bs
  | .none, _, _, _, r => by
    cases r
    exact ⟨_, .none⟩
  | .bool b, _, _, _, r => by
    cases r
    exact ⟨_, .bool b⟩
  | .int i, _, _, _, r => by
    cases r
    exact ⟨_, .int i _⟩
  | .str x, _, _, _, r => by
    cases r
    exact ⟨_, .str x _⟩
  | .list xs, _, _, p, _ => by
    unfold pureD at p
    cases p
  | .dict xs, _, _, p, _ => by
    unfold pureD at p
    cases p
  | .tuple xs, _, _, p, r => by
    cases r with
    | tuple h1 h2 h3 h4 =>
      obtain ⟨bs, q⟩ := reads_keepA kp xs _ _ (by unfold pureD at p; exact p) h4
      exact ⟨bs, .tuple (kp _ _ h1 h2) h2 h3 q⟩
theorem reads_keepA {h h' : Heap} (kp : Tups h h') : ∀ (ds : List PyData) (vs : List Value) (as : List Addr), pureAll ds = true → ReadsAll h vs ds as → ∃ bs, ReadsAll h' vs ds bs
  | [], _, _, _, r => by
    cases r
    exact ⟨_, .nil⟩
  | d :: ds, _, _, p, r => by
    cases r with
    | cons r1 r2 =>
      unfold pureAll at p
      rw [Bool.and_eq_true] at p
      obtain ⟨b1, q1⟩ := reads_keep kp d _ _ p.1 r1
      obtain ⟨b2, q2⟩ := reads_keepA kp ds _ _ p.2 r2
      exact ⟨_, .cons q1 q2⟩
end
/-- the first item of each -/
def Firsts (h : Heap) : List Value → List (Option Value) → Prop
  | [], [] => True
  | v :: vs, f :: fs => (∃ a o xs n, v = .ref a ∧ h.get? a = some o ∧ o.cls = .type "tuple" ∧ o.data = .seq xs n ∧ xs[0]? = f) ∧ Firsts h vs fs
  | _, _ => False
section
variable {M : Model} {A : Around} {E : Value → Shared → Prop} {s : Shared}
theorem firsts_run : ∀ (vs : List Value) (fs : List (Option Value)) {Q : List (Option Value) → Shared → Prop}, Firsts s.heap vs fs → Q fs s → wpAny M A (vs.mapM firstOfTuple') Q E s
  | [], [], _, _, h => by rw [List.mapM_nil]; exact wpAny_pure h
  | [], _ :: _, _, t, _ => t.elim
  | _ :: _, [], _, t, _ => t.elim
  | v :: vs, f :: fs, Q, t, h => by
    obtain ⟨⟨a, o, xs, n, rfl, ho, hc, hd, hf⟩, t⟩ := t
    rw [List.mapM_cons]
    refine wpAny_bind ?_
    rw [kas_first_eq]
    refine wpAny_bind (Looks.here (show Looks M s.heap (typeOf (.ref a)) o.cls from (Looks.ld ho).andThen .now) ?_)
    rw [hc, if_neg (by first | decide | simp)]
    refine wpAny_bind (listItems_at ho hd (wpAny_pure ?_))
    rw [hf]
    exact wpAny_bind (firsts_run vs fs (Q := fun bs s' => wpAny M A (pure (f :: bs)) Q E s') t (wpAny_pure h))
theorem firsts_typ : ∀ {vs : List Value} {fs : List (Option Value)}, Firsts s.heap vs fs → ∀ v ∈ vs, Looks M s.heap (typeOf v) (.type "tuple")
  | [], _, _, v, hv => absurd hv (List.not_mem_nil)
  | _ :: _, [], t, _, _ => t.elim
  | u :: us, f :: fs, t, v, hv => by
    obtain ⟨⟨a, o, xs, n, rfl, ho, hc, hd, hf⟩, t⟩ := t
    rcases List.mem_cons.mp hv with rfl | hv
    · have L : Looks M s.heap (typeOf (.ref a)) o.cls := (Looks.ld ho).andThen .now
      rw [hc] at L
      exact L
    · exact firsts_typ t v hv
/-- an empty one among them -/
theorem kind_mix {vs : List Value} {fs : List (Option Value)} {Q : SortKind → Shared → Prop} (t : Firsts s.heap vs fs) (hn : (fs.toArray.all fun x => x.isSome) = false) (h : ∀ κ, κ = general' ∨ κ = oneType' → Q κ s) :
    wpAny M A (keyKind' vs.toArray) Q E s := by
  rw [kat_kind_eq, List.mapM_toArray, map_eq_pure_bind]
  refine wpAny_bind (wpAny_bind (firsts_run vs _ t (wpAny_pure ?_)))
  rw [if_neg (by rw [hn]; exact Bool.false_ne_true)]
  refine wpAny_ite ?_
  split
  · exact wpAny_pure (h _ (.inl rfl))
  · rw [oneTypeOnly'_eq, List.mapM_toArray, map_eq_pure_bind]
    refine wpAny_bind (wpAny_bind (wpAny_bind (kas_mapM (r := Value.type "tuple") _ (fun v hv Q' hq => (firsts_typ t v hv).here hq) (wpAny_pure ?_))))
    split
    · split
      · exact wpAny_pure (wpAny_pure (h _ (.inr rfl)))
      · exact wpAny_pure (wpAny_pure (h _ (.inl rfl)))
    · exact wpAny_pure (wpAny_pure (h _ (.inl rfl)))
theorem kat_of : ∀ {vs : List Value} {fs : List (Option Value)}, Firsts s.heap vs fs → (fs.toArray.all fun x => x.isSome) = true → ∃ gs, fs = gs.map some ∧ KatTups s.heap vs gs
  | [], [], _, _ => ⟨[], rfl, KatTups.nil⟩
  | [], _ :: _, t, _ => t.elim
  | _ :: _, [], t, _ => t.elim
  | v :: vs, f :: fs, t, e => by
    obtain ⟨⟨a, o, xs, n, rfl, ho, hc, hd, hf⟩, t⟩ := t
    have e' : f.isSome = true ∧ (fs.all fun x => x.isSome) = true := by simpa using e
    obtain ⟨gs, rfl, kt⟩ := kat_of t (by simpa using e'.2)
    obtain ⟨g, rfl⟩ := Option.isSome_iff_exists.mp e'.1
    exact ⟨g :: gs, rfl, ⟨a, o, xs, n, rfl, ho, hc, hd, hf⟩, kt⟩
end
def tyD : PyData → String
  | .int _ => "int"
  | .str _ => "str"
  | .tuple _ => "tuple"
  | .bool _ => "bool"
  | .none => "NoneType"
  | .list _ => "list"
  | .dict _ => "dict"
section
variable {prog : Program} {w : World} {A : Around} {E : Value → Shared → Prop} {s : Shared}
theorem look_ty {M : Model} {h : Heap} {z : PyData} {v : Value} {as : List Addr} (p : pureD z = true) (r : Reads h v z as) : Looks M h (typeOf v) (.type (tyD z)) := by
  cases r with
  | none => exact Looks.now
  | bool b => exact Looks.now
  | int i t => exact Looks.now
  | str x t => exact Looks.now
  | list _ _ _ _ =>
    unfold pureD at p
    cases p
  | dict _ _ _ _ _ =>
    unfold pureD at p
    cases p
  | @tuple a o vs n xs as h1 h2 h3 h4 =>
    have L : Looks M h (typeOf (.ref a)) o.cls := (Looks.ld h1).andThen .now
    rw [h2] at L
    exact L
theorem alike_ty {x y : PyData} (h : alike x y = true) : tyD x = tyD y := by
  cases x <;> cases y <;> first | rfl | exact absurd h (by simp [alike])
/-- what is known of the items: tuples, as k tells, of such data, any two of them alike -/
structure Rows (h : Heap) (vs : List Value) (k : Value → List PyData) : Prop where
  rd : ∀ v ∈ vs, ∃ as, Reads h v (.tuple (k v)) as
  pu : ∀ v ∈ vs, pureAll (k v) = true
  al : ∀ v ∈ vs, ∀ u ∈ vs, alikeAll (k v) (k u) = true
  dp : ∀ v ∈ vs, PyData.depthAll (k v) ≤ 40
abbrev ltD (k : Value → List PyData) (v u : Value) : Bool := PyProof.Rows.lexLt itemOrd (keyToksAll (k v)) (keyToksAll (k u))
theorem ltD_swo (k : Value → List PyData) : SrtO.Swo (ltD k) := by
  refine ⟨fun x y h => ?_, fun x y z h1 h2 => ?_⟩
  · cases e : ltD k y x with
    | false => rfl
    | true =>
      have z := (listOrd itemOrd).trans _ _ _ h e
      rw [(listOrd itemOrd).irrefl] at z
      cases z
  · cases e : ltD k z x with
    | false => rfl
    | true =>
      rcases (listOrd itemOrd).negTrans _ (keyToksAll (k y)) _ e with q | q
      · rw [show ltD k z y = true from q] at h2
        cases h2
      · rw [show ltD k y x = true from q] at h1
        cases h1
theorem Rows.keep {h h' : Heap} {vs : List Value} {k : Value → List PyData} (R : Rows h vs k) (kp : Tups h h') : Rows h' vs k :=
  ⟨fun v hv => by
    obtain ⟨as, r⟩ := R.rd v hv
    exact reads_keep kp _ _ _ (by unfold pureD; exact R.pu v hv) r, R.pu, R.al, R.dp⟩
theorem rows_firsts {h : Heap} : ∀ {vs : List Value} {k : Value → List PyData}, Rows h vs k → ∃ fs, Firsts h vs fs ∧ ∀ f ∈ fs, ∀ g, f = some g → ∃ v ∈ vs, ∃ z r as, k v = z :: r ∧ Reads h g z as
  | [], _, _ => ⟨[], trivial, fun f hf => absurd hf (List.not_mem_nil)⟩
  | v :: vs, k, R => by
    obtain ⟨fs, t, q⟩ := rows_firsts (vs := vs) (k := k) ⟨fun u hu => R.rd u (List.mem_cons_of_mem _ hu), fun u hu => R.pu u (List.mem_cons_of_mem _ hu), fun u hu x hx => R.al u (List.mem_cons_of_mem _ hu) x (List.mem_cons_of_mem _ hx), fun u hu => R.dp u (List.mem_cons_of_mem _ hu)⟩
    obtain ⟨as, r⟩ := R.rd v List.mem_cons_self
    generalize hd : k v = d at r
    cases r with
    | @tuple a o xs n ds as h1 h2 h3 h4 =>
      refine ⟨xs[0]? :: fs, ⟨⟨a, o, xs, n, rfl, h1, h2, h3, rfl⟩, t⟩, fun f hf g e => ?_⟩
      rcases List.mem_cons.mp hf with rfl | hf
      · obtain ⟨xl⟩ := xs
        cases h4 with
        | nil => simp at e
        | @cons v0 vs0 d0 ds0 a0 b0 r1 r2 =>
          have e' : v0 = g := by simpa using e
          subst e'
          exact ⟨.ref a, List.mem_cons_self, _, _, _, hd, r1⟩
      · obtain ⟨u, hu, z⟩ := q f hf g e
        exact ⟨u, List.mem_cons_of_mem _ hu, z⟩
theorem call_tuple_lt {Q : Value → Shared → Prop} {l b : Addr} {items items2 : Array Value} {e r : Nat → Bool} (hl : s.heap.IsTuple l items) (hb : s.heap.IsTuple b items2)
    (he : ∀ j (h1 : j < items.size) (h2 : j < items2.size), EqAt A.in1 s items[j] items2[j] (e j)) (hr : ∀ j (h1 : j < items.size) (h2 : j < items2.size), e j = false → RcLt A.in1 s items[j] items2[j] (r j))
    (h : Q (.bool (firstLt e r (decide (items.size < items2.size)) (List.range (min items.size items2.size)))) s) : wpAny (model prog w) A (call (.builtin "tuple.__lt__") [.ref l, .ref b]) Q E s := by
  obtain ⟨⟨cls, dd, data, sl⟩, ho, hc, n, hd⟩ := id hl
  obtain ⟨⟨cls2, dd2, data2, sl2⟩, ho2, hc2, n2, hd2⟩ := id hb
  simp only at hc hd hc2 hd2
  subst hc hd hc2 hd2
  exact call_meets F.slot_tuple_lt ⟨_, ho, rfl⟩ F.entry_tuple_lt (F.args_tuple_lt_2 _ _) (PySem.SeqAt.tuple_ltAt l b items items2 n n2 dd dd2 sl sl2 e r) ⟨ho, ho2, he, hr, h⟩
theorem one_tup {xs ys : List PyData} {a b : Value} {as bs : List Addr} {Q : Bool → Shared → Prop} (f : Bool) (ra : Reads s.heap a (.tuple xs) as) (rb : Reads s.heap b (.tuple ys) bs) (hal : alikeAll xs ys = true)
    (hu : A.units + min (PyData.tuple xs).depth (PyData.tuple ys).depth < cLine) (hq : Q (PyProof.Rows.lexLt itemOrd (keyToksAll xs) (keyToksAll ys)) s) : wpAny (model prog w) A (oneLt' f a b) Q E s := by
  cases f with
  | false => exact oneLt_alike (fun z => absurd z Bool.false_ne_true) ra rb (by simpa [alike] using hal) (fun z => nomatch z) hu (by rw [dataLt_tuple]; exact hq)
  | true =>
    cases ra with
    | @tuple l o vs n _ as₁ h1 h2 h3 h4 =>
      cases rb with
      | @tuple l' o' vs' n' _ bs₁ k1 k2 k3 k4 =>
        have n1 : vs.size = xs.length := by simpa using ReadsAll.length _ _ _ h4
        have n2 : vs'.size = ys.length := by simpa using ReadsAll.length _ _ _ k4
        rw [← firstLt_toks xs ys hal, ← n1, ← n2] at hq
        rw [oneLt'_eq]
        simp only [if_true]
        refine wpAny_bind (wpAny_cRoomFor (room_here hu) ?_)
        refine wpAny_bind (wpAny_callSpecialIfBound?_slot (T := "tuple") ⟨_, h1, h2⟩ F.slot_tuple_lt (call_tuple_lt (e := pairEq xs ys) (r := fun j => dataLt (xs.getD j .none) (ys.getD j .none)) ⟨_, h1, h2, _, h3⟩ ⟨_, k1, k2, _, k3⟩ (fun j j1 j2 => ?_) (fun j j1 j2 hj => ?_) ?_))
        · have := eqAt_alikeAll xs ys A.in1 s vs.toList vs'.toList _ _ h4 k4 hal (room_in hu) j (by simpa using j1) (by simpa using j2)
          simpa using this
        · have := rcLt_alikeAll xs ys A.in1 s vs.toList vs'.toList _ _ h4 k4 hal (room_in hu) j (by simpa using j1) (by simpa using j2) hj
          simpa using this
        · exact wpAny_truthy_bool hq
theorem dep (xs ys : List PyData) (h : PyData.depthAll xs ≤ 40) : min (PyData.tuple xs).depth (PyData.tuple ys).depth ≤ 41 := by
  have e : (PyData.tuple xs).depth = PyData.depthAll xs + 1 := by first | rfl | simp [PyData.depth]
  omega
theorem cmp_rows {vs : List Value} {k : Value → List PyData} {κ : SortKind} (R : Rows s.heap vs k) (hu : A.units + 64 < cLine) (hk : κ = general' ∨ κ = oneType' ∨ ∃ b, κ = tuples' b ∧ (b = true → ∀ v ∈ vs, ∀ z r t, k v = z :: r → z ≠ .tuple t)) :
    SrtO.Cmp prog w A s κ (fun p => p.1 ∈ vs) (SrtO.lt2 (ltD k)) := by
  intro p q hp hq
  obtain ⟨as, ra⟩ := R.rd _ hp
  obtain ⟨bs, rb⟩ := R.rd _ hq
  have al := R.al _ hp _ hq
  have d := dep (k p.1) (k q.1) (R.dp _ hp)
  rcases hk with rfl | rfl | ⟨b, rfl, hb⟩
  · exact one_tup false ra rb al (by omega) ⟨rfl, rfl⟩
  · exact one_tup true ra rb al (by omega) ⟨rfl, rfl⟩
  · have hf := hb
    generalize hx : k p.1 = xs at ra
    generalize hy : k q.1 = ys at rb
    have dx := R.dp _ hp
    have dl : ltD k p.1 q.1 = PyProof.Rows.lexLt itemOrd (keyToksAll xs) (keyToksAll ys) := by rw [← hx, ← hy]
    rw [hx] at dx al
    rw [hy] at al
    show wpAny (model prog w) A (keyLt' (tuples' b) p.1 q.1) (fun r s' => s' = s ∧ r = ltD k p.1 q.1) (fun _ _ => False) s
    rw [dl]
    have hfp := fun (z : b = true) => hf z p.1 hp
    generalize p.1 = pv at ra hfp hx
    generalize q.1 = qv at rb hy
    cases ra with
    | @tuple l o vs n _ as₁ h1 h2 h3 h4 =>
      cases rb with
      | @tuple l' o' vs' n' _ bs₁ k1 k2 k3 k4 =>
        have n1 : vs.size = xs.length := by simpa using ReadsAll.length _ _ _ h4
        have n2 : vs'.size = ys.length := by simpa using ReadsAll.length _ _ _ k4
        refine kat_lt h1 h3 k1 k3 ?_
        refine katLex_alike xs ys 0 _ _ _ _ h4 k4 al (by omega) (fun z _ x r t e => hfp z x r t (by rw [hx, e])) (by rw [n1, n2]) ⟨rfl, rfl⟩
theorem rows_sortable {a : Addr} {vs : List Value} {k : Value → List PyData} (R : Rows s.heap vs k) (hu : A.units + 64 < cLine) (h0 : 0 < vs.length) (ha : ∀ o, s.heap.get? a = some o → o.cls ≠ .type "tuple") : SrtO.SortableO prog w A s a vs (ltD k) := by
  intro h' keep
  have R' : Rows h' vs k := R.keep fun b o e c => keep b o (fun z => by subst z; exact ha o e c) e
  obtain ⟨fs, t, q⟩ := rows_firsts R'
  cases e : (fs.toArray.all fun x => x.isSome) with
  | false =>
    have hne : ∃ κ, (κ = general' ∨ κ = oneType') ∧ ∀ (Q : SortKind → Shared → Prop) (E : Value → Shared → Prop), Q κ { s with heap := h' } → wpAny (model prog w) A (keyKind' vs.toArray) Q E { s with heap := h' } := by
      by_cases c : (fs.toArray[0]?.bind id).isSome = true
      · refine ⟨general', .inl rfl, fun Q E hq => ?_⟩
        rw [kat_kind_eq, List.mapM_toArray, map_eq_pure_bind]
        refine wpAny_bind (wpAny_bind (firsts_run vs _ t (wpAny_pure ?_)))
        rw [if_neg (by rw [e]; exact Bool.false_ne_true), if_pos c]
        exact wpAny_pure hq
      · refine ⟨oneType', .inr rfl, fun Q E hq => ?_⟩
        rw [kat_kind_eq, List.mapM_toArray, map_eq_pure_bind]
        refine wpAny_bind (wpAny_bind (firsts_run vs _ t (wpAny_pure ?_)))
        rw [if_neg (by rw [e]; exact Bool.false_ne_true), if_neg c]
        rw [oneTypeOnly'_eq, List.mapM_toArray, map_eq_pure_bind]
        refine wpAny_bind (wpAny_bind (wpAny_bind (kas_mapM (r := Value.type "tuple") _ (fun v hv Q' hq => (firsts_typ (s := { s with heap := h' }) t v hv).here hq) (wpAny_pure ?_))))
        obtain ⟨v1, vr, rfl⟩ : ∃ v1 vr, vs = v1 :: vr := by
          match vs, h0 with
          | v1 :: vr, _ => exact ⟨v1, vr, rfl⟩
        have hall : ((List.map (fun _ => Value.type "tuple") (v1 :: vr)).toArray.all fun x => x == Value.type "tuple") = true := by
          simp only [List.all_toArray, List.all_map, List.all_eq_true]
          intro _ _
          exact (by rfl : (Value.type "tuple" == Value.type "tuple") = true)
        have hz : (List.map (fun _ => Value.type "tuple") (v1 :: vr)).toArray[0]? = some (Value.type "tuple") := by simp
        rw [hz]
        simp only [hall, if_true]
        exact wpAny_pure (wpAny_pure hq)
    obtain ⟨κ, hκ, run⟩ := hne
    exact ⟨κ, run, cmp_rows (s := { s with heap := h' }) R' hu (by rcases hκ with z | z; exact .inl z; exact .inr (.inl z))⟩
  | true =>
    obtain ⟨gs, rfl, kt⟩ := kat_of (s := { s with heap := h' }) t e
    have lg : gs.length = vs.length := by
      have l : ∀ {us : List Value} {gs : List Value}, KatTups h' us gs → gs.length = us.length := by
        intro us
        induction us with
        | nil =>
          intro gs t
          cases gs with
          | nil => rfl
          | cons _ _ => exact t.elim
        | cons u us ih =>
          intro gs t
          cases gs with
          | nil => exact t.elim
          | cons g gs => rw [List.length_cons, List.length_cons, ih t.2]
      exact l kt
    obtain ⟨g1, gr, rfl⟩ : ∃ g1 gr, gs = g1 :: gr := by
      match gs, (show 0 < gs.length by omega) with
      | g1 :: gr, _ => exact ⟨g1, gr, rfl⟩
    obtain ⟨v1, hv1, z1, r1, as1, e1, rd1⟩ := q (some g1) (by simp) g1 rfl
    have same : ∀ v ∈ vs, ∀ z r, k v = z :: r → tyD z = tyD z1 := fun v hv z r ez => by
      have a := R.al v hv v1 hv1
      rw [ez, e1] at a
      exact alike_ty (alike_all_cons a).1
    refine ⟨tuples' (Value.type (tyD z1) != Value.type "tuple"), fun Q E hq => ?_, cmp_rows (s := { s with heap := h' }) R' hu (.inr (.inr ⟨_, rfl, fun hb v hv z r t ez c => ?_⟩))⟩
    · refine kat_kind (T := .type (tyD z1)) kt (by simp) (fun f hf => ?_) (by simp) hq
      obtain ⟨v, hv, z, r, as, ez, rz⟩ := q (some f) (List.mem_map.mpr ⟨f, hf, rfl⟩) f rfl
      rw [← same v hv z r ez]
      refine look_ty ?_ rz
      have p := R.pu v hv
      rw [ez] at p
      unfold pureAll at p
      exact (Bool.and_eq_true _ _ ▸ p).1
    · have w := same v hv z r ez
      rw [c] at w
      rw [← w] at hb
      exact absurd hb (show ¬ ((Value.type "tuple" != Value.type "tuple") = true) by decide)
end
/-- x before y, as Python orders these tuples -/
abbrev ltV (k : V → List PyData) (x y : V) : Bool := PyProof.Rows.lexLt itemOrd (keyToksAll (k x)) (keyToksAll (k y))
theorem ltV_swo (k : V → List PyData) : SrtO.Swo (ltV k) := by
  refine ⟨fun x y h => ?_, fun x y z h1 h2 => ?_⟩
  · cases e : ltV k y x with
    | false => rfl
    | true =>
      have z := (listOrd itemOrd).trans _ _ _ h e
      rw [(listOrd itemOrd).irrefl] at z
      cases z
  · cases e : ltV k z x with
    | false => rfl
    | true =>
      rcases (listOrd itemOrd).negTrans _ (keyToksAll (k y)) _ e with q | q
      · rw [show ltV k z y = true from q] at h2
        cases h2
      · rw [show ltV k y x = true from q] at h1
        cases h1
/-- sorted(xs), xs a list of tuples (k tells them) of numbers, texts, tuples of these, any two of them alike: a new list, sorted, equal ones in their order -/
def rSortD (K : PySem.W.Frag) : List V → Hp → VK → Prop := fun vs H Q => ∃ (a : Addr) (xs : List V) (k : V → List PyData), vs = [V.ref a] ∧ SqL K H a xs ∧ (∀ x ∈ xs, (∃ t, x = V.ref t) ∧ Dp K H x (.tuple (k x)) ∧ pureAll (k x) = true ∧ PyData.depthAll (k x) ≤ 40) ∧
  (∀ x ∈ xs, ∀ y ∈ xs, alikeAll (k x) (k y) = true) ∧ ∀ ys p, SrtO.Srtd (ltV k) ys → SrtO.Stb (ltV k) ys xs → H p = none → Q (.ref p) (upd H p (.lst ys))
section
variable {X : Cx}
theorem cr_sortD (hu : X.A.units + 66 < cLine) : CallR X (.builtin "sorted") (rSortD X.K) := by
  intro pins s σ H vs us Q I r h
  obtain ⟨a, xs, k, rfl, hs, hx, al, q⟩ := h
  obtain ⟨its, rv, hl, hz⟩ := I.list hs
  obtain ⟨u, rfl, ru⟩ := vals1 r
  obtain rfl : u = Value.ref a := ru
  obtain ⟨e1, e2⟩ := refs_back rv fun x m => (hx x m).1
  have back : ∀ v ∈ its, backV v ∈ xs := fun v hv => by
    rw [e1]
    exact List.mem_map.mpr ⟨_, hv, rfl⟩
  have R : Rows s.heap its (fun u => k (backV u)) := ⟨fun v hv => by
      obtain ⟨t, rfl⟩ := e2 v hv
      exact Dp.reads I _ (backV (.ref t)) (.ref t) (hx _ (back _ hv)).2.1 rfl, fun v hv => (hx _ (back v hv)).2.2.1, fun v hv u hu => al _ (back v hv) _ (back u hu), fun v hv => (hx _ (back v hv)).2.2.2⟩
  refine SrtO.sorted_ord (ltv := ltD fun u => k (backV u)) (ltD_swo _) hl.isList (by rw [← rv.length]; exact hz) (fun h2 h₁ b hb kk => ?_) fun out h1 h2 => ?_
  · refine rows_sortable (s := { s with heap := h₁ }) (R.keep fun c o e _ => (kk c o e).2) (by show X.A.units + 1 + 1 + 64 < cLine; omega) (by omega) fun o e => ?_
    have e' : some o = some (seqObj "list" its.toArray 0) := e.symm.trans hb
    cases e'
    intro c
    exact absurd (Value.type.inj c) (by decide)
  · have h3 : ∀ u ∈ out, ∃ a, u = Value.ref a := fun u hu => e2 u (h2.perm.mem_iff.mp hu)
    obtain ⟨n, hn⟩ := PyProof.Rows.sortedAll_at s.heap its out.toArray
    have hb : SrtO.Stb (ltV k) (out.map backV) xs := by
      rw [e1]
      exact SrtO.Stb.map (ltV_swo k) backV h2
    refine ⟨.ref (s.heap.objs.size + 1), upd H (s.heap.objs.size + 1) (.lst (out.map backV)), I.laid (t' := s.toks) (fun b o e => PyProof.Rows.sortedAll_old e) (Nat.le_succ _) ⟨?_, out, n, vals_back h3, hn⟩, rfl, q _ _ (SrtO.srtd_map h1) hb (I.hok.fresh (Nat.le_succ _))⟩
    rw [hb.len]
    exact hz
end
end NmD
namespace Nm
open PySem PySem.Spec PyProof.Rows L2 NmD
/-! ### rows of words as data -/
abbrev rowL (ws : List Str) : List PyData := ws.map PyData.str
theorem rowL_nil : rowL [] = [] := rfl
theorem rowL_cons (w : Str) (ws : List Str) : rowL (w :: ws) = PyData.str w :: rowL ws := rfl
abbrev rowD (ws : List Str) : PyData := .tuple (rowL ws)
theorem dpAll_row {K : PySem.W.Frag} {H : Hp} : ∀ ws : List Str, DpAll K H (ws.map V.str) (rowL ws)
  | [] => .nil
  | w :: ws => .cons (.str w) (dpAll_row ws)
theorem dp_row {K : PySem.W.Frag} {H : Hp} {a : Addr} {ws : List Str} (h : H a = some (.tup (ws.map V.str))) : Dp K H (.ref a) (rowD ws) := .tup (SqT.of h) (dpAll_row ws)
theorem eqv_rowL : ∀ a b : List Str, PyData.eqvAll (rowL a) (rowL b) = decide (a = b)
  | [], [] => by simp [PyData.eqvAll]
  | [], _ :: _ => by simp [PyData.eqvAll]
  | _ :: _, [] => by simp [PyData.eqvAll]
  | x :: a, y :: b => by
    have ih := eqv_rowL a b
    rw [rowL_cons, rowL_cons, PyData.eqvAll, ih, PyData.eqv]
    by_cases h : x = y
    · subst h
      simp
    · simp [h]
theorem eqv_row (a b : List Str) : PyData.eqv (rowD a) (rowD b) = decide (a = b) := by rw [PyData.eqv, eqv_rowL]
theorem depth_rowL : ∀ ws : List Str, PyData.depthAll (rowL ws) = 0
  | [] => by simp [PyData.depthAll]
  | w :: ws => by
    rw [rowL_cons, PyData.depthAll, depth_rowL ws, PyData.depth]
    rfl
theorem lay_rowL : ∀ ws : List Str, (∀ z ∈ ws, PyData.canLay0 (.str z) = true) → PyData.canLayAll0 (rowL ws) = true
  | [], _ => by simp [PyData.canLayAll0]
  | w :: ws, h => by
    rw [rowL_cons, PyData.canLayAll0, h w List.mem_cons_self, lay_rowL ws fun z hz => h z (List.mem_cons_of_mem _ hz)]
    rfl
theorem shaped_row {ws : List Str} (h : ∀ z ∈ ws, PyData.canLay0 (.str z) = true) : SeqAt.shaped (rowD ws) = true := by
  unfold SeqAt.shaped
  rw [PyData.canLay0, lay_rowL ws h, PyData.depth, depth_rowL]
  decide
theorem pure_rowL : ∀ ws : List Str, pureAll (rowL ws) = true
  | [] => by simp [pureAll]
  | w :: ws => by
    rw [rowL_cons, pureAll, pure_rowL ws, pureD]
    rfl
theorem alike_rowL : ∀ a b : List Str, PySem.W.alikeAll (rowL a) (rowL b) = true
  | [], [] => by simp [PySem.W.alikeAll]
  | [], _ :: _ => by simp [PySem.W.alikeAll]
  | _ :: _, [] => by simp [PySem.W.alikeAll]
  | x :: a, y :: b => by
    rw [rowL_cons, rowL_cons, PySem.W.alikeAll, alike_rowL a b, PySem.W.alike]
    rfl
abbrev rowLt (a b : List Str) : Bool := PyProof.Rows.lexLt itemOrd (PySem.W.keyToksAll (rowL a)) (PySem.W.keyToksAll (rowL b))
theorem row_pre : ∀ (p a b : List Str), rowLt (p ++ a) (p ++ b) = rowLt a b
  | [], a, b => rfl
  | w :: p, a, b => by
    have ih := row_pre p a b
    unfold rowLt at ih ⊢
    rw [List.cons_append, List.cons_append, rowL_cons, rowL_cons, PySem.W.toks_all_cons, PySem.W.toks_all_cons, lex_self, PySem.W.lex_pre]
    exact ih
/-- a row comes before each that begins with it -/
theorem row_more (a : List Str) (w : Str) : rowLt a (a ++ [w]) = true := by
  have h := row_pre a [] [w]
  rw [List.append_nil] at h
  rw [h]
  unfold rowLt
  rw [rowL_nil, rowL_cons, PySem.W.toks_all_cons]
  simp only [PySem.W.keyToksAll]
  rw [lex_diff (O := itemOrd) (by simp)]
  rfl
/-! ### pieces of tuples -/
theorem sl_last {K : PySem.W.Frag} {H : Hp} {a : Addr} {xs : List V} {Q : VK} (h : H a = some (.tup xs)) (q : ∀ r H', Same H H' → H' r = some (.tup xs.dropLast) → Q (.ref r) H') : rSlA K (.ref a) none (some (-1)) H Q := by
  have s1 : HT.sIx xs.length xs.length (some (-1)) = xs.length - 1 := by
    show (if (-1 : Int) < 0 then ((-1 : Int) + (xs.length : Int)).toNat else min (-1 : Int).toNat xs.length) = xs.length - 1
    rw [if_pos (by decide)]
    omega
  refine ⟨a, xs, rfl, SqT.of h, fun z => ?_, fun z p hp => ?_⟩
  · have e := z.2
    rw [s1] at e
    have : xs = [] := List.eq_nil_of_length_eq_zero (by omega)
    subst this
    exact q a H (Same.refl H) h
  · refine q p _ (same_new hp) ?_
    rw [upd_same]
    unfold cutV
    rw [s1, HT.sIx_none, List.drop_zero, Nat.sub_zero, List.dropLast_eq_take]
theorem sl_take {K : PySem.W.Frag} {H : Hp} {a : Addr} {xs : List V} {k : Nat} {Q : VK} (h : H a = some (.tup xs)) (q : ∀ r H', Same H H' → H' r = some (.tup (xs.take k)) → Q (.ref r) H') : rSlA K (.ref a) none (some (k : Int)) H Q := by
  refine ⟨a, xs, rfl, SqT.of h, fun z => ?_, fun z p hp => ?_⟩
  · have e := z.2
    rw [HT.sIx_nat] at e
    refine q a H (Same.refl H) ?_
    rw [List.take_of_length_le (by omega)]
    exact h
  · refine q p _ (same_new hp) ?_
    rw [upd_same]
    unfold cutV
    rw [HT.sIx_nat, HT.sIx_none, List.drop_zero, Nat.sub_zero]
    by_cases c : k ≤ xs.length
    · rw [Nat.min_eq_left c]
    · rw [Nat.min_eq_right (by omega), List.take_of_length_le (Nat.le_refl _), List.take_of_length_le (by omega)]
theorem cat_tups {K : PySem.W.Frag} {H : Hp} {a b : Addr} {xs ys : List V} {Q : VK} (ha : H a = some (.tup xs)) (hb : H b = some (.tup ys)) (l : xs.length + ys.length ≤ 4000) (q : ∀ r H', Same H H' → H' r = some (.tup (xs ++ ys)) → Q (.ref r) H') : rCatA K (.ref a) (.ref b) H Q := by
  have b4 : (4000 : Nat) ≤ PySem.sizeLine := by decide
  refine ⟨a, b, xs, ys, rfl, rfl, SqT.of ha, SqT.of hb, by omega, fun e => ?_, fun _ e => ?_, fun _ _ p hp => q p _ (same_new hp) upd_same⟩
  · subst e
    exact q b H (Same.refl H) hb
  · subst e
    refine q a H (Same.refl H) ?_
    rw [List.append_nil]
    exact ha
/-! ### pairs of numbers -/
abbrev Pr := Int × Int
abbrev prD (p : Pr) : PyData := .tuple [.int p.1, .int p.2]
abbrev prsD (ps : List Pr) : PyData := .list (ps.map prD)
def PrAt (H : Hp) (x : V) (p : Pr) : Prop := ∃ t, x = .ref t ∧ H t = some (.tup [.int p.1, .int p.2])
theorem PrAt.mono {H H' : Hp} (k : ∀ a xs, H a = some (.tup xs) → H' a = some (.tup xs)) {x : V} {p : Pr} (h : PrAt H x p) : PrAt H' x p := by
  obtain ⟨t, e, h1⟩ := h
  exact ⟨t, e, k _ _ h1⟩
/-- a list of pairs -/
def PrsAt (H : Hp) (a : Addr) (ps : List Pr) : Prop := ∃ xs, H a = some (.lst xs) ∧ Paired (PrAt H) xs ps
theorem PrsAt.same {H H' : Hp} (g : Same H H') {a : Addr} {ps : List Pr} (h : PrsAt H a ps) : PrsAt H' a ps := by
  obtain ⟨xs, h1, h2⟩ := h
  exact ⟨xs, g _ _ h1, paired_mono (fun _ _ => PrAt.mono (same_tups g)) h2⟩
theorem dp_pr {K : PySem.W.Frag} {H : Hp} {x : V} {p : Pr} (h : PrAt H x p) : Dp K H x (prD p) := by
  obtain ⟨t, rfl, h1⟩ := h
  exact .tup (SqT.of h1) (.cons (.int _) (.cons (.int _) .nil))
theorem dp_prsL {K : PySem.W.Frag} {H : Hp} : ∀ {xs : List V} {ps : List Pr}, Paired (PrAt H) xs ps → DpAll K H xs (ps.map prD)
  | _, _, .nil => .nil
  | _, _, .cons h t => .cons (dp_pr h) (dp_prsL t)
theorem dp_prs {K : PySem.W.Frag} {H : Hp} {a : Addr} {ps : List Pr} (h : PrsAt H a ps) : Dp K H (.ref a) (prsD ps) := by
  obtain ⟨xs, h1, h2⟩ := h
  exact .lst (SqL.of h1) (dp_prsL h2)
theorem eqv_pr (p q : Pr) : PyData.eqv (prD p) (prD q) = decide (p = q) := by
  obtain ⟨a, b⟩ := p
  obtain ⟨c, d⟩ := q
  simp only [PyData.eqv, PyData.eqvAll]
  by_cases h1 : a = c <;> by_cases h2 : b = d <;> simp [h1, h2]
theorem eqv_prsL : ∀ ps qs : List Pr, PyData.eqvAll (ps.map prD) (qs.map prD) = decide (ps = qs)
  | [], [] => by simp [PyData.eqvAll]
  | [], _ :: _ => by simp [PyData.eqvAll]
  | _ :: _, [] => by simp [PyData.eqvAll]
  | p :: ps, q :: qs => by
    rw [List.map_cons, List.map_cons, PyData.eqvAll, eqv_prsL ps qs, eqv_pr]
    by_cases h1 : p = q <;> by_cases h2 : ps = qs <;> simp [h1, h2]
theorem eqv_prs (ps qs : List Pr) : PyData.eqv (prsD ps) (prsD qs) = decide (ps = qs) := by rw [PyData.eqv, eqv_prsL]
theorem any_pr (q : Pr) : ∀ ps : List Pr, ((ps.map prD).any fun z => PyData.eqv z (prD q)) = decide (q ∈ ps)
  | [] => by simp
  | p :: ps => by
    rw [List.map_cons, List.any_cons, any_pr q ps, eqv_pr]
    by_cases h : p = q
    · subst h
      simp
    · have h' : ¬ q = p := fun z => h z.symm
      simp [h, h']
theorem shaped_pr (p : Pr) : SeqAt.shaped (prD p) = true := by
  unfold SeqAt.shaped
  simp [PyData.canLay0, PyData.canLayAll0, PyData.depth, PyData.depthAll]
theorem lay_prsL : ∀ ps : List Pr, PyData.canLayAll0 (ps.map prD) = true ∧ PyData.depthAll (ps.map prD) ≤ 1
  | [] => by simp [PyData.canLayAll0, PyData.depthAll]
  | p :: ps => by
    obtain ⟨h1, h2⟩ := lay_prsL ps
    rw [List.map_cons, PyData.canLayAll0, h1, PyData.depthAll]
    refine ⟨by simp [PyData.canLay0, PyData.canLayAll0], ?_⟩
    have e : PyData.depth (prD p) ≤ 1 := by simp [PyData.depth, PyData.depthAll]
    omega
theorem shaped_prs (ps : List Pr) : SeqAt.shaped (prsD ps) = true := by
  unfold SeqAt.shaped
  obtain ⟨h1, h2⟩ := lay_prsL ps
  rw [PyData.canLay0, h1, PyData.depth, Bool.true_and]
  exact decide_eq_true (by omega)
end Nm
namespace Nm
open PySem PySem.Spec PyProof.Rows L2
theorem u65 {k : Nat} {A : Around} (r : Room k A) : A.units + 65 < cLine := by
  have := r.un
  omega
theorem u66 {k : Nat} {A : Around} (r : Room k A) : A.units + 66 < cLine := by
  have := r.un
  omega
/-! ### all pairs i < j with f, row by row -/
def rowUp (f : Nat → Nat → Bool) (i k : Nat) : List Pr := (((List.range k).map fun d => i + 1 + d).filter (f i)).map fun (j : Nat) => ((i : Int), (j : Int))
def pairsUp (f : Nat → Nat → Bool) (n m : Nat) : List Pr := (List.range m).flatMap fun i => rowUp f i (n - (i + 1))
abbrev pairsOf (f : Nat → Nat → Bool) (n : Nat) : List Pr := pairsUp f n n
theorem rowUp_one (f : Nat → Nat → Bool) (i k : Nat) : rowUp f i (k + 1) = rowUp f i k ++ (if f i (i + 1 + k) = true then [((i : Int), ((i + 1 + k : Nat) : Int))] else []) := by
  unfold rowUp
  rw [List.range_succ, List.map_append, List.filter_append, List.map_append]
  congr 1
  by_cases h : f i (i + 1 + k) = true
  · rw [if_pos h, List.map_singleton, List.filter_cons_of_pos h]
    rfl
  · rw [if_neg h, List.map_singleton, List.filter_cons_of_neg h]
    rfl
theorem pairsUp_one (f : Nat → Nat → Bool) (n m : Nat) : pairsUp f n (m + 1) = pairsUp f n m ++ rowUp f m (n - (m + 1)) := by
  unfold pairsUp
  rw [List.range_succ, List.flatMap_append]
  simp
theorem mem_rowUp {f : Nat → Nat → Bool} {i k : Nat} {p : Pr} : p ∈ rowUp f i k ↔ ∃ j : Nat, p = ((i : Int), (j : Int)) ∧ i < j ∧ j < i + 1 + k ∧ f i j = true := by
  unfold rowUp
  rw [List.mem_map]
  constructor
  · rintro ⟨j, hj, rfl⟩
    obtain ⟨h1, h2⟩ := List.mem_filter.mp hj
    obtain ⟨d, hd, rfl⟩ := List.mem_map.mp h1
    have := List.mem_range.mp hd
    exact ⟨_, rfl, by omega, by omega, h2⟩
  · rintro ⟨j, rfl, h1, h2, h3⟩
    exact ⟨j, List.mem_filter.mpr ⟨List.mem_map.mpr ⟨j - (i + 1), List.mem_range.mpr (by omega), by omega⟩, h3⟩, rfl⟩
theorem mem_pairsUp {f : Nat → Nat → Bool} {n m : Nat} {p : Pr} : p ∈ pairsUp f n m ↔ ∃ i j : Nat, p = ((i : Int), (j : Int)) ∧ i < j ∧ j < n ∧ i < m ∧ f i j = true := by
  unfold pairsUp
  rw [List.mem_flatMap]
  constructor
  · rintro ⟨i, hi, hp⟩
    obtain ⟨j, e, h1, h2, h3⟩ := mem_rowUp.mp hp
    exact ⟨i, j, e, h1, by omega, List.mem_range.mp hi, h3⟩
  · rintro ⟨i, j, rfl, h1, h2, h3, h4⟩
    exact ⟨i, List.mem_range.mpr h3, mem_rowUp.mpr ⟨j, rfl, h1, by omega, h4⟩⟩
theorem rowUp_congr {f g : Nat → Nat → Bool} {i k : Nat} (h : ∀ j, i < j → j < i + 1 + k → f i j = g i j) : rowUp f i k = rowUp g i k := by
  unfold rowUp
  congr 1
  refine List.filter_congr fun j hj => ?_
  obtain ⟨d, hd, rfl⟩ := List.mem_map.mp hj
  have := List.mem_range.mp hd
  exact h _ (by omega) (by omega)
theorem flat_congr {α β : Type} {f g : α → List β} : ∀ {l : List α}, (∀ x ∈ l, f x = g x) → l.flatMap f = l.flatMap g
  | [], _ => rfl
  | x :: l, h => by rw [List.flatMap_cons, List.flatMap_cons, h x List.mem_cons_self, flat_congr fun y hy => h y (List.mem_cons_of_mem _ hy)]
theorem pairsOf_congr {f g : Nat → Nat → Bool} {n : Nat} (h : ∀ i j, i < j → j < n → f i j = g i j) : pairsOf f n = pairsOf g n := by
  refine flat_congr fun i hi => rowUp_congr fun j h1 h2 => ?_
  exact h i j h1 (by omega)
theorem filter_rowUp (f : Nat → Nat → Bool) (c : Pr → Bool) (i k : Nat) : (rowUp f i k).filter c = rowUp (fun (i j : Nat) => f i j && c ((i : Int), (j : Int))) i k := by
  unfold rowUp
  rw [List.filter_map, List.filter_filter]
  congr 1
  refine List.filter_congr fun j _ => ?_
  show (c ((i : Int), (j : Int)) && f i j) = (f i j && c ((i : Int), (j : Int)))
  exact Bool.and_comm _ _
theorem filter_flat {α β : Type} (c : β → Bool) (f : α → List β) : ∀ l : List α, (l.flatMap f).filter c = l.flatMap fun x => (f x).filter c
  | [] => rfl
  | x :: l => by rw [List.flatMap_cons, List.flatMap_cons, List.filter_append, filter_flat c f l]
theorem filter_pairsOf (f : Nat → Nat → Bool) (c : Pr → Bool) (n : Nat) : (pairsOf f n).filter c = pairsOf (fun (i j : Nat) => f i j && c ((i : Int), (j : Int))) n := by
  unfold pairsOf pairsUp
  rw [filter_flat]
  exact flat_congr fun i _ => filter_rowUp f c i _
theorem rowUp_none {f : Nat → Nat → Bool} {i k : Nat} (h : ∀ j, i < j → j < i + 1 + k → f i j = false) : rowUp f i k = [] := by
  refine List.eq_nil_iff_forall_not_mem.mpr fun p hp => ?_
  obtain ⟨j, _, h1, h2, h3⟩ := mem_rowUp.mp hp
  rw [h j h1 h2] at h3
  cases h3
theorem rowUp_less {f : Nat → Nat → Bool} {i : Nat} : ∀ {k l : Nat}, l ≤ k → (∀ j, i + 1 + l ≤ j → j < i + 1 + k → f i j = false) → rowUp f i k = rowUp f i l
  | 0, l, h, _ => by
    have : l = 0 := by omega
    subst this
    rfl
  | k + 1, l, h, hf => by
    by_cases e : l = k + 1
    · rw [e]
    · rw [rowUp_one, rowUp_less (k := k) (l := l) (by omega) fun j h1 h2 => hf j h1 (by omega), hf (i + 1 + k) (by omega) (by omega)]
      simp
/-- of a joined hall: the first ones -/
theorem first_pairs (f : Nat → Nat → Bool) (n m : Nat) : (pairsOf f (n + m)).filter (fun p => decide (p.2 < (n : Int))) = pairsOf f n := by
  rw [filter_pairsOf]
  unfold pairsOf pairsUp
  rw [List.range_add, List.flatMap_append]
  have z : (List.map (fun x => n + x) (List.range m)).flatMap (fun i => rowUp (fun (i j : Nat) => f i j && decide (((i : Int), (j : Int)).2 < (n : Int))) i (n + m - (i + 1))) = [] := by
    refine List.eq_nil_iff_forall_not_mem.mpr fun p hp => ?_
    obtain ⟨i, hi, hp⟩ := List.mem_flatMap.mp hp
    obtain ⟨x, _, rfl⟩ := List.mem_map.mp hi
    obtain ⟨j, _, h1, h2, h3⟩ := mem_rowUp.mp hp
    rw [Bool.and_eq_true] at h3
    have := of_decide_eq_true h3.2
    have : (j : Int) < (n : Int) := this
    omega
  rw [z, List.append_nil]
  refine flat_congr fun i hi => ?_
  have hi' := List.mem_range.mp hi
  rw [rowUp_less (k := n + m - (i + 1)) (l := n - (i + 1)) (by omega) fun j h1 h2 => by
    rw [decide_eq_false (show ¬ ((j : Int) < (n : Int)) by omega), Bool.and_false]]
  refine rowUp_congr fun j h1 h2 => ?_
  rw [decide_eq_true (show ((j : Int) < (n : Int)) by omega), Bool.and_true]
/-- of a joined hall: the last ones, numbered anew -/
theorem last_pairs (f g : Nat → Nat → Bool) (n m : Nat) (h : ∀ i j, f (n + i) (n + j) = g i j) : ((pairsOf f (n + m)).filter (fun p => decide ((n : Int) ≤ p.1))).map (fun p => (p.1 - (n : Int), p.2 - (n : Int))) = pairsOf g m := by
  rw [filter_pairsOf]
  unfold pairsOf pairsUp
  rw [List.range_add, List.flatMap_append]
  have z : (List.range n).flatMap (fun i => rowUp (fun (i j : Nat) => f i j && decide ((n : Int) ≤ ((i : Int), (j : Int)).1)) i (n + m - (i + 1))) = [] := by
    refine List.eq_nil_iff_forall_not_mem.mpr fun p hp => ?_
    obtain ⟨i, hi, hp⟩ := List.mem_flatMap.mp hp
    obtain ⟨j, _, h1, h2, h3⟩ := mem_rowUp.mp hp
    rw [Bool.and_eq_true] at h3
    have := of_decide_eq_true h3.2
    have : (n : Int) ≤ (i : Int) := this
    have := List.mem_range.mp hi
    omega
  rw [z, List.nil_append, List.map_flatMap, List.flatMap_map]
  refine flat_congr fun i hi => ?_
  have e : n + m - (n + i + 1) = m - (i + 1) := by omega
  rw [e]
  unfold rowUp
  rw [List.map_map]
  have r : (List.range (m - (i + 1))).map (fun d => n + i + 1 + d) = ((List.range (m - (i + 1))).map (fun d => i + 1 + d)).map (fun j => n + j) := by
    rw [List.map_map]
    refine List.map_congr_left fun d _ => ?_
    show n + i + 1 + d = n + (i + 1 + d)
    omega
  rw [r, List.filter_map, List.map_map]
  have c : List.filter ((fun (j : Nat) => f (n + i) j && decide ((n : Int) ≤ (((n + i : Nat) : Int), (j : Int)).1)) ∘ fun j => n + j) ((List.range (m - (i + 1))).map fun d => i + 1 + d) = List.filter (g i) ((List.range (m - (i + 1))).map fun d => i + 1 + d) := by
    refine List.filter_congr fun j _ => ?_
    show (f (n + i) (n + j) && decide ((n : Int) ≤ ((n + i : Nat) : Int))) = g i j
    rw [decide_eq_true (show (n : Int) ≤ ((n + i : Nat) : Int) by omega), Bool.and_true, h]
  rw [c]
  refine List.map_congr_left fun j _ => ?_
  show ((((n + i : Nat) : Int) - (n : Int)), (((n + j : Nat) : Int) - (n : Int))) = ((i : Int), (j : Int))
  rw [show (((n + i : Nat) : Int) - (n : Int)) = (i : Int) by omega, show (((n + j : Nat) : Int) - (n : Int)) = (j : Int) by omega]
/-! ### boards that are pairs -/
def rowExt (a b : List Str) : Bool := decide (b.dropLast = a) && decide (b.length = a.length + 1)
/-- one longer by a word that the longer one's master has played -/
def extOk (b c : Bd) : Bool := rowExt b.2.2 c.2.2 && !decide ((b.2.2.length : Int) % 2 = c.2.1)
def arePair (b c : Bd) : Bool := decide (b.1 = c.1) && (!decide (b.2.1 = c.2.1) && (decide (b.2.2 = c.2.2) || (extOk b c || extOk c b)))
def areApart (b c : Bd) : Bool := decide (b.1 = c.1) && (!decide (b.2.1 = c.2.1) && (rowExt b.2.2 c.2.2 || rowExt c.2.2 b.2.2))
def onB (f : Bd → Bd → Bool) (bs : List Bd) (i j : Nat) : Bool := match bs[i]?, bs[j]? with
  | some b, some c => f b c
  | _, _ => false
theorem onB_at {f : Bd → Bd → Bool} {bs : List Bd} {i j : Nat} {b c : Bd} (h1 : bs[i]? = some b) (h2 : bs[j]? = some c) : onB f bs i j = f b c := by
  unfold onB
  rw [h1, h2]
def turnB (b : Bd) : Bd := (b.1, 1 - b.2.1, b.2.2)
def sideOk (b : Bd) : Prop := b.2.1 = 0 ∨ b.2.1 = 1
theorem ext_ne {a b : List Str} (h : rowExt a b = true) : ¬ a = b := by
  unfold rowExt at h
  rw [Bool.and_eq_true] at h
  intro e
  subst e
  have := of_decide_eq_true h.2
  omega
theorem ext_one {a b : List Str} (h : rowExt a b = true) : rowExt b a = false := by
  unfold rowExt at h ⊢
  rw [Bool.and_eq_true] at h
  have := of_decide_eq_true h.2
  rw [decide_eq_false (show ¬ (a.length = b.length + 1) by omega), Bool.and_false]
theorem sideB {x : Int} {l : Nat} (h : x = 0 ∨ x = 1) : (decide ((l : Int) % 2 = 1 - x)) = !decide ((l : Int) % 2 = x) := by
  by_cases e : (l : Int) % 2 = x
  · rw [decide_eq_true e, decide_eq_false (show ¬ ((l : Int) % 2 = 1 - x) by omega)]
    rfl
  · rw [decide_eq_false e, decide_eq_true (show ((l : Int) % 2 = 1 - x) by omega)]
    rfl
theorem unlike_turn {b c : Bd} : decide ((turnB b).2.1 = (turnB c).2.1) = decide (b.2.1 = c.2.1) := by
  show decide (1 - b.2.1 = 1 - c.2.1) = decide (b.2.1 = c.2.1)
  by_cases e : b.2.1 = c.2.1
  · rw [decide_eq_true e, decide_eq_true (by omega)]
  · rw [decide_eq_false e, decide_eq_false (by omega)]
/-- turned about: those that begin alike are the same, of those one word apart just the others -/
theorem turn_pair {b c : Bd} (hb : sideOk b) (hc : sideOk c) : (areApart b c = false → arePair (turnB b) (turnB c) = arePair b c) ∧ (areApart b c = true → arePair (turnB b) (turnB c) = !arePair b c) := by
  have ub := unlike_turn (b := b) (c := c)
  have e1 : extOk (turnB b) (turnB c) = (rowExt b.2.2 c.2.2 && decide ((b.2.2.length : Int) % 2 = c.2.1)) := by
    show (rowExt b.2.2 c.2.2 && !decide ((b.2.2.length : Int) % 2 = 1 - c.2.1)) = _
    rw [sideB hc, Bool.not_not]
  have e2 : extOk (turnB c) (turnB b) = (rowExt c.2.2 b.2.2 && decide ((c.2.2.length : Int) % 2 = b.2.1)) := by
    show (rowExt c.2.2 b.2.2 && !decide ((c.2.2.length : Int) % 2 = 1 - b.2.1)) = _
    rw [sideB hb, Bool.not_not]
  unfold arePair areApart
  rw [ub, e1, e2]
  unfold extOk
  show (_ → (decide (b.1 = c.1) && _) = _) ∧ (_ → (decide (b.1 = c.1) && _) = _)
  cases n : decide (b.1 = c.1)
  · simp
  · cases s : decide (b.2.1 = c.2.1)
    · simp only [Bool.true_and, Bool.not_false]
      show (_ → (decide (b.2.2 = c.2.2) || _) = _) ∧ (_ → (decide (b.2.2 = c.2.2) || _) = _)
      cases x : rowExt b.2.2 c.2.2
      · cases y : rowExt c.2.2 b.2.2
        · simp
        · rw [decide_eq_false (fun e => ext_ne y e.symm)]
          simp
      · rw [ext_one x, decide_eq_false (ext_ne x)]
        simp
    · simp
/-! ### boards that are in order -/
def okB (b : Bd) : Prop := boardB b = true ∧ smallBd b
theorem lay_let {z : Str} {m : Int} (h : letB z m = true) : PyData.canLay0 (.str z) = true := by
  unfold letB at h
  rw [Bool.and_eq_true] at h
  have a := List.all_eq_true.mp h.2
  rw [PyData.canLay0]
  show z.cps.all (· < 0x110000) = true
  rw [Array.all_eq_true']
  intro c hc
  have := a c (by simpa using hc)
  rw [Bool.and_eq_true] at this
  have := of_decide_eq_true this.2
  exact decide_eq_true (by omega)
theorem okB.row {b : Bd} (h : okB b) : rowB b.2.2 20 = true := by
  have h1 := h.1
  unfold boardB at h1
  rw [Bool.and_eq_true, Bool.and_eq_true] at h1
  exact h1.2.2
theorem okB.lay {b : Bd} (h : okB b) : ∀ z ∈ b.2.2, PyData.canLay0 (.str z) = true := fun z hz => by
  have r := h.row
  unfold rowB at r
  rw [Bool.and_eq_true] at r
  exact lay_let (List.all_eq_true.mp r.2 z hz)
theorem okB.len {b : Bd} (h : okB b) : b.2.2.length ≤ 20 := by
  have r := h.row
  unfold rowB at r
  rw [Bool.and_eq_true] at r
  have := of_decide_eq_true r.1
  omega
theorem okB.side {b : Bd} (h : okB b) : sideOk b := by
  have h1 := h.1
  unfold boardB at h1
  rw [Bool.and_eq_true, Bool.and_eq_true] at h1
  have h2 : (decide (0 ≤ b.2.1) && decide (b.2.1 ≤ 1)) = true := h1.2.1
  rw [Bool.and_eq_true] at h2
  have a := of_decide_eq_true h2.1
  have c := of_decide_eq_true h2.2
  unfold sideOk
  omega
theorem okB.turn {b : Bd} (h : okB b) : okB (turnB b) := by
  have s := h.side
  have h1 := h.1
  unfold boardB at h1
  rw [Bool.and_eq_true, Bool.and_eq_true] at h1
  refine ⟨?_, h.2⟩
  show (letB b.1 8 && ((decide (0 ≤ 1 - b.2.1) && decide (1 - b.2.1 ≤ 1)) && rowB b.2.2 20)) = true
  unfold sideOk at s
  rw [h1.1, h1.2.2, decide_eq_true (show (0 : Int) ≤ 1 - b.2.1 by omega), decide_eq_true (show (1 : Int) - b.2.1 ≤ 1 by omega)]
  rfl
theorem decS {x y : Str} : decide (V.str x = V.str y) = decide (x = y) := by
  by_cases e : x = y
  · rw [e, decide_eq_true rfl, decide_eq_true rfl]
  · rw [decide_eq_false e, decide_eq_false fun z => e (V.str.inj z)]
theorem decI {x y : Int} : decide (V.int x = V.int y) = decide (x = y) := by
  by_cases e : x = y
  · rw [e, decide_eq_true rfl, decide_eq_true rfl]
  · rw [decide_eq_false e, decide_eq_false fun z => e (V.int.inj z)]
/-- what the program's own look at two boards comes to -/
theorem pair_short {b c : Bd} (n : b.1 = c.1) (s : ¬ b.2.1 = c.2.1) (l : b.2.2.length ≤ c.2.2.length) :
    arePair b c = (decide (b.2.2 = c.2.2) || (decide (c.2.2.dropLast = b.2.2) && !decide ((b.2.2.length : Int) % 2 = c.2.1))) := by
  unfold arePair extOk
  rw [decide_eq_true n, decide_eq_false s, Bool.true_and, Bool.not_false, Bool.true_and]
  by_cases e : b.2.2 = c.2.2
  · rw [decide_eq_true e, Bool.true_or, Bool.true_or]
  · rw [decide_eq_false e, Bool.false_or, Bool.false_or]
    have x2 : rowExt c.2.2 b.2.2 = false := by
      unfold rowExt
      rw [decide_eq_false (show ¬ (b.2.2.length = c.2.2.length + 1) by omega), Bool.and_false]
    have x1 : rowExt b.2.2 c.2.2 = decide (c.2.2.dropLast = b.2.2) := by
      unfold rowExt
      by_cases d : c.2.2.dropLast = b.2.2
      · rw [decide_eq_true d, Bool.true_and]
        refine decide_eq_true ?_
        have ld := congrArg List.length d
        rw [List.length_dropLast] at ld
        by_cases z : c.2.2.length = 0
        · exfalso
          have c0 : c.2.2 = [] := List.eq_nil_of_length_eq_zero z
          rw [c0] at d
          exact e (by rw [c0]; exact d.symm)
        · omega
      · rw [decide_eq_false d, Bool.false_and]
    rw [x1, x2, Bool.false_and, Bool.or_false]
theorem pair_swap (b c : Bd) : arePair b c = arePair c b := by
  unfold arePair
  rw [show decide (b.1 = c.1) = decide (c.1 = b.1) from decide_eq_decide.mpr eq_comm, show decide (b.2.1 = c.2.1) = decide (c.2.1 = b.2.1) from decide_eq_decide.mpr eq_comm, show decide (b.2.2 = c.2.2) = decide (c.2.2 = b.2.2) from decide_eq_decide.mpr eq_comm,
    Bool.or_comm (extOk b c) (extOk c b)]
theorem paired_take {α β : Type} {R : α → β → Prop} : ∀ {xs : List α} {ys : List β}, Paired R xs ys → ∀ n, Paired R (xs.take n) (ys.take n)
  | _, _, .nil, n => by
    rw [List.take_nil, List.take_nil]
    exact .nil
  | _, _, .cons r t, 0 => .nil
  | _, _, .cons r t, n + 1 => .cons r (paired_take t n)
theorem paired_app {α β : Type} {R : α → β → Prop} : ∀ {xs : List α} {ys : List β} {us : List α} {ws : List β}, Paired R xs ys → Paired R us ws → Paired R (xs ++ us) (ys ++ ws)
  | _, _, _, _, .nil, h => h
  | _, _, _, _, .cons r t, h => .cons r (paired_app t h)
theorem putF_len (f : Str) (y : V) : ∀ fs : List (Str × V), (putF f y fs).length ≤ fs.length + 1
  | [] => by simp [putF]
  | (g, z) :: fs => by
    have ih := putF_len f y fs
    unfold putF
    split
    · simp
    · rw [List.length_cons, List.length_cons]
      omega
theorem cutV_take (xs : List V) (k : Nat) : cutV xs none (some (k : Int)) = xs.take k := by
  unfold cutV
  rw [HT.sIx_nat, HT.sIx_none, List.drop_zero, Nat.sub_zero]
  by_cases c : k ≤ xs.length
  · rw [Nat.min_eq_left c]
  · rw [Nat.min_eq_right (by omega), List.take_of_length_le (Nat.le_refl _), List.take_of_length_le (by omega)]
end Nm
namespace Nm
open PySem PySem.Spec PyProof.Rows L2
abbrev sK := PyProof.Rows.strKind
/-- a text before another one -/
abbrev before (a b : Str) : Prop := sK.blt a.cps.toList b.cps.toList = true
theorem lt_blt (a b : Str) : ltCps a.cps.toList b.cps.toList = sK.blt a.cps.toList b.cps.toList := PyProof.Rows.ltCps_eq _ _
theorem before_not {a b : Str} (h : before a b) : ¬ before b a := fun h2 => by
  have z := sK.trans _ _ _ h h2
  rw [sK.irrefl] at z
  cases z
theorem before_tr {a b c : Str} (h : before a b) (h2 : before b c) : before a c := sK.trans a.cps.toList b.cps.toList c.cps.toList h h2
theorem before_tot {a b : Str} (h : ¬ before b a) (n : a ≠ b) : before a b := by
  cases e : sK.blt a.cps.toList b.cps.toList with
  | true => exact e
  | false =>
    have z := sK.total a.cps.toList b.cps.toList e (by
      cases e2 : sK.blt b.cps.toList a.cps.toList with
      | true => exact absurd e2 h
      | false => rfl)
    refine absurd ?_ n
    obtain ⟨⟨x⟩⟩ := a
    obtain ⟨⟨y⟩⟩ := b
    have z' : x = y := z
    rw [z']
/-- two ascending lists of the same texts are one -/
theorem rise_one : ∀ {xs ys : List Str}, xs.Pairwise before → ys.Pairwise before → (∀ z, z ∈ xs ↔ z ∈ ys) → xs = ys
  | [], [], _, _, _ => rfl
  | [], y :: ys, _, _, h => absurd ((h y).mpr List.mem_cons_self) (List.not_mem_nil)
  | x :: xs, [], _, _, h => absurd ((h x).mp List.mem_cons_self) (List.not_mem_nil)
  | x :: xs, y :: ys, p, q, h => by
    obtain ⟨p1, p2⟩ := List.pairwise_cons.mp p
    obtain ⟨q1, q2⟩ := List.pairwise_cons.mp q
    have e : x = y := by
      rcases List.mem_cons.mp ((h x).mp List.mem_cons_self) with e | m
      · exact e
      · rcases List.mem_cons.mp ((h y).mpr List.mem_cons_self) with e | m2
        · exact e.symm
        · exact absurd (p1 y m2) (before_not (q1 x m))
    subst e
    rw [rise_one p2 q2 fun z => ?_]
    have hz := h z
    constructor
    · intro m
      rcases List.mem_cons.mp (hz.mp (List.mem_cons_of_mem _ m)) with rfl | m2
      · exact absurd (p1 z m) (fun w => before_not w w)
      · exact m2
    · intro m
      rcases List.mem_cons.mp (hz.mpr (List.mem_cons_of_mem _ m)) with rfl | m2
      · exact absurd (q1 z m) (fun w => before_not w w)
      · exact m2
theorem rising_pw : ∀ (r : List Str) (p : Str), risingS p r = true → (p :: r).Pairwise fun a b => ¬ before b a
  | [], p, _ => List.pairwise_singleton _ _
  | x :: r, p, h => by
    have h' : (!ltCps x.cps.toList p.cps.toList && risingS x r) = true := h
    rw [Bool.and_eq_true, lt_blt] at h'
    have ih := rising_pw r x h'.2
    have px : ¬ before x p := fun z => by
      have w := h'.1
      rw [show sK.blt x.cps.toList p.cps.toList = true from z] at w
      cases w
    refine List.pairwise_cons.mpr ⟨fun b hb => ?_, ih⟩
    rcases List.mem_cons.mp hb with rfl | hb
    · exact px
    · intro z
      have xb := (List.pairwise_cons.mp ih).1 b hb
      rcases sK.negTrans b.cps.toList x.cps.toList p.cps.toList z with w | w
      · exact xb w
      · exact px w
theorem sorted_pw {xs : List Str} (h : sortedS xs = true) : xs.Pairwise fun a b => ¬ before b a := by
  cases xs with
  | nil => exact List.Pairwise.nil
  | cons x r => exact rising_pw r x h
theorem Names.rise {xs ys : List Str} (h : Names xs ys) : ys.Pairwise before :=
  (List.Pairwise.and (sorted_pw h.up) h.nd).imp fun ⟨a, b⟩ => before_tot a b
/-- each once, as the neighbours tell -/
def onceUp (zs : List Str) : Nat → List Str
  | 0 => []
  | i + 1 => onceUp zs i ++ (if i = 0 ∨ zs.getD i Str.empty ≠ zs.getD (i - 1) Str.empty then [zs.getD i Str.empty] else [])
theorem once_mem {zs : List Str} (h : zs.Pairwise fun a b => ¬ before b a) : ∀ i, i ≤ zs.length → (onceUp zs i).Pairwise before ∧ (∀ z, z ∈ onceUp zs i ↔ z ∈ zs.take i)
  | 0, _ => ⟨List.Pairwise.nil, fun z => by simp [onceUp]⟩
  | i + 1, hi => by
    obtain ⟨p, m⟩ := once_mem h i (by omega)
    have hx : zs[i]? = some (zs.getD i Str.empty) := by
      rw [List.getD_eq_getElem?_getD, List.getElem?_eq_getElem (by omega)]
      rfl
    have tk := take_one hx
    unfold onceUp
    by_cases c : i = 0 ∨ zs.getD i Str.empty ≠ zs.getD (i - 1) Str.empty
    · rw [if_pos c, tk]
      refine ⟨?_, fun z => by rw [List.mem_append, List.mem_append, m z]⟩
      rw [List.pairwise_append]
      refine ⟨p, List.pairwise_singleton _ _, fun u hu v hv => ?_⟩
      rw [List.mem_singleton.mp hv]
      have hu' := (m u).mp hu
      obtain ⟨j, hj⟩ := List.mem_iff_getElem?.mp hu'
      rw [List.getElem?_take] at hj
      by_cases ji : j < i
      rotate_left
      · rw [if_neg ji] at hj
        cases hj
      rw [if_pos ji] at hj
      have pw := List.pairwise_iff_getElem.mp h
      have ej : zs[j]'(by omega) = u := by
        rw [List.getElem?_eq_getElem (by omega)] at hj
        exact Option.some.inj hj
      have ei : zs[i]'(by omega) = zs.getD i Str.empty := by
        rw [List.getElem?_eq_getElem (by omega)] at hx
        exact Option.some.inj hx
      have vu : ¬ before (zs.getD i Str.empty) u := by
        have z := pw j i (by omega) (by omega) ji
        rw [ej, ei] at z
        exact z
      refine before_tot vu fun e => ?_
      have cc : zs.getD i Str.empty ≠ zs.getD (i - 1) Str.empty := c.elim (fun z => by omega) id
      have el : zs[i - 1]'(by omega) = zs.getD (i - 1) Str.empty := by
        rw [List.getD_eq_getElem?_getD, List.getElem?_eq_getElem (by omega)]
        rfl
      by_cases jl : j = i - 1
      · subst jl
        exact cc (by rw [← e, ← ej, el])
      · have z1 := pw j (i - 1) (by omega) (by omega) (by omega)
        have z2 := pw (i - 1) i (by omega) (by omega) (by omega)
        rw [ej, el] at z1
        rw [el, ei] at z2
        have z3 := before_tot z2 (fun q => cc q.symm)
        rw [← e] at z3
        exact z1 z3
    · rw [if_neg c, List.append_nil, tk]
      refine ⟨p, fun z => ?_⟩
      rw [m z, List.mem_append]
      refine ⟨.inl, fun w => w.elim id fun w => ?_⟩
      rw [List.mem_singleton.mp w]
      have e : zs.getD i Str.empty = zs.getD (i - 1) Str.empty := Classical.not_not.mp fun q => c (.inr q)
      have i0 : i ≠ 0 := fun q => c (.inl q)
      rw [e, List.mem_iff_getElem?]
      refine ⟨i - 1, ?_⟩
      rw [List.getElem?_take, if_pos (by omega), List.getD_eq_getElem?_getD, List.getElem?_eq_getElem (by omega)]
      rfl
/-- the names once each are the hall's names -/
theorem once_names {zs ns ys : List Str} (h : sortedS zs = true) (pm : zs.Perm ns) (nm : Names ns ys) : onceUp zs zs.length = ys := by
  obtain ⟨p, m⟩ := once_mem (sorted_pw h) zs.length (Nat.le_refl _)
  refine rise_one p nm.rise fun z => ?_
  rw [m z, List.take_length, pm.mem_iff, nm.mem]
end Nm
namespace Nm
open PySem PySem.Spec PyProof.Rows L2 NmD
/-! ### the order of rows -/
theorem rowToks_inj {a b : List Str} (h : PySem.W.keyToksAll (rowL a) = PySem.W.keyToksAll (rowL b)) : a = b := by
  cases e : PyData.eqvAll (rowL a) (rowL b) with
  | true =>
    rw [eqv_rowL] at e
    exact of_decide_eq_true e
  | false =>
    have k := (PySem.W.toksAll_eqv (rowL a) (rowL b) (alike_rowL a b)).2 e [Sum.inl 0] [Sum.inl 1]
    rw [h, PySem.W.lex_pre, lex_irrefl] at k
    exact absurd k (by decide)
theorem rowLt_irr (a : List Str) : rowLt a a = false := lex_irrefl (O := itemOrd) _
theorem rowLt_tr {a b c : List Str} (h1 : rowLt a b = true) (h2 : rowLt b c = true) : rowLt a c = true := lex_trans (O := itemOrd) _ _ _ h1 h2
theorem rowLt_tot {a b : List Str} (h1 : rowLt a b = false) (h2 : rowLt b a = false) : a = b := rowToks_inj (lex_total (O := itemOrd) _ _ h1 h2)
abbrev bef (a b : List Str) : Prop := rowLt a b = true
theorem bef_not {a b : List Str} (h : bef a b) : ¬ bef b a := fun h2 => by
  have z := rowLt_tr h h2
  rw [rowLt_irr] at z
  cases z
theorem rows_one : ∀ {xs ys : List (List Str)}, xs.Pairwise bef → ys.Pairwise bef → (∀ z, z ∈ xs ↔ z ∈ ys) → xs = ys
  | [], [], _, _, _ => rfl
  | [], y :: ys, _, _, h => absurd ((h y).mpr List.mem_cons_self) (List.not_mem_nil)
  | x :: xs, [], _, _, h => absurd ((h x).mp List.mem_cons_self) (List.not_mem_nil)
  | x :: xs, y :: ys, p, q, h => by
    obtain ⟨p1, p2⟩ := List.pairwise_cons.mp p
    obtain ⟨q1, q2⟩ := List.pairwise_cons.mp q
    have e : x = y := by
      rcases List.mem_cons.mp ((h x).mp List.mem_cons_self) with e | m
      · exact e
      · rcases List.mem_cons.mp ((h y).mpr List.mem_cons_self) with e | m2
        · exact e.symm
        · exact absurd (p1 y m2) (bef_not (q1 x m))
    subst e
    rw [rows_one p2 q2 fun z => ?_]
    have hz := h z
    constructor
    · intro m
      rcases List.mem_cons.mp (hz.mp (List.mem_cons_of_mem _ m)) with rfl | m2
      · exact absurd (p1 z m) (fun w => bef_not w w)
      · exact m2
    · intro m
      rcases List.mem_cons.mp (hz.mpr (List.mem_cons_of_mem _ m)) with rfl | m2
      · exact absurd (q1 z m) (fun w => bef_not w w)
      · exact m2
theorem bef_nodup {xs : List (List Str)} (h : xs.Pairwise bef) : xs.Nodup := h.imp fun {a b} h e => by
  subst e
  exact bef_not h h
theorem srt_bef {xs : List (List Str)} (h : xs.Pairwise fun a b => rowLt b a = false) (n : xs.Nodup) : xs.Pairwise bef := by
  induction xs with
  | nil => exact .nil
  | cons x xs ih =>
    obtain ⟨h1, h2⟩ := List.pairwise_cons.mp h
    obtain ⟨n1, n2⟩ := List.nodup_cons.mp n
    refine List.pairwise_cons.mpr ⟨fun y hy => ?_, ih h2 n2⟩
    cases e : rowLt x y with
    | true => exact e
    | false => exact absurd (rowLt_tot e (h1 y hy)) (fun z => n1 (z ▸ hy))
theorem nil_bef (w : Str) (r : List Str) : bef [] (w :: r) := by
  show rowLt [] (w :: r) = true
  unfold rowLt
  rw [rowL_nil, rowL_cons, PySem.W.toks_all_cons]
  simp only [PySem.W.keyToksAll]
  rw [lex_diff (O := itemOrd) (by simp)]
  rfl
theorem bef_pre {a b : List Str} (h : a <+: b) (n : a ≠ b) : bef a b := by
  obtain ⟨t, rfl⟩ := h
  cases t with
  | nil => exact absurd (List.append_nil a).symm n
  | cons w r =>
    have e := row_pre a [] (w :: r)
    rw [List.append_nil] at e
    show rowLt a (a ++ w :: r) = true
    rw [e]
    exact nil_bef w r
theorem one_lt (a b : Str) : rowLt [a] [b] = true ↔ before a b := by
  have e : rowLt [a] [b] = decide (a.cps.toList < b.cps.toList) := by
    show PyProof.Rows.lexLt itemOrd (PySem.W.keyToksAll (rowL [a])) (PySem.W.keyToksAll (rowL [b])) = _
    by_cases c : a = b
    · subst c
      rw [lex_irrefl]
      exact (decide_eq_false (List.lt_irrefl _)).symm
    · rw [show rowL [a] = [PyData.str a] from rfl, show rowL [b] = [PyData.str b] from rfl, PySem.W.dataLt_all_no (by simp [PySem.W.alike]) (by rw [PyData.eqv]; simp [c]), PySem.W.dataLt_str]
  rw [e]
theorem snoc_lt (r : List Str) (a b : Str) : bef (r ++ [a]) (r ++ [b]) ↔ before a b := by
  show rowLt (r ++ [a]) (r ++ [b]) = true ↔ _
  rw [row_pre]
  exact one_lt a b
/-! ### games -/
/-- a word that is one and that is not too long for the model -/
def wordOk (z : Str) : Prop := letB z 20 = true ∧ z.length ≤ 1000
def rwOk (r : List Str) : Prop := r.length ≤ 60 ∧ ∀ z ∈ r, wordOk z
structure IsG (rs : List (List Str)) : Prop where
  up : rs.Pairwise bef
  nil : [] ∈ rs
  pre : ∀ r ∈ rs, r.dropLast ∈ rs
  ok : ∀ r ∈ rs, rwOk r
  few : rs.length ≤ 600
theorem IsG.take {rs : List (List Str)} (g : IsG rs) {r : List Str} (h : r ∈ rs) (k : Nat) : r.take k ∈ rs := by
  obtain ⟨n, hn⟩ : ∃ n, r.length - k = n := ⟨_, rfl⟩
  induction n generalizing k with
  | zero =>
    rw [List.take_of_length_le (by omega)]
    exact h
  | succ n ih =>
    have m := g.pre _ (ih (k + 1) (by omega))
    rw [List.dropLast_eq_take, List.length_take, List.take_take, show min (min (k + 1) r.length - 1) (k + 1) = k by omega] at m
    exact m
theorem IsG.pfx {rs : List (List Str)} (g : IsG rs) {r a : List Str} (h : r ∈ rs) (p : a <+: r) : a ∈ rs := by
  rw [List.prefix_iff_eq_take.mp p]
  exact g.take h _
def lastW (r : List Str) : Str := r.getLast?.getD Str.empty
theorem lastW_snoc (r : List Str) (w : Str) : lastW (r ++ [w]) = w := by
  unfold lastW
  rw [List.getLast?_append]
  rfl
def isNext (row l : List Str) : Bool := decide (l.length = row.length + 1) && decide (l.dropLast = row)
theorem isNext_iff {row l : List Str} : isNext row l = true ↔ ∃ w, l = row ++ [w] := by
  unfold isNext
  rw [Bool.and_eq_true]
  constructor
  · rintro ⟨h1, h2⟩
    have h1 := of_decide_eq_true h1
    have h2 := of_decide_eq_true h2
    have n : l ≠ [] := fun z => by
      rw [z] at h1
      simp at h1
    exact ⟨l.getLast n, by rw [← h2]; exact (List.dropLast_concat_getLast n).symm⟩
  · rintro ⟨w, rfl⟩
    exact ⟨decide_eq_true (by simp), decide_eq_true (by simp)⟩
/-- the words that are let at a row -/
def wordsAt (rs : List (List Str)) (row : List Str) : List Str := (rs.filter (isNext row)).map lastW
theorem mem_words {rs : List (List Str)} {row : List Str} {w : Str} : w ∈ wordsAt rs row ↔ row ++ [w] ∈ rs := by
  unfold wordsAt
  rw [List.mem_map]
  constructor
  · rintro ⟨l, hl, rfl⟩
    obtain ⟨h1, h2⟩ := List.mem_filter.mp hl
    obtain ⟨w, rfl⟩ := isNext_iff.mp h2
    rw [lastW_snoc]
    exact h1
  · intro h
    exact ⟨_, List.mem_filter.mpr ⟨h, isNext_iff.mpr ⟨w, rfl⟩⟩, lastW_snoc _ _⟩
theorem words_up {rs : List (List Str)} (g : rs.Pairwise bef) (row : List Str) : (wordsAt rs row).Pairwise before := by
  unfold wordsAt
  rw [List.pairwise_map]
  refine List.Pairwise.imp_of_mem ?_ (g.filter (isNext row))
  intro a b ha hb h
  obtain ⟨v, rfl⟩ := isNext_iff.mp (List.mem_filter.mp ha).2
  obtain ⟨w, rfl⟩ := isNext_iff.mp (List.mem_filter.mp hb).2
  rw [lastW_snoc, lastW_snoc]
  exact (snoc_lt row v w).mp h
theorem before_nodup {xs : List Str} (h : xs.Pairwise before) : xs.Nodup := h.imp fun {a b} h e => by
  subst e
  exact before_not h h
/-- what is left behind a row -/
def behindOf (rs : List (List Str)) (row : List Str) : List (List Str) := (rs.filter fun l => decide (l.take row.length = row)).map (List.drop row.length)
theorem mem_behind {rs : List (List Str)} {row x : List Str} : x ∈ behindOf rs row ↔ row ++ x ∈ rs := by
  unfold behindOf
  rw [List.mem_map]
  constructor
  · rintro ⟨l, hl, rfl⟩
    obtain ⟨h1, h2⟩ := List.mem_filter.mp hl
    have h2 : l.take row.length = row := of_decide_eq_true h2
    have e : row ++ l.drop row.length = l := by
      conv => lhs; arg 1; rw [← h2]
      exact List.take_append_drop _ _
    rw [e]
    exact h1
  · intro h
    exact ⟨_, List.mem_filter.mpr ⟨h, decide_eq_true (by simp)⟩, by simp⟩
theorem isG_behind {rs : List (List Str)} (g : IsG rs) {row : List Str} (h : row ∈ rs) : IsG (behindOf rs row) := by
  refine ⟨?_, ?_, fun r hr => ?_, fun r hr => ?_, ?_⟩
  · unfold behindOf
    rw [List.pairwise_map]
    refine List.Pairwise.imp_of_mem ?_ (g.up.filter _)
    intro a b ha hb hab
    have ha' : a.take row.length = row := of_decide_eq_true (List.mem_filter.mp ha).2
    have hb' : b.take row.length = row := of_decide_eq_true (List.mem_filter.mp hb).2
    have ea : a = row ++ a.drop row.length := by
      conv => rhs; arg 1; rw [← ha']
      exact (List.take_append_drop _ _).symm
    have eb : b = row ++ b.drop row.length := by
      conv => rhs; arg 1; rw [← hb']
      exact (List.take_append_drop _ _).symm
    have q : rowLt (row ++ a.drop row.length) (row ++ b.drop row.length) = true := by
      rw [← ea, ← eb]
      exact hab
    rw [row_pre] at q
    exact q
  · rw [mem_behind, List.append_nil]
    exact h
  · rw [mem_behind] at hr ⊢
    cases List.eq_nil_or_concat r with
    | inl e =>
      subst e
      exact hr
    | inr e =>
      obtain ⟨r', w, rfl⟩ := e
      have z := g.pre _ hr
      rw [List.concat_eq_append] at z ⊢
      rw [← List.append_assoc, List.dropLast_concat] at z
      rw [List.dropLast_concat]
      exact z
  · rw [mem_behind] at hr
    obtain ⟨h1, h2⟩ := g.ok _ hr
    rw [List.length_append] at h1
    exact ⟨by omega, fun z hz => h2 z (List.mem_append_right _ hz)⟩
  · unfold behindOf
    rw [List.length_map]
    exact Nat.le_trans (List.length_filter_le _ _) g.few
theorem words_behind {rs : List (List Str)} (g : IsG rs) {row more : List Str} (h : row ∈ rs) : wordsAt (behindOf rs row) more = wordsAt rs (row ++ more) :=
  rise_one (words_up (isG_behind g h).up more) (words_up g.up _) fun z => by rw [mem_words, mem_words, mem_behind, List.append_assoc]
theorem behind_behind {rs : List (List Str)} (g : IsG rs) {row more : List Str} (h : row ∈ rs) (h2 : row ++ more ∈ rs) : behindOf (behindOf rs row) more = behindOf rs (row ++ more) :=
  rows_one (isG_behind (isG_behind g h) (mem_behind.mpr h2)).up (isG_behind g h2).up fun z => by rw [mem_behind, mem_behind, mem_behind, List.append_assoc]
theorem behind_nil {rs : List (List Str)} (g : IsG rs) : behindOf rs [] = rs := rows_one (isG_behind g g.nil).up g.up fun z => by rw [mem_behind, List.nil_append]
/-- the rows that are in both -/
def bothOf (rs qs : List (List Str)) : List (List Str) := rs.filter fun r => decide (r ∈ qs)
theorem mem_both {rs qs : List (List Str)} {r : List Str} : r ∈ bothOf rs qs ↔ r ∈ rs ∧ r ∈ qs := by
  unfold bothOf
  rw [List.mem_filter, decide_eq_true_eq]
theorem isG_both {rs qs : List (List Str)} (g : IsG rs) (k : IsG qs) : IsG (bothOf rs qs) :=
  ⟨g.up.filter _, mem_both.mpr ⟨g.nil, k.nil⟩, fun r hr => mem_both.mpr ⟨g.pre _ (mem_both.mp hr).1, k.pre _ (mem_both.mp hr).2⟩, fun r hr => g.ok _ (mem_both.mp hr).1, Nat.le_trans (List.length_filter_le _ _) g.few⟩
theorem both_swap {rs qs : List (List Str)} (g : IsG rs) (k : IsG qs) : bothOf rs qs = bothOf qs rs := rows_one (isG_both g k).up (isG_both k g).up fun z => by rw [mem_both, mem_both, and_comm]
theorem both_self {rs : List (List Str)} (g : IsG rs) : bothOf rs rs = rs := rows_one (isG_both g g).up g.up fun z => by rw [mem_both, and_self]
/-- the rows and their beginnings -/
structure Begs (rs gs : List (List Str)) : Prop where
  up : gs.Pairwise bef
  mem : ∀ x, x ∈ gs ↔ x = [] ∨ ∃ r ∈ rs, x <+: r
theorem Begs.one {rs gs hs : List (List Str)} (a : Begs rs gs) (b : Begs rs hs) : gs = hs := rows_one a.up b.up fun z => by rw [a.mem, b.mem]
theorem Begs.same {rs qs gs : List (List Str)} (a : Begs rs gs) (h : ∀ z, z ∈ rs ↔ z ∈ qs) : Begs qs gs := ⟨a.up, fun x => by
  rw [a.mem]
  constructor
  · rintro (e | ⟨r, h1, h2⟩)
    · exact .inl e
    · exact .inr ⟨r, (h r).mp h1, h2⟩
  · rintro (e | ⟨r, h1, h2⟩)
    · exact .inl e
    · exact .inr ⟨r, (h r).mpr h1, h2⟩⟩
theorem Begs.isG {rs gs : List (List Str)} (a : Begs rs gs) (ok : ∀ r ∈ rs, rwOk r) (few : gs.length ≤ 600) : IsG gs := by
  refine ⟨a.up, (a.mem _).mpr (.inl rfl), fun r hr => ?_, fun r hr => ?_, few⟩
  · rcases (a.mem r).mp hr with rfl | ⟨q, h1, h2⟩
    · exact hr
    · exact (a.mem _).mpr (.inr ⟨q, h1, (List.dropLast_prefix r).trans h2⟩)
  · rcases (a.mem r).mp hr with rfl | ⟨q, h1, h2⟩
    · exact ⟨Nat.zero_le _, fun z hz => absurd hz (List.not_mem_nil)⟩
    · obtain ⟨k1, k2⟩ := ok q h1
      exact ⟨Nat.le_trans h2.length_le k1, fun z hz => k2 z (h2.subset hz)⟩
theorem begs_game {rs : List (List Str)} (g : IsG rs) : Begs rs rs := ⟨g.up, fun x => ⟨fun h => .inr ⟨x, h, List.prefix_refl _⟩, fun h => by
  rcases h with rfl | ⟨r, h1, h2⟩
  · exact g.nil
  · exact g.pfx h1 h2⟩⟩
/-- at most so many: each row has no more beginnings than words, but for () -/
theorem begs_len {rs gs : List (List Str)} (a : Begs rs gs) : gs.length ≤ 1 + (rs.map List.length).sum := by
  have sub : ∀ (rs : List (List Str)) (gs : List (List Str)), gs.Nodup → (∀ x ∈ gs, x ≠ [] ∧ ∃ r ∈ rs, x <+: r) → gs.length ≤ (rs.map List.length).sum := by
    intro rs
    induction rs with
    | nil =>
      intro gs _ h
      cases gs with
      | nil => exact Nat.le_refl _
      | cons x _ =>
        obtain ⟨_, r, hr, _⟩ := h x List.mem_cons_self
        exact absurd hr (List.not_mem_nil)
    | cons r rs ih =>
      intro gs nd h
      have one : (gs.filter fun x => decide (x <+: r)).length ≤ r.length := by
        have s := List.Nodup.length_le_of_subset (l₂ := (List.range r.length).map fun k => r.take (k + 1)) (List.Pairwise.filter (fun x => decide (x <+: r)) nd) (fun x hx => by
          have px : x <+: r := of_decide_eq_true (List.mem_filter.mp hx).2
          have ne := (h x (List.mem_filter.mp hx).1).1
          have l := px.length_le
          have p : 0 < x.length := List.length_pos_iff.mpr ne
          refine List.mem_map.mpr ⟨x.length - 1, List.mem_range.mpr (by omega), ?_⟩
          rw [show x.length - 1 + 1 = x.length by omega]
          exact (List.prefix_iff_eq_take.mp px).symm)
        rw [List.length_map, List.length_range] at s
        exact s
      have two := ih (gs.filter fun x => !decide (x <+: r)) (List.Pairwise.filter _ nd) fun x hx => by
        obtain ⟨h1, h2⟩ := List.mem_filter.mp hx
        obtain ⟨n, q, hq, p⟩ := h x h1
        rcases List.mem_cons.mp hq with rfl | hq
        · rw [decide_eq_true p] at h2
          cases h2
        · exact ⟨n, q, hq, p⟩
      have all := (List.filter_append_perm (fun x => decide (x <+: r)) gs).length_eq
      rw [List.length_append] at all
      rw [List.map_cons, List.sum_cons]
      omega
  have nd := bef_nodup a.up
  have l2 := sub rs (gs.filter fun x => decide (x ≠ [])) (List.Pairwise.filter _ nd) fun x hx => by
    obtain ⟨h1, h2⟩ := List.mem_filter.mp hx
    have n : x ≠ [] := of_decide_eq_true h2
    rcases (a.mem x).mp h1 with e | z
    · exact absurd e n
    · exact ⟨n, z⟩
  have all := (List.filter_append_perm (fun x => decide (x ≠ [])) gs).length_eq
  rw [List.length_append] at all
  have rest : (gs.filter fun x => !decide (x ≠ [])).length ≤ 1 := by
    exact List.Nodup.length_le_of_subset (l₂ := [[]]) (List.Pairwise.filter (fun x => !decide (x ≠ [])) nd) fun x hx => by
      have h2 := (List.mem_filter.mp hx).2
      have : x = [] := by
        by_cases e : x = []
        · exact e
        · rw [decide_eq_true e] at h2
          cases h2
      rw [this]
      exact List.mem_singleton.mpr rfl
  omega
end Nm
namespace Nm
open PySem PySem.Spec PyProof.Rows L2 NmD PySem.SeqAt
section
variable {X : Cx}
/-! ### x in t, t a tuple of data -/
def rInT (K : PySem.W.Frag) (neg : Bool) : R2 := fun x y H Q => ∃ d ds, Dp K H x d ∧ Dp K H y (.tuple ds) ∧ shaped d = true ∧ shaped (.tuple ds) = true ∧ Q (.bl (xor neg (ds.any fun z => PyData.eqv z d))) H
theorem op_inT (hu : X.A.units + 65 < cLine) : OpR X (compareOp .In) (rInT X.K false) := by
  intro pins s σ H x y v u Q I rx ry ⟨d, ds, d1, d2, s1, s2, q⟩
  obtain ⟨as, r1⟩ := Dp.reads I d x v d1 rx
  obtain ⟨bs, r2⟩ := Dp.reads I (.tuple ds) y u d2 ry
  rw [Bool.false_xor] at q
  exact in_tuple_reads r2 r1 (canLay_of_shaped s2) (canLay_of_shaped s1) (room_in_shaped s1 hu) ⟨.bl _, H, I, rfl, q⟩
theorem op_notInT (hu : X.A.units + 65 < cLine) : OpR X (compareOp .NotIn) (rInT X.K true) := by
  intro pins s σ H x y v u Q I rx ry ⟨d, ds, d1, d2, s1, s2, q⟩
  obtain ⟨as, r1⟩ := Dp.reads I d x v d1 rx
  obtain ⟨bs, r2⟩ := Dp.reads I (.tuple ds) y u d2 ry
  rw [Bool.true_xor] at q
  exact notIn_tuple_reads r2 r1 (canLay_of_shaped s2) (canLay_of_shaped s1) (room_in_shaped s1 hu) ⟨.bl _, H, I, rfl, q⟩
/-! ### t < u of tuples that are alike -/
def rLtDt (K : PySem.W.Frag) : R2 := fun x y H Q => ∃ xs ys, Dp K H x (.tuple xs) ∧ Dp K H y (.tuple ys) ∧ PySem.W.alikeAll xs ys = true ∧ PyData.depthAll xs ≤ 40 ∧ Q (.bl (PyProof.Rows.lexLt itemOrd (PySem.W.keyToksAll xs) (PySem.W.keyToksAll ys))) H
theorem op_ltDt (hu : X.A.units + 65 < cLine) : OpR X (compareOp .Lt) (rLtDt X.K) := by
  intro pins s σ H x y v u Q I rx ry ⟨xs, ys, d1, d2, al, dp, q⟩
  obtain ⟨as, r1⟩ := Dp.reads I (.tuple xs) x v d1 rx
  obtain ⟨bs, r2⟩ := Dp.reads I (.tuple ys) y u d2 ry
  have lim := dep xs ys dp
  refine PySem.W.rcLt_alike (.tuple xs) (.tuple ys) X.A s v u as bs r1 r2 (by simpa [PySem.W.alike] using al) (fun z => nomatch z) (by omega) _ _ _ _ ?_
  rw [PySem.W.dataLt_tuple]
  exact ⟨.bl _, H, I, rfl, q⟩
/-! ### dicts keyed by tuples -/
theorem dset_tk {pins : List (Addr × Obj)} {σ : L2.St} {H : Hp} {s : Shared} {E : Value → Shared → Prop} {D b : Addr} {ents : List (List Key × V)} {k : List Key} {y : V} {r : Value} {Q : Unit → Shared → Prop} (hu : X.A.units + 1 < cLine) (I : Inv X pins σ H s)
    (hD : H D = some (.dT ents)) (hb : H b = some (.tup (k.map kV))) (few : ents.length < sizeLine) (rv : RelV y r) (h : ∀ s', Inv X pins σ (upd H D (.dT (putK ents k y))) s' → Q () s') : wpAny (model X.prog X.w) X.A (dictSet D (.ref b) r) Q E s := by
  obtain ⟨z, low, xs, rel, dd⟩ := dt_of I.hok hD
  have fit : xs.length ≤ sizeLine := (Paired.length rel) ▸ z
  have more := length_putK ents k y
  refine wpAny_dictSet_heap (hsz := fit) (by show X.A.units < cLine; omega) (key_of I.hok hb) dd fun h' nd sb => h _ ?_
  obtain ⟨ob, es, ep, g1, g2, g3, g4, _, g5⟩ := nd
  refine d_write I (by rw [hD]; exact True.intro) sb ⟨ob, g1⟩ ⟨by omega, low, _, (rel.put k hb rv).keeps fun c us ec => ?_, ob, es, ep, g1, g2, g3, g4, g5⟩
  rw [upd_ne (ne_of ec hD (fun z => nomatch z))]
  exact ec
/-- {k: v}, k a tuple -/
def tDisp1 (tk tv : TE) : TE := fun σ H Q => ∀ p, H p = none → tk σ (upd H p (.dT [])) fun x H1 => tv σ H1 fun y H2 => H2 p = some (.dT []) ∧ ∃ (k : List Key) (b : Addr), x = .ref b ∧ H2 b = some (.tup (k.map kV)) ∧ Q (.ref p) (upd H2 p (.dT [(k, y)]))
theorem pe_disp1 {kx vx : Expr} {pos : Pos} {tk tv : TE} (hu : X.A.units + 1 < cLine) (hk : PE X kx tk) (hv : PE X vx tv) : PE X (.Dict [some kx] [vx] pos) (tDisp1 tk tv) := by
  refine ⟨fun pins s σ H Q I q => ?_⟩
  have free := I.hok.fresh (Nat.le_refl s.heap.objs.size)
  have I1 := I.laid (a := s.heap.objs.size) (o := .dT []) (h' := s.heap.push { cls := .type "dict", data := .dict #[] }) (t' := s.toks) (fun _ _ e => Heap.get?_push_of_some _ e) (Nat.le_refl _) (dt_empty s.heap I.big)
  have room : (tupleKind (mixKind X.prog X.w)).room X.A := by show X.A.units < cLine; omega
  rw [arm_eval_Dict, zip_pairTrees [some kx] [vx] X.env pos rfl rfl, dictDisplay_pairs (pairTrees [some kx] [vx] X.env pos) (fun e => by have z := congrArg List.length e; rw [pairTrees_length _ _ _ _ rfl rfl] at z; cases z) (by rw [pairTrees_length _ _ _ _ rfl rfl]; exact (by decide : (1 : Nat) < 17))]
  refine wpAny_bind (wpAny_standAt (wpAny_bind (wpAny_subDictH (knd := tupleKind (mixKind X.prog X.w)) room (by rw [pairTrees_length _ _ _ _ rfl rfl]; exact (by decide : (1 : Nat) ≤ 15)) ?_)))
  refine pairTrees_cons_walk (thn (hk.run pins _ σ _ _ I1 (q _ free)) fun u s1 ⟨x, H1, I2, rx, q1⟩ => thn (hv.run pins s1 σ H1 _ I2 q1) fun w2 s2 ⟨y, H2, I3, ry, q2⟩ => pairTrees_nil_walk ?_)
  obtain ⟨e, k, b, rfl, hb, q3⟩ := q2
  cases (show u = Value.ref b from rx)
  obtain ⟨_, low, xs, rel, dd⟩ := dt_of I3.hok e
  cases rel
  refine ⟨[(k, b, w2)], ⟨rfl, rfl, key_of I3.hok hb, trivial⟩, dd, fun h' tk nd sb => wpAny_pure ⟨.ref s.heap.objs.size, _, ?_, rfl, q3⟩⟩
  obtain ⟨ob, es, ep, g1, g2, g3, g4, _, g5⟩ := nd
  refine d_write I3 (by rw [e]; exact True.intro) sb ⟨ob, g1⟩ ⟨by show 1 ≤ sizeLine; decide, low, _, KT.keeps (H := H2) (Paired.cons ⟨rfl, hb, ry⟩ Paired.nil) fun c us ec => ?_, ob, es, ep, g1, g2, g3, g4, g5⟩
  rw [upd_ne (ne_of ec e (fun z => nomatch z))]
  exact ec
/-! ### {row: v for row in ..} -/
/-- what a dict made by a walk asks, its keys being tuples -/
def tDcT (wi : TI) (g : TG) (tk tv : TE) (vs : List Nat) : TE := fun σ H Q => wi σ H fun J H1 => ∀ D, H1 D = none → ∃ W : Nat → Nat → Hp → Prop,
  (∃ m, W 0 m (upd H1 D (.dT []))) ∧ ∀ i m H, W i m H → (J.stop i H ∧ Q (.ref D) H) ∨ (J.go i H ∧ ∃ Nx : Hp → Prop, (∀ H', Nx H' → ∃ m', m' < m ∧ W (i + 1) m' H') ∧
    ∀ x H', J.yld i H x H' → g x (wipe σ vs) H' fun σ2 H2 => wipe σ2 vs = wipe σ vs ∧ tk σ2 H2 fun y H4 => tv σ2 H4 fun z H5 =>
      ∃ (ents : List (List Key × V)) (k : List Key) (b : Addr), y = .ref b ∧ H5 D = some (.dT ents) ∧ H5 b = some (.tup (k.map kV)) ∧ ents.length < sizeLine ∧ Nx (upd H5 D (.dT (putK ents k z))))
theorem pe_dcT {kx vx tg iter : Expr} {scope : Scope} {own : List (PySem.Str × Nat)} {pos : Pos} {wi : TI} {g : TG} {tk tv : TE} (hc : X.calm = true) (hN : X.N.Nodup) (hu : X.A.units + 1 < cLine) (hi : PI X tg iter wi) (ok : BlkOk X.N X.env.scope scope own)
    (hg : ∀ (s : Shared) (H : Hp) (C : Addr) (cl : List (PySem.Str × Addr)) (fp : List Addr), PG (X.blk s H scope (compEnvC scope cl C X.env) fp) tg g)
    (hk : ∀ (s : Shared) (H : Hp) (C : Addr) (cl : List (PySem.Str × Addr)) (fp : List Addr), PE (X.blk s H scope (compEnvC scope cl C X.env) fp) kx tk)
    (he : ∀ (s : Shared) (H : Hp) (C : Addr) (cl : List (PySem.Str × Addr)) (fp : List Addr), PE (X.blk s H scope (compEnvC scope cl C X.env) fp) vx tv)
    (hs : ∀ x, foldedSetIterable iter X.env x = pure x := by intro _; rfl) : PE X (.DictComp kx vx [⟨tg, iter, [], 0⟩] scope pos) (tDcT wi g tk tv (own.map (·.2))) := by
  refine ⟨fun pins s σ H Q I h => ?_⟩
  rw [arm_eval_DictComp]
  have closed : ∀ y ∈ scope.names, y.2 = .free → ∃ c, X.env.cells.lookup y.1 = some c := fun y hy e => (ok.free y hy e).elim (fun k => I.ok.has _ (.inl k)) fun k => I.ok.has _ (.inr k)
  refine wpAny_comprehension_free (use := none) rfl hs (closure_ok closed) ok.kind (fun y hy e => by rw [ok.uniq y hy, e]) (thn (hi.run pins s σ H _ I h) fun xv s1 hx => thn hx fun itv s2 h2 => ?_)
  obtain ⟨it, fp, tn, J, H2, e, I2, T, st2, f2, q⟩ := h2
  subst e
  refine wpAny_newObj_type (newEnv_comp ?_)
  generalize hD : s2.heap.objs.size = D
  have hDn : H2 D = none := I2.hok.fresh (Nat.le_of_eq hD)
  obtain ⟨W, ⟨m0, w0⟩, turn⟩ := q D hDn
  generalize hs3 : ({ s2 with heap := s2.heap.push { cls := .type "dict", data := .dict #[] } } : Shared) = s3
  have h3 : s3.heap = s2.heap.push { cls := .type "dict", data := .dict #[] } := by rw [← hs3]
  generalize hH3 : upd H2 D (.dT []) = H3 at w0
  have I3 : Inv X pins σ H3 s3 := by
    rw [← hs3, ← hH3]
    refine I2.laid (t' := s2.toks) (fun b o e => Heap.get?_push_of_some _ e) (Nat.le_of_eq hD) ?_
    rw [← hD]
    exact dt_empty s2.heap I2.big
  have below : ∀ b ∈ fp, b < s2.heap.objs.size := fun b hb => by
    obtain ⟨o, e, _⟩ := T.obj _ _ st2 b hb
    exact Heap.lt_size e
  have f3 : ∀ b ∈ fp, FpOk X pins H3 b ∧ b < s3.heap.objs.size := fun b hb => by
    have lt := below b hb
    have ne : b ≠ D := by rw [← hD]; exact Nat.ne_of_lt lt
    refine ⟨⟨?_, (f2 b hb).2⟩, by rw [h3, Heap.size_push]; exact Nat.lt_succ_of_lt lt⟩
    rw [← hH3, upd_ne ne]
    exact (f2 b hb).1
  have st3 : tn 0 s3.heap := T.keep _ _ _ st2 fun b _ o e => by rw [h3]; exact Heap.get?_push_of_some _ e
  have I4 := block_start I3 ok hN f3
  generalize hcl : cellsFrom (s3.heap.objs.size + 1) scope.names (cloFrom X.env.cells scope.names []) = cl at I4
  have pg := hg s3 H3 s3.heap.objs.size cl fp
  have pk := hk s3 H3 s3.heap.objs.size cl fp
  have pe := he s3 H3 s3.heap.objs.size cl fp
  have goal : codeAny (model X.prog X.w) X.A (.compStart (.DictComp kx vx [⟨tg, iter, [], 0⟩] scope pos) 0 (.ref it) (.ref D) (compEnvC scope cl s3.heap.objs.size X.env))
      (compPost (model X.prog X.w) X.A X.xe none (EP X pins σ Q) (.ref D) s3.heap.objs.size) { s3 with heap := pushCells (s3.heap.push { cls := .type "dict", data := .dict #[] }) scope.names } := by
    have free3 : ∀ b ∈ fp, H3 b = none := fun b hb => (f3 b hb).1.1
    generalize hce : compEnvC scope cl s3.heap.objs.size X.env = ce at I4 pg pk pe ⊢
    have locals : ce.locals = s3.heap.objs.size := by subst hce; rfl
    generalize hs4 : ({ s3 with heap := pushCells (s3.heap.push { cls := .type "dict", data := .dict #[] }) scope.names } : Shared) = s4 at I4 ⊢
    have st4 : tn 0 s4.heap := T.keep _ _ _ st3 fun b _ o e => by rw [← hs4]; exact pushCells_keeps _ _ _ _ (Heap.get?_push_of_some _ e)
    have stat : ∀ {σ' : L2.St} {H' : Hp} {s' : Shared}, Inv (X.blk s3 H3 scope ce fp) [] σ' H' s' → (∀ b ∈ fp, H' b = none) → ∀ b ∈ fp, FpOk (X.blk s3 H3 scope ce fp) [] H' b := fun {σ' H' s'} I' hn b hb =>
      ⟨hn b hb, (I'.ok.exf b hb).1, I'.ok.exfs b hb, .inl hb, fun x c e => (I'.ok.exf b hb).2 x c e, fun p hp => absurd (show p ∈ ([] : List (Addr × Obj)) ++ [] from hp) (by simp)⟩
    have loop : codeAny (model X.prog X.w) X.A (.compLoop (.DictComp kx vx [⟨tg, iter, [], 0⟩] scope pos) 0 (.ref it) (.ref D) ce) (compPost (model X.prog X.w) X.A X.xe none (EP X pins σ Q) (.ref D) s3.heap.objs.size) s4 := by
      refine compLoop_anyD (fun n s' => ∃ i H', Inv (X.blk s3 H3 scope ce fp) [] (wipe σ (own.map (·.2))) H' s' ∧ tn i s'.heap ∧ (∀ b ∈ fp, H' b = none) ∧ W i n H') ?_ m0 ⟨0, H3, I4, st4, free3, w0⟩
      rintro n s5 ⟨i, H5, I5, st5, n5, w5⟩
      rcases turn i n H5 w5 with ⟨stop, qq⟩ | ⟨go, Nx, hNx, step⟩
      · refine thnF (T.done (X.blk s3 H3 scope ce fp) rfl rfl rfl hc i [] s5 _ H5 (fun _ _ => False) I5 (stat I5 n5) st5 stop) fun r s6 ⟨hr, I6⟩ => ?_
        subst hr
        have I7 : Inv X pins σ H5 s6 := I3.call' (ch := fp) I6.os I6.base I6.hok I6.bare fun b hb => by
          have z := (f3 b hb).1
          exact ⟨z.2.2.2.1, z.2.1, z.2.2.2.2.1, z.2.2.2.2.2⟩
        have nC : H5 s3.heap.objs.size = none := by
          rw [← locals]
          exact I6.free
        obtain ⟨m, hn, _⟩ := I6.loc
        have hn' : s6.heap.Ns s3.heap.objs.size m := by
          rw [← locals]
          exact hn
        refine ⟨m, hn', fun h'' sb => ?_⟩
        obtain ⟨z0, z1, z2, z3, z4, z5⟩ := I3.fpOk (Nat.le_refl _) nC
        exact ⟨.ref D, H5, I7.turned (t' := s6.toks) (fun b o hb e => (sb.2 b hb).trans e) z0 z1 z3 z4 z5, rfl, qq⟩
      · refine thnF (T.item (X.blk s3 H3 scope ce fp) rfl rfl rfl hc i [] s5 _ H5 (fun _ _ => False) I5 (stat I5 n5) st5 go) fun r s6 ⟨u, hr, h6⟩ => ?_
        subst hr
        refine thnF h6 fun _ s7 ⟨x, H7, I7, r7, y7, st7, n7⟩ => ?_
        have I7' := I7.pinned (stat I7 n7) (T.obj _ _ st7)
        refine thnF (pg.run _ s7 _ H7 x u _ I7' r7 (step x H7 y7)) fun _ s8 ⟨σ8, H8, I8, hw8, q8⟩ => ?_
        refine wpAny_pure ?_
        rw [if_pos rfl]
        refine thnF (pk.run _ s8 σ8 H8 _ I8 q8) fun z s10 ⟨yv, H10, I10, r10, q10⟩ => ?_
        refine thnF (pe.run _ s10 σ8 H10 _ I10 q10) fun z2 s11 ⟨zv, H11, I11, r11, ents, k, b, ey, hD11, hb11, room, nx⟩ => ?_
        subst ey
        cases (show z = Value.ref b from r10)
        refine dset_tk (X := X.blk s3 H3 scope ce fp) hu I11 hD11 hb11 room r11 fun s12 I12 => ?_
        obtain ⟨m', hm, w'⟩ := hNx _ nx
        have pin' : ∀ c ∈ fp, ∀ o, s7.heap.get? c = some o → s12.heap.get? c = some o ∧ upd H11 D (.dT (putK ents k zv)) c = none := fun c hc' o e =>
          let z := I12.pin (c, o) (List.mem_append_right _ (List.mem_append_right _ (mem_pinsAt hc' e)))
          ⟨z.1, z.2.1⟩
        have len : (wipe σ (own.map (·.2))).length = σ8.length := by rw [← hw8, wipe_length]
        refine ⟨m', hm, i + 1, _, (I12.unpinned (pins := [])).weak len (fun j v e => ?_), T.keep _ _ _ st7 fun c hc' o e => (pin' c hc' o e).1, fun c hc' => ?_, w'⟩
        · rw [← hw8] at e
          exact (wipe_some e).1
        · obtain ⟨o, e, _⟩ := T.obj _ _ st7 c hc'
          exact (pin' c hc' o e).2
    exact codeAny_compStart_dict loop (T.self X.A 0 _ _ _ st4 loop)
  exact goal
/-- the same over a tuple that stands still -/
theorem dcT_tup {K : PySem.W.Frag} {a : Addr} {xs : List V} {g : TG} {tk tv : TE} {vs : List Nat} {σ : L2.St} {H1 : Hp} {D : Addr} {Qd : Hp → Prop} (Pv : Nat → Hp → Prop) (h0 : Pv 0 (upd H1 D (.dT [])))
    (hl : ∀ i H, i ≤ xs.length → Pv i H → SqT K H a xs)
    (hs : ∀ i x H, xs[i]? = some x → Pv i H → g x (wipe σ vs) H fun σ2 H2 => wipe σ2 vs = wipe σ vs ∧ tk σ2 H2 fun y H4 => tv σ2 H4 fun z H5 =>
      ∃ (ents : List (List Key × V)) (k : List Key) (b : Addr), y = .ref b ∧ H5 D = some (.dT ents) ∧ H5 b = some (.tup (k.map kV)) ∧ ents.length < sizeLine ∧ Pv (i + 1) (upd H5 D (.dT (putK ents k z)))) (hd : ∀ H, Pv xs.length H → Qd H) :
    ∃ W : Nat → Nat → Hp → Prop, (∃ m, W 0 m (upd H1 D (.dT []))) ∧ ∀ i m H, W i m H → ((Itt K a).stop i H ∧ Qd H) ∨ ((Itt K a).go i H ∧ ∃ Nx : Hp → Prop, (∀ H', Nx H' → ∃ m', m' < m ∧ W (i + 1) m' H') ∧
      ∀ x H', (Itt K a).yld i H x H' → g x (wipe σ vs) H' fun σ2 H2 => wipe σ2 vs = wipe σ vs ∧ tk σ2 H2 fun y H4 => tv σ2 H4 fun z H5 =>
        ∃ (ents : List (List Key × V)) (k : List Key) (b : Addr), y = .ref b ∧ H5 D = some (.dT ents) ∧ H5 b = some (.tup (k.map kV)) ∧ ents.length < sizeLine ∧ Nx (upd H5 D (.dT (putK ents k z)))) := by
  refine ⟨fun i m H => m = xs.length - i ∧ i ≤ xs.length ∧ Pv i H, ⟨xs.length, by simp, Nat.zero_le _, h0⟩, ?_⟩
  rintro i m H ⟨rfl, hi, p⟩
  have q := hl i H hi p
  rcases Nat.lt_or_ge i xs.length with lt | ge
  · refine .inr ⟨⟨xs, xs[i], q, by simp [lt]⟩, Pv (i + 1), fun H' p' => ⟨xs.length - (i + 1), by omega, rfl, lt, p'⟩, fun x H' y => ?_⟩
    obtain ⟨e, y⟩ := y
    subst e
    exact hs i x _ (y xs q) p
  · have e : i = xs.length := by omega
    subst e
    exact .inl ⟨⟨xs, q, Nat.le_refl _⟩, hd H p⟩
/-! ### sorted(d), the keys being rows of texts -/
def keyRow (ws : List Str) : List Key := ws.map Sum.inr
theorem kV_row (ws : List Str) : (keyRow ws).map kV = ws.map V.str := by
  unfold keyRow
  rw [List.map_map]
  rfl
/-- what stands at a tuple's address -/
def tupOf (H : Hp) (x : V) : List V := match x with
  | .ref a => match H a with | some (.tup xs) => xs | _ => []
  | _ => []
def strOf : V → Str
  | .str z => z
  | _ => Str.empty
/-- the row of texts that is told by a value -/
def rowOf (H : Hp) (x : V) : List Str := (tupOf H x).map strOf
theorem rowOf_at {H : Hp} {a : Addr} {ws : List Str} (h : H a = some (.tup (ws.map V.str))) : rowOf H (.ref a) = ws := by
  unfold rowOf tupOf
  simp only [h]
  rw [List.map_map]
  exact List.map_id' ws
def rSortKD : List V → Hp → VK → Prop := fun vs H Q => ∃ (d : Addr) (rs : List (List Str)) (ents : List (List Key × V)), vs = [V.ref d] ∧ H d = some (.dT ents) ∧ ents.map (·.1) = rs.map keyRow ∧
  ∀ (bs ys : List V) (p : Addr), Paired (fun (b : V) (ws : List Str) => ∃ a, b = V.ref a ∧ H a = some (.tup (ws.map V.str))) bs rs →
    SrtO.Srtd (ltV fun x => rowL (rowOf H x)) ys → SrtO.Stb (ltV fun x => rowL (rowOf H x)) ys bs → H p = none → Q (.ref p) (upd H p (.lst ys))
theorem keys_rows {H : Hp} : ∀ {ents : List (List Key × V)} {xs : List (List Key × Addr × Value)} {rs : List (List Str)}, KT H ents xs → ents.map (·.1) = rs.map keyRow →
    Paired (fun (b : V) (ws : List Str) => ∃ a, b = V.ref a ∧ H a = some (.tup (ws.map V.str))) (xs.map fun x => V.ref x.2.1) rs
  | _, _, [], r, e => by
    cases r with
    | nil => exact .nil
    | cons _ _ => cases e
  | _, _, ws :: rs, r, e => by
    cases r with
    | nil => cases e
    | cons h t =>
      rw [List.map_cons, List.map_cons] at e
      injection e with e1 e2
      obtain ⟨_, h2, _⟩ := h
      rw [e1, kV_row] at h2
      exact .cons ⟨_, rfl, h2⟩ (keys_rows t e2)
theorem ref_vals : ∀ as : List Addr, Vals (as.map V.ref) (as.map Value.ref)
  | [] => .nil
  | _ :: as => .cons rfl (ref_vals as)
theorem cr_sortKD (hc : X.calm = true) (hu : X.A.units + 66 < cLine) : CallR X (.builtin "sorted") rSortKD := by
  intro pins s σ H vs us Q I r ⟨d, rs, ents, e0, hd, hk, q⟩
  subst e0
  rw [Vals.ref1 r]
  obtain ⟨zf, low, xs, pr, o, es, ep, ho, hx, hdt, he, _, _⟩ := dt_of I.hok hd
  have l1 : es.size = xs.length := size_of_entries he
  have l2 : ents.length = xs.length := Paired.length pr
  refine Calls.call_function_entry kind_sorted plain_sorted entry_sorted (args_sorted1 _) ?_
  unfold Builtin.«sorted»
  refine wpAny_bind (m := checkCount "sorted" 1 1 _) (wpAny_pure ?_)
  refine wpAny_bind (PySem.W.kdu_collect (A := X.A.in1) (kdl_raw low hx hdt) (I.ok.hd hc) ho (by omega) fun h' tk acc kp it => ?_)
  have ea : acc.toList = (xs.map fun x => x.2.1).map Value.ref := by
    have len : acc.toList.length = xs.length := by rw [Array.length_toList, it.1]; exact l1
    apply List.ext_getElem?
    intro j
    rw [List.getElem?_map, List.getElem?_map]
    cases hj : acc.toList[j]? with
    | none =>
      have := List.getElem?_eq_none_iff.mp hj
      rw [List.getElem?_eq_none (by omega)]
      rfl
    | some v =>
      obtain ⟨en, hen, hv⟩ := it.2 j v (by rw [← Array.getElem?_toList]; exact hj)
      have w := entry_at he j
      rw [hen] at w
      cases hb : xs[j]? with
      | none =>
        rw [hb] at w
        cases w
      | some b =>
        rw [hb] at w
        have e2 : en = entryOfKey (tupleKind (mixKind X.prog X.w)) b := Option.some.inj w
        rw [hv, e2]
        rfl
  have I1 : Inv X pins σ H { s with heap := h', toks := tk } := I.kept kp
  have hz : acc.toList.length ≤ sizeLine := by rw [ea, List.length_map, List.length_map]; omega
  refine wpAny_bind (wpAny_newList ?_ hz)
  have pb := keys_rows pr hk
  have gb : ∀ v ∈ acc.toList, ∃ (a : Addr) (ws : List Str), v = Value.ref a ∧ H a = some (.tup (ws.map V.str)) := fun v hv => by
    rw [ea] at hv
    obtain ⟨a, ha, rfl⟩ := List.mem_map.mp hv
    have ha' : V.ref a ∈ xs.map fun x => V.ref x.2.1 := by
      obtain ⟨x, hx1, hx2⟩ := List.mem_map.mp ha
      exact List.mem_map.mpr ⟨x, hx1, by rw [hx2]⟩
    obtain ⟨i, hi⟩ := List.mem_iff_getElem?.mp ha'
    obtain ⟨ws, _, a', e, h2⟩ := paired_at pb i _ hi
    cases e
    exact ⟨a, ws, rfl, h2⟩
  have R : NmD.Rows h' acc.toList (fun u => rowL (rowOf H (backV u))) := by
    refine ⟨fun v hv => ?_, fun v hv => pure_rowL _, fun v hv u hu => alike_rowL _ _, fun v hv => by rw [depth_rowL]; decide⟩
    obtain ⟨a, ws, rfl, ha⟩ := gb v hv
    show ∃ as, Reads h' (.ref a) (.tuple (rowL (rowOf H (.ref a)))) as
    rw [rowOf_at ha]
    exact Dp.reads I1 _ (.ref a) (.ref a) (dp_row ha) rfl
  have hoL : (h'.push (seqObj "list" acc.toList.toArray 0)).get? h'.objs.size = some (seqObj "list" acc.toList.toArray 0) := Heap.get?_push_size _ rfl
  show wpAny _ _ _ _ _ { s with heap := h'.push (seqObj "list" acc.toList.toArray 0), toks := tk }
  refine wpAny_bind (wpAny_holding (wpAny_call_entry slot_list_sort ⟨_, hoL, rfl⟩ entry_list_sort
    (SrtO.list_sort_ord (s := { s with heap := h'.push (seqObj "list" acc.toList.toArray 0), toks := tk }) (NmD.ltD_swo fun u => rowL (rowOf H (backV u))) hoL hz
      (fun two => NmD.rows_sortable (s := { s with heap := h'.push (seqObj "list" acc.toList.toArray 0), toks := tk }) (R.keep fun b ob e _ => Heap.get?_push_of_some _ e) (by show X.A.units + 1 + 1 + 64 < cLine; omega) (by omega) fun ob e => ?_)
      fun out h1 h2 => ⟨_, rfl, ?_⟩) (args_list_sort _)))
  · have e' : some ob = some (seqObj "list" acc.toList.toArray 0) := e.symm.trans hoL
    cases e'
    intro c
    exact absurd (Value.type.inj c) (by decide)
  · obtain ⟨n, hn⟩ := sortedHeap_at (vs := acc.toList) (out := out.toArray) hoL
    have allRef : ∀ u ∈ out, ∃ a, u = Value.ref a := fun u hu => by
      obtain ⟨a, _, e, _⟩ := gb u (h2.perm.mem_iff.mp hu)
      exact ⟨a, e⟩
    have eb : acc.toList.map backV = xs.map fun x => V.ref x.2.1 := by
      rw [ea, List.map_map, List.map_map]
      rfl
    have hb : SrtO.Stb (ltV fun x => rowL (rowOf H x)) (out.map backV) (xs.map fun x => V.ref x.2.1) := by
      rw [← eb]
      exact SrtO.Stb.map (ltV_swo _) backV h2
    have fit : (out.map backV).length ≤ sizeLine := by rw [hb.len, List.length_map]; omega
    refine wpAny_pure ⟨_, rfl, .ref h'.objs.size, upd H h'.objs.size (.lst (out.map backV)), I1.laid (t' := tk) (fun b u e => ?_) (Nat.le_refl _) ⟨fit, out, n, vals_back allRef, hn⟩, rfl, q _ _ _ pb (SrtO.srtd_map h1) hb (I1.hok.fresh (Nat.le_refl _))⟩
    have lt := Heap.lt_size e
    rw [sortedHeap_old (Nat.ne_of_lt lt) (by rw [size_push']; exact Nat.lt_succ_of_lt lt)]
    exact Heap.get?_push_of_some _ e
end
end Nm
namespace Nm
open PySem PySem.Spec PyProof.Rows L2 NmD
/-- all tuples stand -/
def Tups (H H' : Hp) : Prop := ∀ a xs, H a = some (.tup xs) → H' a = some (.tup xs)
theorem Tups.refl (H : Hp) : Tups H H := fun _ _ h => h
theorem Tups.trans {H H1 H2 : Hp} (a : Tups H H1) (b : Tups H1 H2) : Tups H H2 := fun c o h => b c o (a c o h)
theorem tups_same {H H' : Hp} (g : Same H H') : Tups H H' := fun a xs h => g a _ h
theorem tups_lst {H : Hp} {D : Addr} {us vs : List V} (h : H D = some (.lst us)) : Tups H (upd H D (.lst vs)) := fun a xs e => by
  rw [upd_ne (fun z => by rw [z, h] at e; cases e)]
  exact e
theorem tups_dT {H : Hp} {D : Addr} {us vs : List (List Key × V)} (h : H D = some (.dT us)) : Tups H (upd H D (.dT vs)) := fun a xs e => by
  rw [upd_ne (fun z => by rw [z, h] at e; cases e)]
  exact e
/-- a tuple of things that are told by β -/
def TupOf {β : Type} (R : Hp → V → β → Prop) (H : Hp) (a : Addr) (bs : List β) : Prop := ∃ xs, H a = some (.tup xs) ∧ Paired (R H) xs bs
def LstOf {β : Type} (R : Hp → V → β → Prop) (H : Hp) (a : Addr) (bs : List β) : Prop := ∃ xs, H a = some (.lst xs) ∧ Paired (R H) xs bs
/-- what is told stays as long as tuples do -/
def Stays {β : Type} (R : Hp → V → β → Prop) : Prop := ∀ H H' x b, Tups H H' → R H x b → R H' x b
theorem TupOf.keep {β : Type} {R : Hp → V → β → Prop} (st : Stays R) {H H' : Hp} (t : Tups H H') {a : Addr} {bs : List β} (h : TupOf R H a bs) : TupOf R H' a bs := by
  obtain ⟨xs, h1, h2⟩ := h
  exact ⟨xs, t _ _ h1, paired_mono (fun _ _ => st _ _ _ _ t) h2⟩
theorem stays_tup {β : Type} {R : Hp → V → β → Prop} (st : Stays R) : Stays (fun H x (bs : List β) => ∃ a, x = V.ref a ∧ TupOf R H a bs) := fun H H' x bs t ⟨a, e, h⟩ => ⟨a, e, h.keep st t⟩
theorem LstOf.same {β : Type} {R : Hp → V → β → Prop} (st : Stays R) {H H' : Hp} (g : Same H H') {a : Addr} {bs : List β} (h : LstOf R H a bs) : LstOf R H' a bs := by
  obtain ⟨xs, h1, h2⟩ := h
  exact ⟨xs, g _ _ h1, paired_mono (fun _ _ => st _ _ _ _ (tups_same g)) h2⟩
/-- a word -/
def StrV (_ : Hp) (x : V) (z : Str) : Prop := x = .str z
theorem stays_str : Stays StrV := fun _ _ _ _ _ h => h
theorem strs_vs {H : Hp} : ∀ {xs : List V} {zs : List Str}, Paired (StrV H) xs zs → xs = zs.map V.str
  | _, _, .nil => rfl
  | _, _, .cons h t => by
    rw [show _ = V.str _ from h, strs_vs t]
    rfl
theorem strs_pv {H : Hp} : ∀ zs : List Str, Paired (StrV H) (zs.map V.str) zs
  | [] => .nil
  | _ :: zs => .cons rfl (strs_pv zs)
def BlV (_ : Hp) (x : V) (b : Bool) : Prop := x = .bl b
theorem stays_bl : Stays BlV := fun _ _ _ _ _ h => h
theorem bls_vs {H : Hp} : ∀ {xs : List V} {bs : List Bool}, Paired (BlV H) xs bs → xs = bs.map V.bl
  | _, _, .nil => rfl
  | _, _, .cons h t => by
    rw [show _ = V.bl _ from h, bls_vs t]
    rfl
def IntV (_ : Hp) (x : V) (n : Int) : Prop := x = .int n
theorem stays_int : Stays IntV := fun _ _ _ _ _ h => h
theorem ints_vs {H : Hp} : ∀ {xs : List V} {ns : List Int}, Paired (IntV H) xs ns → xs = ns.map V.int
  | _, _, .nil => rfl
  | _, _, .cons h t => by
    rw [show _ = V.int _ from h, ints_vs t]
    rfl
/-- a row -/
def RwAt (H : Hp) (x : V) (ws : List Str) : Prop := ∃ r, x = .ref r ∧ H r = some (.tup (ws.map V.str))
theorem stays_rw : Stays RwAt := fun _ _ _ _ t ⟨r, e, h⟩ => ⟨r, e, t _ _ h⟩
abbrev GmAt := TupOf RwAt
abbrev GlAt := LstOf RwAt
theorem GmAt.keep {H H' : Hp} (t : Tups H H') {a : Addr} {rs : List (List Str)} (h : GmAt H a rs) : GmAt H' a rs := TupOf.keep stays_rw t h
theorem paired_fmap {α β γ : Type} {R : α → β → Prop} (f : β → Bool) (g : β → γ) (l : List β) (i : Nat) (b : β) (h : l[i]? = some b) : ((l.take (i + 1)).filter f).map g = ((l.take i).filter f).map g ++ (if f b = true then [g b] else []) := by
  rw [take_one h, List.filter_append, List.map_append]
  by_cases c : f b = true
  · rw [if_pos c, List.filter_cons_of_pos c]
    rfl
  · rw [if_neg c, List.filter_cons_of_neg c]
    rfl
theorem fmap_one {β γ : Type} (f : β → Bool) (g : β → γ) (l : List β) (i : Nat) (b : β) (h : l[i]? = some b) : ((l.take (i + 1)).filter f).map g = ((l.take i).filter f).map g ++ (if f b = true then [g b] else []) := by
  rw [take_one h, List.filter_append, List.map_append]
  by_cases c : f b = true
  · rw [if_pos c, List.filter_cons_of_pos c]
    rfl
  · rw [if_neg c, List.filter_cons_of_neg c]
    rfl
theorem fmap_len {β γ : Type} (f : β → Bool) (g : β → γ) (l : List β) (i : Nat) : (((l.take i).filter f).map g).length ≤ l.length := by
  rw [List.length_map]
  exact Nat.le_trans (List.length_filter_le _ _) (by rw [List.length_take]; exact Nat.min_le_right _ _)
/-- a comprehension that only reads: over n items bs, those with f, each made by m; what is made is told by R -/
theorem lcS {J : It} {n : Nat} {G : Hp → Prop} {Y : Nat → Hp → V → Hp → Prop} (wk : Walk J n G Y) {β γ : Type} {R : Hp → V → γ → Prop} (st : Stays R) (bs : List β) (f : β → Bool) (m : β → γ) {H0 : Hp} (hn : n = bs.length) (hz : bs.length ≤ 100000) (hG : ∀ H, Same H0 H → G H)
    {g : TG} {tt : TT} {te : TE} {vs : List Nat} {σ : L2.St} {D : Addr} {Qd : Hp → Prop} (hD : H0 D = none)
    (hs : ∀ (i : Nat) (x : V) (b : β) (H H' : Hp) (Nx : Hp → Prop), bs[i]? = some b → Y i H x H' → Same H0 H → (f b = false → ∀ H2, Same H H2 → Nx H2) →
      (f b = true → ∀ y H2, Same H H2 → R H2 y (m b) → ∃ acc, H2 D = some (.lst acc) ∧ acc.length < sizeLine ∧ Nx (upd H2 D (.lst (acc ++ [y])))) →
      g x (wipe σ vs) H' fun σ2 H2 => wipe σ2 vs = wipe σ vs ∧ tt σ2 H2 fun c H3 => if c = true then te σ2 H3 fun y H4 => ∃ acc, H4 D = some (.lst acc) ∧ acc.length < sizeLine ∧ Nx (upd H4 D (.lst (acc ++ [y]))) else Nx H3)
    (hd : ∀ H, Same H0 H → LstOf R H D ((bs.filter f).map m) → Qd H) :
    ∃ W : Nat → Nat → Hp → Prop, (∃ m, W 0 m (upd H0 D (.lst []))) ∧ ∀ i m H, W i m H → (J.stop i H ∧ Qd H) ∨ (J.go i H ∧ ∃ Nx : Hp → Prop, (∀ H', Nx H' → ∃ m', m' < m ∧ W (i + 1) m' H') ∧
      ∀ x H', J.yld i H x H' → g x (wipe σ vs) H' fun σ2 H2 => wipe σ2 vs = wipe σ vs ∧ tt σ2 H2 fun c H3 => if c = true then te σ2 H3 fun y H4 => ∃ acc, H4 D = some (.lst acc) ∧ acc.length < sizeLine ∧ Nx (upd H4 D (.lst (acc ++ [y]))) else Nx H3) := by
  subst hn
  have big : (100000 : Nat) < sizeLine := by decide
  refine lc_it wk (fun i H => Same H0 H ∧ LstOf R H D (((bs.take i).filter f).map m)) ⟨same_new hD, [], upd_same, .nil⟩ (fun i H _ p => hG H p.1) ?_ ?_
  · rintro i x H H' hi ⟨sm, acc, ha, pa⟩ hy
    have hb : bs[i]? = some bs[i] := List.getElem?_eq_getElem hi
    have la : acc.length ≤ bs.length := by
      rw [paired_len pa]
      exact fmap_len f m bs i
    refine hs i x _ H H' (fun H2 => Same H0 H2 ∧ LstOf R H2 D (((bs.take (i + 1)).filter f).map m)) hb hy sm (fun c H2 g2 => ⟨sm.trans g2, acc, g2 _ _ ha, ?_⟩) (fun c y H2 g2 r => ⟨acc, g2 _ _ ha, by omega, ?_⟩)
    · rw [fmap_one f m bs i _ hb, c, if_neg Bool.false_ne_true, List.append_nil]
      exact paired_mono (fun _ _ => st _ _ _ _ (tups_same g2)) pa
    · have t := tups_lst (vs := acc ++ [y]) (g2 _ _ ha)
      refine ⟨same_mut (sm.trans g2) hD, acc ++ [y], upd_same, ?_⟩
      rw [fmap_one f m bs i _ hb, c, if_pos rfl]
      exact paired_snoc (paired_mono (fun _ _ z => st _ _ _ _ t (st _ _ _ _ (tups_same g2) z)) pa) (st _ _ _ _ t r)
  · rintro H ⟨sm, l⟩
    rw [List.take_length] at l
    exact hd H sm l
theorem filter_all {β : Type} (bs : List β) : bs.filter (fun _ => true) = bs := List.filter_eq_self.mpr fun _ _ => rfl
/-! ### rows as data -/
theorem dpAll_rows {K : PySem.W.Frag} {H : Hp} : ∀ {xs : List V} {rs : List (List Str)}, Paired (RwAt H) xs rs → DpAll K H xs (rs.map rowD)
  | _, _, .nil => .nil
  | _, _, .cons ⟨r, e, h⟩ t => by
    subst e
    exact .cons (dp_row h) (dpAll_rows t)
abbrev gameD (rs : List (List Str)) : PyData := .tuple (rs.map rowD)
theorem dp_game {K : PySem.W.Frag} {H : Hp} {a : Addr} {rs : List (List Str)} (h : GmAt H a rs) : Dp K H (.ref a) (gameD rs) := by
  obtain ⟨xs, h1, h2⟩ := h
  exact .tup (SqT.of h1) (dpAll_rows h2)
theorem dp_gameL {K : PySem.W.Frag} {H : Hp} {a : Addr} {rs : List (List Str)} (h : GlAt H a rs) : Dp K H (.ref a) (.list (rs.map rowD)) := by
  obtain ⟨xs, h1, h2⟩ := h
  exact .lst (SqL.of h1) (dpAll_rows h2)
theorem eqv_rows : ∀ rs qs : List (List Str), PyData.eqvAll (rs.map rowD) (qs.map rowD) = decide (rs = qs)
  | [], [] => by simp [PyData.eqvAll]
  | [], _ :: _ => by simp [PyData.eqvAll]
  | _ :: _, [] => by simp [PyData.eqvAll]
  | r :: rs, q :: qs => by
    rw [List.map_cons, List.map_cons, PyData.eqvAll, eqv_rows rs qs, eqv_row]
    by_cases h1 : r = q <;> by_cases h2 : rs = qs <;> simp [h1, h2]
theorem eqv_game (rs qs : List (List Str)) : PyData.eqv (gameD rs) (gameD qs) = decide (rs = qs) := by rw [PyData.eqv, eqv_rows]
theorem any_row (q : List Str) : ∀ rs : List (List Str), ((rs.map rowD).any fun z => PyData.eqv z (rowD q)) = decide (q ∈ rs)
  | [] => by simp
  | r :: rs => by
    rw [List.map_cons, List.any_cons, any_row q rs, eqv_row]
    by_cases h : r = q
    · subst h
      simp
    · have h' : ¬ q = r := fun z => h z.symm
      simp [h, h']
theorem any_str (q : Str) : ∀ ws : List Str, ((rowL ws).any fun z => PyData.eqv z (.str q)) = decide (q ∈ ws)
  | [] => by simp
  | w :: ws => by
    rw [rowL_cons, List.any_cons, any_str q ws, PyData.eqv]
    by_cases h : w = q
    · subst h
      simp
    · have h' : ¬ q = w := fun z => h z.symm
      simp [h, h']
theorem lay_word {z : Str} (h : wordOk z) : PyData.canLay0 (.str z) = true := lay_let h.1
theorem shaped_rw {r : List Str} (h : ∀ z ∈ r, wordOk z) : SeqAt.shaped (rowD r) = true := shaped_row fun z hz => lay_word (h z hz)
theorem lay_rows : ∀ rs : List (List Str), (∀ r ∈ rs, ∀ z ∈ r, wordOk z) → PyData.canLayAll0 (rs.map rowD) = true ∧ PyData.depthAll (rs.map rowD) ≤ 1
  | [], _ => by simp [PyData.canLayAll0, PyData.depthAll]
  | r :: rs, h => by
    obtain ⟨h1, h2⟩ := lay_rows rs fun r hr => h r (List.mem_cons_of_mem _ hr)
    rw [List.map_cons, PyData.canLayAll0, h1, PyData.depthAll]
    have e : PyData.depth (rowD r) = 1 := by
      rw [PyData.depth, depth_rowL]
    refine ⟨?_, by omega⟩
    rw [PyData.canLay0, lay_rowL r fun z hz => lay_word (h r List.mem_cons_self z hz)]
    rfl
theorem shaped_game {rs : List (List Str)} (h : ∀ r ∈ rs, ∀ z ∈ r, wordOk z) : SeqAt.shaped (gameD rs) = true := by
  unfold SeqAt.shaped
  obtain ⟨h1, h2⟩ := lay_rows rs h
  rw [PyData.canLay0, h1, PyData.depth, Bool.true_and]
  exact decide_eq_true (by omega)
theorem shaped_gameL {rs : List (List Str)} (h : ∀ r ∈ rs, ∀ z ∈ r, wordOk z) : SeqAt.shaped (.list (rs.map rowD)) = true := by
  unfold SeqAt.shaped
  obtain ⟨h1, h2⟩ := lay_rows rs h
  rw [PyData.canLay0, h1, PyData.depth, Bool.true_and]
  exact decide_eq_true (by omega)
theorem shaped_wd {z : Str} (h : wordOk z) : SeqAt.shaped (.str z) = true := by
  unfold SeqAt.shaped
  rw [lay_word h, PyData.depth]
  rfl
/-! ### dicts keyed by rows -/
theorem inr_inj {a b : List Str} : keyRow a = keyRow b ↔ a = b := by
  constructor
  · intro h
    have := congrArg (List.map fun k : Key => match k with | .inr z => z | .inl _ => Str.empty) h
    unfold keyRow at this
    rw [List.map_map, List.map_map] at this
    exact (List.map_id a).symm.trans ((show List.map id a = List.map id b from this).trans (List.map_id b))
  · intro h
    rw [h]
/-- the keys, rows, and what is told of each -/
structure RDict {γ : Type} (R : V → γ → Prop) (ents : List (List Key × V)) (ks : List (List Str)) (val : List Str → γ) : Prop where
  keys : ents.map (·.1) = ks.map keyRow
  nd : ks.Nodup
  vals : ∀ e ∈ ents, ∀ k, e.1 = keyRow k → R e.2 (val k)
/-- the keys with one more -/
def plusR (ks : List (List Str)) (k : List Str) : List (List Str) := if k ∈ ks then ks else ks ++ [k]
theorem mem_plusR {ks : List (List Str)} {k x : List Str} : x ∈ plusR ks k ↔ x ∈ ks ∨ x = k := by
  unfold plusR
  by_cases h : k ∈ ks
  · rw [if_pos h]
    constructor
    · exact .inl
    · rintro (z | rfl)
      · exact z
      · exact h
  · rw [if_neg h, List.mem_append, List.mem_singleton]
theorem plusR_nd {ks : List (List Str)} (n : ks.Nodup) (k : List Str) : (plusR ks k).Nodup := by
  unfold plusR
  by_cases h : k ∈ ks
  · rw [if_pos h]
    exact n
  · rw [if_neg h]
    exact List.nodup_append.mpr ⟨n, List.pairwise_singleton _ _, fun a ha b hb e => h (by rw [← List.mem_singleton.mp hb, ← e]; exact ha)⟩
theorem key_any {ents : List (List Key × V)} {ks : List (List Str)} (h : ents.map (·.1) = ks.map keyRow) (k : List Str) : (ents.any fun e => decide (e.1 = keyRow k)) = decide (k ∈ ks) := by
  have e1 : (ents.any fun e => decide (e.1 = keyRow k)) = (ents.map (·.1)).any fun y => decide (y = keyRow k) := by
    rw [List.any_map]
    rfl
  rw [e1, h, List.any_map]
  by_cases m : k ∈ ks
  · rw [decide_eq_true m, List.any_eq_true]
    exact ⟨k, m, decide_eq_true rfl⟩
  · rw [decide_eq_false m, List.any_eq_false]
    intro x hx z
    exact m (inr_inj.mp (of_decide_eq_true z) ▸ hx)
theorem RDict.put {γ : Type} {R : V → γ → Prop} {ents : List (List Key × V)} {ks : List (List Str)} {val : List Str → γ} (d : RDict R ents ks val) (k : List Str) {y : V} {c : γ} (r : R y c) :
    RDict R (putK ents (keyRow k) y) (plusR ks k) (fun x => if x = k then c else val x) := by
  have ka := key_any d.keys k
  refine ⟨?_, plusR_nd d.nd k, ?_⟩
  · unfold putK plusR
    rw [ka]
    by_cases m : k ∈ ks
    · rw [if_pos (decide_eq_true m), if_pos m, List.map_map, ← d.keys]
      refine List.map_congr_left fun e _ => ?_
      show (if e.1 = keyRow k then (e.1, y) else e).1 = e.1
      by_cases c : e.1 = keyRow k
      · rw [if_pos c]
      · rw [if_neg c]
    · rw [if_neg (by rw [decide_eq_false m]; exact Bool.false_ne_true), if_neg m, List.map_append, List.map_append, d.keys]
      rfl
  · intro e he x ex
    unfold putK at he
    rw [ka] at he
    by_cases m : k ∈ ks
    · rw [if_pos (decide_eq_true m)] at he
      obtain ⟨f, hf, rfl⟩ := List.mem_map.mp he
      by_cases c1 : f.1 = keyRow k
      · rw [if_pos c1] at ex ⊢
        have : x = k := inr_inj.mp (ex.symm.trans c1)
        rw [if_pos this]
        exact r
      · rw [if_neg c1] at ex ⊢
        have : x ≠ k := fun z => c1 (by rw [ex, z])
        rw [if_neg this]
        exact d.vals f hf x ex
    · rw [if_neg (by rw [decide_eq_false m]; exact Bool.false_ne_true)] at he
      rcases List.mem_append.mp he with h1 | h1
      · have : x ≠ k := fun z => m (by
          have hm : keyRow x ∈ ks.map keyRow := by
            rw [← d.keys, ← ex]
            exact List.mem_map.mpr ⟨e, h1, rfl⟩
          obtain ⟨y', hy, ey⟩ := List.mem_map.mp hm
          rw [← z, ← inr_inj.mp ey]
          exact hy)
        rw [if_neg this]
        exact d.vals e h1 x ex
      · rw [List.mem_singleton.mp h1] at ex ⊢
        have : x = k := (inr_inj.mp ex).symm
        rw [if_pos this]
        exact r
theorem RDict.get {γ : Type} {R : V → γ → Prop} {ents : List (List Key × V)} {ks : List (List Str)} {val : List Str → γ} (d : RDict R ents ks val) {k : List Str} (h : k ∈ ks) : ∃ y, valV ents (keyRow k) = some y ∧ R y (val k) := by
  have ka := key_any d.keys k
  rw [decide_eq_true h, List.any_eq_true] at ka
  unfold valV
  cases e : ents.find? fun kv => decide (kv.1 = keyRow k) with
  | none =>
    obtain ⟨x, hx, z⟩ := ka
    exact absurd z (List.find?_eq_none.mp e x hx)
  | some f =>
    have z := List.find?_some e
    exact ⟨f.2, rfl, d.vals f (List.mem_of_find?_eq_some e) k (of_decide_eq_true z)⟩
theorem keys_isSome {ents : List (List Key × V)} {ks : List (List Str)} (h : ents.map (·.1) = ks.map keyRow) (k : List Str) : (valV ents (keyRow k)).isSome = decide (k ∈ ks) := by
  rw [← key_any h k]
  unfold valV
  rw [Option.isSome_map]
  cases e : ents.find? fun kv => decide (kv.1 = keyRow k) with
  | none =>
    symm
    rw [Option.isSome_none, List.any_eq_false]
    exact List.find?_eq_none.mp e
  | some f =>
    symm
    rw [Option.isSome_some, List.any_eq_true]
    have z := List.find?_some e
    exact ⟨f, List.mem_of_find?_eq_some e, z⟩
end Nm
namespace Nm
open PySem PySem.Spec PyProof.Rows L2 NmD
theorem sl_drop {K : PySem.W.Frag} {H : Hp} {a : Addr} {xs : List V} {k : Nat} {Q : VK} (h : H a = some (.tup xs)) (q : ∀ r H', Same H H' → H' r = some (.tup (xs.drop k)) → Q (.ref r) H') : rSlA K (.ref a) (some (k : Int)) none H Q := by
  have e1 : HT.sIx xs.length 0 (some (k : Int)) = min k xs.length := HT.sIx_nat _ _ _
  refine ⟨a, xs, rfl, SqT.of h, fun z => ?_, fun z p hp => ?_⟩
  · have e := z.1
    rw [e1] at e
    refine q a H (Same.refl H) ?_
    by_cases c : k = 0
    · rw [c, List.drop_zero]
      exact h
    · have : xs = [] := List.eq_nil_of_length_eq_zero (by omega)
      rw [this, List.drop_nil]
      rw [this] at h
      exact h
  · refine q p _ (same_new hp) ?_
    rw [upd_same]
    unfold cutV
    rw [e1, HT.sIx_none, List.take_of_length_le (by rw [List.length_drop]; omega)]
    by_cases c : k ≤ xs.length
    · rw [Nat.min_eq_left c]
    · rw [Nat.min_eq_right (by omega), List.drop_length, List.drop_of_length_le (by omega)]
/-- rows sorted: each once, ascending -/
theorem sorted_rows {H : Hp} {xs ys : List V} {rs : List (List Str)} (pa : Paired (RwAt H) xs rs) (nd : rs.Nodup) (srt : SrtO.Srtd (ltV fun x => rowL (rowOf H x)) ys) (stb : SrtO.Stb (ltV fun x => rowL (rowOf H x)) ys xs) :
    Paired (RwAt H) ys (ys.map (rowOf H)) ∧ (ys.map (rowOf H)).Pairwise bef ∧ (ys.map (rowOf H)).Perm rs := by
  have back : ∀ {us : List V} {qs : List (List Str)}, Paired (RwAt H) us qs → us.map (rowOf H) = qs := by
    intro us qs p
    induction p with
    | nil => rfl
    | cons h _ ih =>
      obtain ⟨r, e, hr⟩ := h
      rw [List.map_cons, ih, e, rowOf_at hr]
  have each : ∀ y ∈ ys, RwAt H y (rowOf H y) := fun y hy => by
    obtain ⟨i, hi⟩ := List.mem_iff_getElem?.mp (stb.perm.mem_iff.mp hy)
    obtain ⟨ws, _, r, e, hr⟩ := paired_at pa i y hi
    subst e
    rw [rowOf_at hr]
    exact ⟨r, rfl, hr⟩
  have pm : (ys.map (rowOf H)).Perm rs := by
    rw [← back pa]
    exact stb.perm.map _
  refine ⟨?_, ?_, pm⟩
  · clear stb srt pm
    induction ys with
    | nil => exact .nil
    | cons y ys ih => exact .cons (each y List.mem_cons_self) (ih fun z hz => each z (List.mem_cons_of_mem _ hz))
  · refine srt_bef ?_ (pm.nodup_iff.mpr nd)
    rw [List.pairwise_map]
    exact srt
theorem sql_bl {K : PySem.W.Frag} {H : Hp} {D : Addr} {bs : List Bool} (l : LstOf BlV H D bs) : SqL K H D (bs.map V.bl) := by
  obtain ⟨acc, h, pa⟩ := l
  rw [bls_vs pa] at h
  exact SqL.of h
theorem lst_str {H : Hp} {D : Addr} {zs : List Str} (l : LstOf StrV H D zs) : H D = some (.lst (zs.map V.str)) := by
  obtain ⟨acc, h, pa⟩ := l
  rw [strs_vs pa] at h
  exact h
/-- {row: True for row in rows} -/
theorem dcT_true {K : PySem.W.Frag} {a : Addr} {rs : List (List Str)} {H0 : Hp} {g : TG} {tk tv : TE} {vs : List Nat} {σ : L2.St} {D : Addr} {Qd : Hp → Prop} (hx : GmAt H0 a rs) (hz : rs.length ≤ 100000) (hD : H0 D = none)
    (hs : ∀ (i : Nat) (r : Addr) (ws : List Str) (H : Hp) (Nx : Hp → Prop), rs[i]? = some ws → Same H0 H → H r = some (.tup (ws.map V.str)) → (∃ ents : List (List Key × V), H D = some (.dT ents) ∧ ents.length < sizeLine ∧ Nx (upd H D (.dT (putK ents (keyRow ws) (.bl true))))) →
      g (.ref r) (wipe σ vs) H fun σ2 H2 => wipe σ2 vs = wipe σ vs ∧ tk σ2 H2 fun y H4 => tv σ2 H4 fun z H5 =>
        ∃ (ents : List (List Key × V)) (k : List Key) (b : Addr), y = .ref b ∧ H5 D = some (.dT ents) ∧ H5 b = some (.tup (k.map kV)) ∧ ents.length < sizeLine ∧ Nx (upd H5 D (.dT (putK ents k z))))
    (hd : ∀ H (ents : List (List Key × V)) (ks : List (List Str)), Same H0 H → H D = some (.dT ents) → ents.map (·.1) = ks.map keyRow → (∀ z, z ∈ ks ↔ z ∈ rs) → Qd H) :
    ∃ W : Nat → Nat → Hp → Prop, (∃ m, W 0 m (upd H0 D (.dT []))) ∧ ∀ i m H, W i m H → ((Itt K a).stop i H ∧ Qd H) ∨ ((Itt K a).go i H ∧ ∃ Nx : Hp → Prop, (∀ H', Nx H' → ∃ m', m' < m ∧ W (i + 1) m' H') ∧
      ∀ x H', (Itt K a).yld i H x H' → g x (wipe σ vs) H' fun σ2 H2 => wipe σ2 vs = wipe σ vs ∧ tk σ2 H2 fun y H4 => tv σ2 H4 fun z H5 =>
        ∃ (ents : List (List Key × V)) (k : List Key) (b : Addr), y = .ref b ∧ H5 D = some (.dT ents) ∧ H5 b = some (.tup (k.map kV)) ∧ ents.length < sizeLine ∧ Nx (upd H5 D (.dT (putK ents k z)))) := by
  obtain ⟨xs, ha, pa⟩ := hx
  have el := paired_len pa
  have big : (100000 : Nat) < sizeLine := by decide
  refine dcT_tup (xs := xs) (fun i H => Same H0 H ∧ ∃ (ents : List (List Key × V)) (ks : List (List Str)), H D = some (.dT ents) ∧ ents.length ≤ i ∧ RDict (fun y (b : Bool) => y = V.bl b) ents ks (fun _ => true) ∧ ∀ z, z ∈ ks ↔ z ∈ rs.take i)
    ⟨same_new hD, [], [], upd_same, Nat.le_refl _, ⟨rfl, .nil, fun e he => absurd he (List.not_mem_nil)⟩, fun z => by simp⟩ (fun i H _ p => SqT.of (p.1 _ _ ha)) ?_ ?_
  · rintro i x H hi ⟨sm, ents, ks, hd1, le, dd, mem⟩
    obtain ⟨ws, hw, r, rfl, hr⟩ := paired_at pa i x hi
    have li := (List.getElem?_eq_some_iff.mp hi).1
    refine hs i r ws H (fun H => Same H0 H ∧ ∃ (ents : List (List Key × V)) (ks : List (List Str)), H D = some (.dT ents) ∧ ents.length ≤ i + 1 ∧ RDict (fun y (b : Bool) => y = V.bl b) ents ks (fun _ => true) ∧ ∀ z, z ∈ ks ↔ z ∈ rs.take (i + 1)) hw sm (sm _ _ hr) ⟨ents, hd1, by omega, same_mut sm hD, _, plusR ks ws, upd_same, ?_, ?_, fun z => ?_⟩
    · have := length_putK ents (keyRow ws) (V.bl true)
      omega
    · have p := dd.put ws (y := V.bl true) (c := true) rfl
      have e : (fun x => if x = ws then true else (fun _ => true) x) = fun _ : List Str => true := by
        funext x
        by_cases c : x = ws
        · rw [if_pos c]
        · rw [if_neg c]
      rw [e] at p
      exact p
    · rw [mem_plusR, mem z, take_one hw, List.mem_append, List.mem_singleton]
  · rintro H ⟨sm, ents, ks, hd1, le, dd, mem⟩
    rw [el, List.take_length] at mem
    exact hd H ents ks sm hd1 dd.keys mem
theorem kit_lt_lst {K : PySem.W.Frag} : PySem.W.kitAny K (.type "list") [.type "list", .type "tuple"] = some true := kitAny_cons (b := true) (kit_ty (by decide +kernel)) (fun z => absurd z (by decide)) (fun _ => rfl)
theorem kit_lt_tup {K : PySem.W.Frag} : PySem.W.kitAny K (.type "tuple") [.type "list", .type "tuple"] = some true := kitAny_cons (b := false) (kit_ty (by decide +kernel)) (fun _ => kitAny_cons (b := true) (kit_ty (by decide +kernel)) (fun z => absurd z (by decide)) (fun _ => rfl)) (fun z => absurd z (by decide))
theorem rowB_of {r : List Str} (h : rwOk r) : rowB r 60 = true := by
  unfold rowB
  rw [decide_eq_true (show ((r.length : Nat) : Int) ≤ 60 by have := h.1; omega), Bool.true_and, List.all_eq_true]
  exact fun z hz => (h.2 z hz).1
end Nm
namespace Nm
open PySem PySem.Spec PyProof.Rows L2 NmD
theorem sl_from1 {K : PySem.W.Frag} {H : Hp} {a : Addr} {xs : List V} {Q : VK} (h : H a = some (.tup xs)) (q : ∀ r H', Same H H' → H' r = some (.tup (xs.drop 1)) → Q (.ref r) H') : rSlA K (.ref a) (some 1) none H Q := sl_drop (k := 1) h q
def rLenS (K : PySem.W.Frag) : List V → Hp → VK → Prop := fun xs H Q => ∃ p ys, xs = [V.ref p] ∧ (SqL K H p ys ∨ SqT K H p ys) ∧ Q (V.int ys.length) H
theorem call_lenS {X : Cx} : CallR X (.builtin "len") (rLenS X.K) := call_len_seq
theorem sl_takeE {K : PySem.W.Frag} {H : Hp} {a : Addr} {xs : List V} {n : Int} {k : Nat} {Q : VK} (e : n = (k : Int)) (h : H a = some (.tup xs)) (q : ∀ r H', Same H H' → H' r = some (.tup (xs.take k)) → Q (.ref r) H') : rSlA K (.ref a) none (some n) H Q := by
  subst e
  exact sl_take h q
theorem sl_dropE {K : PySem.W.Frag} {H : Hp} {a : Addr} {xs : List V} {n : Int} {k : Nat} {Q : VK} (e : n = (k : Int)) (h : H a = some (.tup xs)) (q : ∀ r H', Same H H' → H' r = some (.tup (xs.drop k)) → Q (.ref r) H') : rSlA K (.ref a) (some n) none H Q := by
  subst e
  exact sl_drop h q
theorem keys_put {ents : List (List Key × V)} {ks : List (List Str)} (h : ents.map (·.1) = ks.map keyRow) (nd : ks.Nodup) (k : List Str) (y : V) : (putK ents (keyRow k) y).map (·.1) = (plusR ks k).map keyRow :=
  (RDict.put (R := fun _ (_ : Unit) => True) (val := fun _ => ()) ⟨h, nd, fun _ _ _ _ => trivial⟩ k (y := y) (c := ()) trivial).keys
theorem two : 2 ≤ PySem.sizeLine := by decide
theorem nought : 0 ≤ PySem.sizeLine := Nat.zero_le _
end Nm
namespace Nm
open PySem PySem.Spec PyProof.Rows L2 NmD
/-! ### dicts whose keys are names -/
theorem put_new {kvs : List (Key × V)} {k : Key} {y : V} (h : k ∉ kvs.map (·.1)) : (putK kvs k y).map (·.1) = kvs.map (·.1) ++ [k] := by
  unfold putK
  rw [if_neg (fun z => by
    obtain ⟨p, hp, e⟩ := List.any_eq_true.mp z
    exact h (List.mem_map.mpr ⟨p, hp, of_decide_eq_true e⟩)), List.map_append]
  rfl
theorem put_old {kvs : List (Key × V)} {k : Key} {y : V} (h : k ∈ kvs.map (·.1)) : (putK kvs k y).map (·.1) = kvs.map (·.1) := by
  unfold putK
  obtain ⟨p, hp, e⟩ := List.mem_map.mp h
  rw [if_pos (List.any_eq_true.mpr ⟨p, hp, decide_eq_true e⟩), List.map_map]
  refine List.map_congr_left fun q _ => ?_
  show (if q.1 = k then (q.1, y) else q).1 = q.1
  split <;> rfl
theorem tups_dK {H : Hp} {D : Addr} {kvs ks : List (Key × V)} (h : H D = some (.dK kvs)) : Tups H (upd H D (.dK ks)) := fun e us he => by
  rw [upd_ne (fun z => by rw [z, h] at he; cases he)]
  exact he
/-- for each name a thing -/
def NdAt (R : Hp → V → Str → Prop) (H : Hp) (D : Addr) (ns : List Str) : Prop := ∃ kvs : List (Key × V), H D = some (.dK kvs) ∧ kvs.map (·.1) = ns.map Sum.inr ∧ ∀ n ∈ ns, ∃ y, valV kvs (.inr n) = some y ∧ R H y n
/-- for each name a game -/
def GnAt (g : Str → List (List Str)) (H : Hp) (y : V) (n : Str) : Prop := ∃ a, y = .ref a ∧ GmAt H a (g n)
abbrev GsAt (H : Hp) (D : Addr) (ns : List Str) (g : Str → List (List Str)) : Prop := NdAt (GnAt g) H D ns
theorem GsAt.mono {H H' : Hp} {D : Addr} {ns : List Str} {g : Str → List (List Str)} (h : GsAt H D ns g) (k : Keep H H') : GsAt H' D ns g := by
  obtain ⟨kvs, h1, h2, h3⟩ := h
  refine ⟨kvs, k _ _ h1 (fun xs e => nomatch e), h2, fun n hn => ?_⟩
  obtain ⟨y, e1, a, e2, e3⟩ := h3 n hn
  exact ⟨y, e1, a, e2, e3.keep k.tups⟩
theorem GsAt.same {H H' : Hp} {D : Addr} {ns : List Str} {g : Str → List (List Str)} (h : GsAt H D ns g) (k : Same H H') : GsAt H' D ns g := h.mono (same_keep k)
theorem GsAt.get {H : Hp} {D : Addr} {ns : List Str} {g : Str → List (List Str)} (h : GsAt H D ns g) {n : Str} (hn : n ∈ ns) : ∃ a, DGet H D (.str n) (some (.ref a)) ∧ GmAt H a (g n) := by
  obtain ⟨kvs, h1, h2, h3⟩ := h
  obtain ⟨y, e1, a, rfl, e3⟩ := h3 n hn
  exact ⟨a, e1 ▸ DGet.k (k := .inr n) h1, e3⟩
/-- the begun rows at the boards of a name -/
def rowsOf (bs : List Bd) (n : Str) : List (List Str) := (bs.filter fun b => decide (b.1 = n)).map (·.2.2)
theorem mem_rowsOf {bs : List Bd} {b : Bd} (h : b ∈ bs) : b.2.2 ∈ rowsOf bs b.1 := List.mem_map.mpr ⟨b, List.mem_filter.mpr ⟨h, decide_eq_true rfl⟩, rfl⟩
theorem of_rowsOf {bs : List Bd} {n : Str} {r : List Str} (h : r ∈ rowsOf bs n) : ∃ b ∈ bs, b.1 = n ∧ b.2.2 = r := by
  obtain ⟨b, hb, rfl⟩ := List.mem_map.mp h
  obtain ⟨h1, h2⟩ := List.mem_filter.mp hb
  exact ⟨b, h1, of_decide_eq_true h2, rfl⟩
end Nm
namespace Nm
open PySem PySem.Spec PyProof.Rows L2 NmD
/-! ### things told by data: their order -/
structure Ordd {α : Type} [DecidableEq α] (d : α → List PyData) : Prop where
  alike : ∀ a b, PySem.W.alikeAll (d a) (d b) = true
  eqv : ∀ a b, PyData.eqvAll (d a) (d b) = decide (a = b)
  pure : ∀ a, pureAll (d a) = true
  dep : ∀ a, PyData.depthAll (d a) ≤ 40
def lessB {α : Type} (d : α → List PyData) (a b : α) : Bool := PyProof.Rows.lexLt itemOrd (PySem.W.keyToksAll (d a)) (PySem.W.keyToksAll (d b))
abbrev Less {α : Type} (d : α → List PyData) (a b : α) : Prop := lessB d a b = true
section
variable {α : Type} [DecidableEq α] {d : α → List PyData}
theorem Ordd.inj (O : Ordd d) {a b : α} (h : PySem.W.keyToksAll (d a) = PySem.W.keyToksAll (d b)) : a = b := by
  cases e : PyData.eqvAll (d a) (d b) with
  | true =>
    rw [O.eqv] at e
    exact of_decide_eq_true e
  | false =>
    have k := (PySem.W.toksAll_eqv (d a) (d b) (O.alike a b)).2 e [Sum.inl 0] [Sum.inl 1]
    rw [h, PySem.W.lex_pre, lex_irrefl] at k
    exact absurd k (by decide)
theorem less_irr (a : α) : lessB d a a = false := lex_irrefl (O := itemOrd) _
theorem less_tr {a b c : α} (h1 : Less d a b) (h2 : Less d b c) : Less d a c := lex_trans (O := itemOrd) _ _ _ h1 h2
theorem Ordd.tot (O : Ordd d) {a b : α} (h1 : lessB d a b = false) (h2 : lessB d b a = false) : a = b := O.inj (lex_total (O := itemOrd) _ _ h1 h2)
theorem less_not {a b : α} (h : Less d a b) : ¬ Less d b a := fun h2 => by
  have z := less_tr h h2
  unfold Less at z
  rw [less_irr] at z
  cases z
theorem less_one : ∀ {xs ys : List α}, xs.Pairwise (Less d) → ys.Pairwise (Less d) → (∀ z, z ∈ xs ↔ z ∈ ys) → xs = ys
  | [], [], _, _, _ => rfl
  | [], y :: ys, _, _, h => absurd ((h y).mpr List.mem_cons_self) (List.not_mem_nil)
  | x :: xs, [], _, _, h => absurd ((h x).mp List.mem_cons_self) (List.not_mem_nil)
  | x :: xs, y :: ys, p, q, h => by
    obtain ⟨p1, p2⟩ := List.pairwise_cons.mp p
    obtain ⟨q1, q2⟩ := List.pairwise_cons.mp q
    have e : x = y := by
      rcases List.mem_cons.mp ((h x).mp List.mem_cons_self) with e | m
      · exact e
      · rcases List.mem_cons.mp ((h y).mpr List.mem_cons_self) with e | m2
        · exact e.symm
        · exact absurd (p1 y m2) (less_not (q1 x m))
    subst e
    rw [less_one p2 q2 fun z => ?_]
    have hz := h z
    constructor
    · intro m
      rcases List.mem_cons.mp (hz.mp (List.mem_cons_of_mem _ m)) with rfl | m2
      · exact absurd (p1 z m) (fun w => less_not w w)
      · exact m2
    · intro m
      rcases List.mem_cons.mp (hz.mpr (List.mem_cons_of_mem _ m)) with rfl | m2
      · exact absurd (q1 z m) (fun w => less_not w w)
      · exact m2
theorem less_nodup {xs : List α} (h : xs.Pairwise (Less d)) : xs.Nodup := h.imp fun {a b} h e => by
  subst e
  exact less_not h h
theorem Ordd.strict (O : Ordd d) {xs : List α} (h : xs.Pairwise fun a b => lessB d b a = false) (n : xs.Nodup) : xs.Pairwise (Less d) := by
  induction xs with
  | nil => exact .nil
  | cons x xs ih =>
    obtain ⟨h1, h2⟩ := List.pairwise_cons.mp h
    obtain ⟨n1, n2⟩ := List.nodup_cons.mp n
    refine List.pairwise_cons.mpr ⟨fun y hy => ?_, ih h2 n2⟩
    cases e : lessB d x y with
    | true => exact e
    | false => exact absurd (O.tot e (h1 y hy)) (fun z => n1 (z ▸ hy))
/-- sorted already: the same -/
theorem Ordd.srt_id (O : Ordd d) {xs ys : List α} (hx : xs.Pairwise (Less d)) (hy : ys.Pairwise fun a b => lessB d b a = false) (pm : ys.Perm xs) : ys = xs :=
  less_one (O.strict hy (pm.nodup_iff.mpr (less_nodup hx))) hx fun z => pm.mem_iff
end
/-! ### sorted(xs), xs a list or a tuple of such things -/
/-- what is told by a value, if it is told -/
noncomputable def tellR {α : Type} [Nonempty α] (R : V → α → Prop) (x : V) : α := Classical.epsilon (R x)
theorem tellR_at {α : Type} [Nonempty α] {R : V → α → Prop} (fn : ∀ x a b, R x a → R x b → a = b) {x : V} {a : α} (h : R x a) : tellR R x = a := fn x _ _ (Classical.epsilon_spec ⟨a, h⟩) h
/-- the same as rSortD, of a tuple as well -/
def rSortS (K : PySem.W.Frag) : List V → Hp → VK → Prop := fun vs H Q => ∃ (a : Addr) (xs : List V) (k : V → List PyData), vs = [V.ref a] ∧ (SqL K H a xs ∨ SqT K H a xs) ∧ (∀ x ∈ xs, (∃ t, x = V.ref t) ∧ Dp K H x (.tuple (k x)) ∧ pureAll (k x) = true ∧ PyData.depthAll (k x) ≤ 40) ∧
  (∀ x ∈ xs, ∀ y ∈ xs, PySem.W.alikeAll (k x) (k y) = true) ∧ ∀ ys p, SrtO.Srtd (ltV k) ys → SrtO.Stb (ltV k) ys xs → H p = none → Q (.ref p) (upd H p (.lst ys))
section
variable {X : Cx}
theorem cr_sortS (hu : X.A.units + 66 < cLine) : CallR X (.builtin "sorted") (rSortS X.K) := by
  intro pins s σ H vs us Q I r h
  obtain ⟨a, xs, k, rfl, hs, hx, al, q⟩ := h
  obtain ⟨u, rfl, ru⟩ := vals1 r
  obtain rfl : u = Value.ref a := ru
  have both : ∃ its, Vals xs its ∧ xs.length ≤ sizeLine ∧ ∃ T o n, (T = "list" ∨ T = "tuple") ∧ s.heap.get? a = some o ∧ o.cls = .type T ∧ o.data = .seq its.toArray n := by
    rcases hs with hs | hs
    · obtain ⟨its, rv, hl, hz⟩ := I.list hs
      obtain ⟨o, ho, hc, n, hd⟩ := hl.isList
      exact ⟨its, rv, hz, "list", o, n, .inl rfl, ho, hc, hd⟩
    · obtain ⟨its, rv, hl, hz⟩ := I.tuple hs
      obtain ⟨o, ho, hc, n, hd⟩ := hl
      exact ⟨its, rv, hz, "tuple", o, n, .inr rfl, ho, hc, hd⟩
  obtain ⟨its, rv, hz, T, o, n, hT, ho, hc, hd⟩ := both
  obtain ⟨e1, e2⟩ := refs_back rv fun x m => (hx x m).1
  have lz : its.length ≤ sizeLine := by rw [← rv.length]; exact hz
  have back : ∀ v ∈ its, backV v ∈ xs := fun v hv => by
    rw [e1]
    exact List.mem_map.mpr ⟨_, hv, rfl⟩
  refine Calls.call_function_entry kind_sorted plain_sorted entry_sorted (args_sorted1 _) ?_
  unfold Builtin.«sorted»
  refine wpAny_bind (m := checkCount "sorted" 1 1 _) (wpAny_pure ?_)
  refine wpAny_bind (wpAny_collect_seq a hT ho hc hd (fun h' kp => ?_) (by simp only [List.size_toArray]; exact lz))
  have I1 : Inv X pins σ H { s with heap := h' } := I.kept (t' := s.toks) kp
  have hu' : X.A.units + 66 < cLine := hu
  refine wpAny_bind (wpAny_newList ?_ lz)
  have R : Rows h' its (fun u => k (backV u)) := ⟨fun v hv => by
      obtain ⟨t, rfl⟩ := e2 v hv
      exact Dp.reads I1 _ (backV (.ref t)) (.ref t) (hx _ (back _ hv)).2.1 rfl, fun v hv => (hx _ (back v hv)).2.2.1, fun v hv u hu => al _ (back v hv) _ (back u hu), fun v hv => (hx _ (back v hv)).2.2.2⟩
  have hoL : (h'.push (seqObj "list" its.toArray 0)).get? h'.objs.size = some (seqObj "list" its.toArray 0) := Heap.get?_push_size _ rfl
  show wpAny _ _ _ _ _ { s with heap := h'.push (seqObj "list" its.toArray 0) }
  refine wpAny_bind (wpAny_holding (wpAny_call_entry slot_list_sort ⟨_, hoL, rfl⟩ entry_list_sort
    (SrtO.list_sort_ord (s := { s with heap := h'.push (seqObj "list" its.toArray 0) }) (ltD_swo fun u => k (backV u)) hoL lz
      (fun two => rows_sortable (s := { s with heap := h'.push (seqObj "list" its.toArray 0) }) (R.keep fun b ob e _ => Heap.get?_push_of_some _ e) (by show X.A.units + 1 + 1 + 64 < cLine; omega) (by omega) fun ob e => ?_)
      fun out h1 h2 => ⟨_, rfl, ?_⟩) (args_list_sort _)))
  · have e' : some ob = some (seqObj "list" its.toArray 0) := e.symm.trans hoL
    cases e'
    intro c
    exact absurd (Value.type.inj c) (by decide)
  · obtain ⟨m, hm⟩ := sortedHeap_at (vs := its) (out := out.toArray) hoL
    have allRef : ∀ u ∈ out, ∃ a, u = Value.ref a := fun u hu => e2 u (h2.perm.mem_iff.mp hu)
    have hb : SrtO.Stb (ltV k) (out.map backV) xs := by
      rw [e1]
      exact SrtO.Stb.map (ltV_swo _) backV h2
    have fit : (out.map backV).length ≤ sizeLine := by rw [hb.len]; exact hz
    refine wpAny_pure ⟨_, rfl, .ref h'.objs.size, upd H h'.objs.size (.lst (out.map backV)), I1.laid (t' := s.toks) (fun b u e => ?_) (Nat.le_refl _) ⟨fit, out, m, vals_back allRef, hm⟩, rfl, q _ _ (SrtO.srtd_map h1) hb (I1.hok.fresh (Nat.le_refl _))⟩
    have lt := Heap.lt_size e
    rw [sortedHeap_old (Nat.ne_of_lt lt) (by rw [size_push']; exact Nat.lt_succ_of_lt lt)]
    exact Heap.get?_push_of_some _ e
end
/-- sorted of things that are told by data -/
theorem sort_told {α : Type} [DecidableEq α] [Nonempty α] {d : α → List PyData} (O : Ordd d) {K : PySem.W.Frag} {H : Hp} {R : V → α → Prop} (fn : ∀ x a b, R x a → R x b → a = b) (dp : ∀ x a, R x a → (∃ t, x = V.ref t) ∧ Dp K H x (.tuple (d a)))
    {a : Addr} {xs : List V} {as : List α} {Q : VK} (hs : SqL K H a xs ∨ SqT K H a xs) (pa : Paired R xs as)
    (q : ∀ (ys : List V) (bs : List α) (p : Addr), Paired R ys bs → (bs.Pairwise fun x y => lessB d y x = false) → bs.Perm as → H p = none → Q (.ref p) (upd H p (.lst ys))) : rSortS K [V.ref a] H Q := by
  have back : ∀ {us : List V} {bs : List α}, Paired R us bs → us.map (tellR R) = bs := by
    intro us bs p
    induction p with
    | nil => rfl
    | cons h _ ih => rw [List.map_cons, ih, tellR_at fn h]
  have each : ∀ x ∈ xs, R x (tellR R x) := fun x hx => by
    obtain ⟨i, hi⟩ := List.mem_iff_getElem?.mp hx
    obtain ⟨b, _, h⟩ := paired_at pa i x hi
    rw [tellR_at fn h]
    exact h
  refine ⟨a, xs, fun x => d (tellR R x), rfl, hs, fun x hx => ?_, fun x _ y _ => O.alike _ _, fun ys p srt stb hp => ?_⟩
  · obtain ⟨h1, h2⟩ := dp x _ (each x hx)
    exact ⟨h1, h2, O.pure _, O.dep _⟩
  · refine q ys (ys.map (tellR R)) p ?_ ?_ ?_ hp
    · have all : ∀ y ∈ ys, R y (tellR R y) := fun y hy => each y (stb.perm.mem_iff.mp hy)
      clear stb srt
      induction ys with
      | nil => exact .nil
      | cons y ys ih => exact .cons (all y List.mem_cons_self) (ih fun z hz => all z (List.mem_cons_of_mem _ hz))
    · rw [List.pairwise_map]
      exact srt
    · rw [← back pa]
      exact stb.perm.map _
end Nm
namespace Nm
open PySem PySem.Spec PyProof.Rows L2 NmD
/-! ### pairs of numbers, rows of these, lots -/
abbrev dPr (p : Pr) : List PyData := [.int p.1, .int p.2]
abbrev dPrs (t : List Pr) : List PyData := t.map prD
abbrev dLot (t : List Int) : List PyData := t.map PyData.int
theorem alike_prs : ∀ a b : List Pr, PySem.W.alikeAll (dPrs a) (dPrs b) = true
  | [], [] => by simp [PySem.W.alikeAll]
  | [], _ :: _ => by simp [PySem.W.alikeAll]
  | _ :: _, [] => by simp [PySem.W.alikeAll]
  | p :: a, q :: b => by
    show PySem.W.alikeAll (prD p :: dPrs a) (prD q :: dPrs b) = true
    rw [PySem.W.alikeAll, alike_prs a b]
    simp [PySem.W.alike, PySem.W.alikeAll]
theorem pure_prs : ∀ a : List Pr, pureAll (dPrs a) = true
  | [] => by simp [pureAll]
  | p :: a => by
    show pureAll (prD p :: dPrs a) = true
    rw [pureAll, pure_prs a]
    simp [pureD, pureAll]
theorem dep_prs (a : List Pr) : PyData.depthAll (dPrs a) ≤ 40 := Nat.le_trans (lay_prsL a).2 (by decide)
theorem ordd_prs : Ordd dPrs := ⟨alike_prs, eqv_prsL, pure_prs, dep_prs⟩
theorem eqv_dPr (p q : Pr) : PyData.eqvAll (dPr p) (dPr q) = decide (p = q) := by
  have := eqv_pr p q
  rwa [PyData.eqv] at this
theorem ordd_pr : Ordd dPr := ⟨fun a b => by simp [PySem.W.alikeAll, PySem.W.alike], eqv_dPr, fun a => by simp [pureAll, pureD], fun a => by simp [PyData.depthAll, PyData.depth]⟩
theorem alike_lot : ∀ a b : List Int, PySem.W.alikeAll (dLot a) (dLot b) = true
  | [], [] => by simp [PySem.W.alikeAll]
  | [], _ :: _ => by simp [PySem.W.alikeAll]
  | _ :: _, [] => by simp [PySem.W.alikeAll]
  | p :: a, q :: b => by
    show PySem.W.alikeAll (.int p :: dLot a) (.int q :: dLot b) = true
    rw [PySem.W.alikeAll, alike_lot a b]
    simp [PySem.W.alike]
theorem eqv_lot : ∀ a b : List Int, PyData.eqvAll (dLot a) (dLot b) = decide (a = b)
  | [], [] => by simp [PyData.eqvAll]
  | [], _ :: _ => by simp [PyData.eqvAll]
  | _ :: _, [] => by simp [PyData.eqvAll]
  | p :: a, q :: b => by
    show PyData.eqvAll (.int p :: dLot a) (.int q :: dLot b) = _
    rw [PyData.eqvAll, eqv_lot a b, PyData.eqv]
    by_cases h1 : p = q <;> by_cases h2 : a = b <;> simp [h1, h2]
theorem pure_lot : ∀ a : List Int, pureAll (dLot a) = true
  | [] => by simp [pureAll]
  | p :: a => by
    show pureAll (.int p :: dLot a) = true
    rw [pureAll, pure_lot a]
    simp [pureD]
theorem dep_lot : ∀ a : List Int, PyData.depthAll (dLot a) = 0
  | [] => by simp [PyData.depthAll]
  | p :: a => by
    show PyData.depthAll (.int p :: dLot a) = 0
    rw [PyData.depthAll, dep_lot a]
    simp [PyData.depth]
theorem ordd_lot : Ordd dLot := ⟨alike_lot, eqv_lot, pure_lot, fun a => by rw [dep_lot]; decide⟩
theorem ordd_row : Ordd rowL := ⟨alike_rowL, eqv_rowL, pure_rowL, fun a => by rw [depth_rowL]; decide⟩
/-- the order of pairs -/
theorem less_pr {p q : Pr} : Less dPr p q ↔ p.1 < q.1 ∨ (p.1 = q.1 ∧ p.2 < q.2) := by
  unfold Less lessB dPr
  by_cases e : p.1 = q.1
  · rw [e, PySem.W.dataLt_all_yes (by simp [PySem.W.alike]) (by rw [PyData.eqv]; simp)]
    by_cases e2 : p.2 = q.2
    · rw [e2, PySem.W.dataLt_all_yes (by simp [PySem.W.alike]) (by rw [PyData.eqv]; simp), lex_irrefl]
      constructor
      · intro h
        cases h
      · intro h
        omega
    · rw [PySem.W.dataLt_all_no (by simp [PySem.W.alike]) (by rw [PyData.eqv]; exact decide_eq_false e2), PySem.W.dataLt_int, decide_eq_true_eq]
      omega
  · rw [PySem.W.dataLt_all_no (by simp [PySem.W.alike]) (by rw [PyData.eqv]; exact decide_eq_false e), PySem.W.dataLt_int, decide_eq_true_eq]
    omega
/-! ### all pairs ascending -/
theorem rowUp_up (f : Nat → Nat → Bool) (i : Nat) : ∀ k, (rowUp f i k).Pairwise (Less dPr)
  | 0 => .nil
  | k + 1 => by
    rw [rowUp_one]
    refine List.pairwise_append.mpr ⟨rowUp_up f i k, ?_, fun a ha b hb => ?_⟩
    · split
      · exact List.pairwise_singleton _ _
      · exact .nil
    · split at hb
      · rw [List.mem_singleton.mp hb]
        obtain ⟨j, rfl, h1, h2, _⟩ := mem_rowUp.mp ha
        refine less_pr.mpr (.inr ⟨rfl, ?_⟩)
        show (j : Int) < ((i + 1 + k : Nat) : Int)
        omega
      · exact absurd hb (List.not_mem_nil)
theorem pairsUp_up (f : Nat → Nat → Bool) (n : Nat) : ∀ m, (pairsUp f n m).Pairwise (Less dPr)
  | 0 => .nil
  | m + 1 => by
    rw [pairsUp_one]
    refine List.pairwise_append.mpr ⟨pairsUp_up f n m, rowUp_up f m _, fun a ha b hb => ?_⟩
    obtain ⟨i, j, rfl, _, _, h, _⟩ := mem_pairsUp.mp ha
    obtain ⟨j2, rfl, _, _, _⟩ := mem_rowUp.mp hb
    refine less_pr.mpr (.inl ?_)
    show (i : Int) < (m : Int)
    omega
theorem pairsOf_up (f : Nat → Nat → Bool) (n : Nat) : (pairsOf f n).Pairwise (Less dPr) := pairsUp_up f n n
end Nm
namespace Nm
open PySem PySem.Spec PyProof.Rows L2 NmD
/-- each before the next -/
def ascG {α : Type} (d : α → List PyData) (as : List α) : Bool := (as.zip (as.drop 1)).all fun p => lessB d p.1 p.2
theorem asc_pw {α : Type} [DecidableEq α] {d : α → List PyData} : ∀ as : List α, ascG d as = true ↔ as.Pairwise (Less d)
  | [] => ⟨fun _ => .nil, fun _ => rfl⟩
  | [a] => ⟨fun _ => List.pairwise_singleton _ _, fun _ => rfl⟩
  | a :: b :: as => by
    have ih := asc_pw (d := d) (b :: as)
    have e : ascG d (a :: b :: as) = (lessB d a b && ascG d (b :: as)) := rfl
    rw [e, Bool.and_eq_true, ih]
    constructor
    · rintro ⟨h1, h2⟩
      refine List.pairwise_cons.mpr ⟨fun y hy => ?_, h2⟩
      rcases List.mem_cons.mp hy with rfl | hy
      · exact h1
      · exact less_tr h1 ((List.pairwise_cons.mp h2).1 y hy)
    · intro h
      obtain ⟨h1, h2⟩ := List.pairwise_cons.mp h
      exact ⟨h1 b List.mem_cons_self, h2⟩
theorem paired_drop {α β : Type} {R : α → β → Prop} : ∀ {xs : List α} {ys : List β}, Paired R xs ys → ∀ n, Paired R (xs.drop n) (ys.drop n)
  | _, _, h, 0 => h
  | _, _, .nil, n + 1 => by
    rw [List.drop_nil, List.drop_nil]
    exact .nil
  | _, _, .cons _ t, n + 1 => paired_drop t n
end Nm
namespace Nm
open PySem PySem.Spec PyProof.Rows L2
/-! ### bits -/
def bitsOf (f : Nat → Bool) : Nat → Nat
  | 0 => 0
  | n + 1 => bitsOf f n + (if f n = true then 2 ^ n else 0)
theorem bitsOf_lt (f : Nat → Bool) : ∀ n, bitsOf f n < 2 ^ n
  | 0 => Nat.one_pos
  | n + 1 => by
    have := bitsOf_lt f n
    show bitsOf f n + _ < 2 ^ (n + 1)
    rw [Nat.pow_succ]
    split <;> omega
theorem testBit_bitsOf (f : Nat → Bool) (i : Nat) : ∀ n, (bitsOf f n).testBit i = (decide (i < n) && f i)
  | 0 => by
    show (0 : Nat).testBit i = _
    simp
  | n + 1 => by
    have ih := testBit_bitsOf f i n
    have lt := bitsOf_lt f n
    show (bitsOf f n + (if f n = true then 2 ^ n else 0)).testBit i = _
    by_cases c : f n = true
    · rw [if_pos c, Nat.add_comm]
      rcases Nat.lt_trichotomy i n with h | h | h
      · rw [Nat.testBit_two_pow_add_gt h, ih, decide_eq_true h, decide_eq_true (show i < n + 1 by omega)]
      · subst h
        rw [Nat.testBit_two_pow_add_eq, ih, decide_eq_false (Nat.lt_irrefl _), decide_eq_true (show i < i + 1 by omega), c]
        rfl
      · rw [decide_eq_false (show ¬ i < n + 1 by omega), Bool.false_and]
        refine Nat.testBit_lt_two_pow ?_
        have : 2 ^ (n + 1) ≤ 2 ^ i := Nat.pow_le_pow_right (by decide) h
        rw [Nat.pow_succ] at this
        omega
    · rw [if_neg c, Nat.add_zero, ih]
      have cf : f n = false := by simpa using c
      by_cases h : i < n
      · rw [decide_eq_true h, decide_eq_true (show i < n + 1 by omega)]
      · rw [decide_eq_false h]
        by_cases e : i = n
        · subst e
          rw [cf, Bool.and_false, Bool.and_false]
        · rw [decide_eq_false (show ¬ i < n + 1 by omega)]
theorem bits_zero {x : Nat} (h : ∀ i, x.testBit i = false) : x = 0 := Nat.eq_of_testBit_eq fun i => by rw [h i, Nat.zero_testBit]
theorem bit_lt {x n i : Nat} (h : x < 2 ^ n) (b : x.testBit i = true) : i < n := by
  rcases Nat.lt_or_ge i n with c | c
  · exact c
  · rw [Nat.testBit_lt_two_pow (Nat.lt_of_lt_of_le h (Nat.pow_le_pow_right (by decide) c))] at b
    cases b
theorem lt_bits {x n : Nat} (h : ∀ i, x.testBit i = true → i < n) : x < 2 ^ n := Nat.lt_pow_two_of_testBit x fun i hi => by
  cases e : x.testBit i with
  | false => rfl
  | true => exact absurd (h i e) (by omega)
theorem bit_pow (i j : Nat) : (2 ^ i).testBit j = decide (i = j) := Nat.testBit_two_pow
/-! ### sets of numbers below n, no two of which clash, that can't be made greater -/
section
variable (K : Nat → Nat → Bool) (n : Nat)
/-- the number i may be added -/
def freeB (c i : Nat) : Bool := decide (c &&& bitsOf (K i) n = 0)
def fillTo (S : Nat) : Nat → Nat
  | 0 => S
  | m + 1 => if freeB K n (fillTo S m) m = true then fillTo S m ||| 2 ^ m else fillTo S m
def filledN (S : Nat) : Nat := fillTo K n S n
/-- what is tried from a found set -/
def turnAt (S i : Nat) : Nat := bitsOf (fun j => decide (j < i) && (S.testBit j && !K i j)) i ||| 2 ^ i
/-- no two clash -/
def IndS (c : Nat) : Prop := ∀ i j, c.testBit i = true → c.testBit j = true → i ≠ j → K i j = false
/-- nothing below m can be added -/
def MaxS (c m : Nat) : Prop := ∀ i, i < m → c.testBit i = false → ∃ j, c.testBit j = true ∧ K i j = true
structure Mis (c m : Nat) : Prop where
  lt : c < 2 ^ m
  ind : IndS K c
  max : MaxS K c m
end
section
variable {K : Nat → Nat → Bool} {n : Nat}
theorem free_iff {c i : Nat} (hc : c < 2 ^ n) : freeB K n c i = true ↔ ∀ j, c.testBit j = true → K i j = false := by
  unfold freeB
  rw [decide_eq_true_eq]
  constructor
  · intro h j hj
    have e := congrArg (fun x => x.testBit j) h
    simp only [Nat.testBit_and, testBit_bitsOf, Nat.zero_testBit, hj, decide_eq_true (bit_lt hc hj), Bool.true_and] at e
    exact e
  · intro h
    refine bits_zero fun j => ?_
    rw [Nat.testBit_and, testBit_bitsOf]
    cases hj : c.testBit j with
    | false => rw [Bool.false_and]
    | true => rw [h j hj, Bool.and_false, Bool.and_false]
theorem or_lt {a b m : Nat} (ha : a < 2 ^ m) (hb : b < 2 ^ m) : a ||| b < 2 ^ m := Nat.or_lt_two_pow ha hb
theorem pow_lt {i m : Nat} (h : i < m) : 2 ^ i < 2 ^ m := Nat.pow_lt_pow_right (by decide) h
theorem bit_or_pow (c i j : Nat) : (c ||| 2 ^ i).testBit j = (c.testBit j || decide (i = j)) := by rw [Nat.testBit_or, bit_pow]
structure FillOk (K : Nat → Nat → Bool) (n S m c : Nat) : Prop where
  lt : c < 2 ^ n
  sub : ∀ i, S.testBit i = true → c.testBit i = true
  ind : IndS K c
  max : MaxS K c m
  hi : ∀ i, m ≤ i → c.testBit i = S.testBit i
theorem fill_ok (sym : ∀ i j, K i j = K j i) {S : Nat} (hS : S < 2 ^ n) (ind : IndS K S) : ∀ m, m ≤ n → FillOk K n S m (fillTo K n S m)
  | 0, _ => ⟨hS, fun _ h => h, ind, fun i hi => absurd hi (Nat.not_lt_zero _), fun _ _ => rfl⟩
  | m + 1, hm => by
    have ih := fill_ok sym hS ind m (by omega)
    show FillOk K n S (m + 1) (if freeB K n (fillTo K n S m) m = true then fillTo K n S m ||| 2 ^ m else fillTo K n S m)
    generalize fillTo K n S m = c at ih
    by_cases f : freeB K n c m = true
    · rw [if_pos f]
      have fr := (free_iff ih.lt).mp f
      refine ⟨or_lt ih.lt (pow_lt (by omega)), fun i h => by rw [bit_or_pow, ih.sub i h, Bool.true_or], fun i j hi hj ne => ?_, fun i hi hb => ?_, fun i hi => ?_⟩
      · rw [bit_or_pow, Bool.or_eq_true, decide_eq_true_eq] at hi hj
        rcases hi with hi | rfl
        · rcases hj with hj | rfl
          · exact ih.ind i j hi hj ne
          · rw [sym]
            exact fr i hi
        · rcases hj with hj | rfl
          · exact fr j hj
          · exact absurd rfl ne
      · rw [bit_or_pow, Bool.or_eq_false_iff] at hb
        have ne : m ≠ i := of_decide_eq_false hb.2
        obtain ⟨j, h1, h2⟩ := ih.max i (by omega) hb.1
        exact ⟨j, by rw [bit_or_pow, h1, Bool.true_or], h2⟩
      · rw [bit_or_pow, ih.hi i (by omega), decide_eq_false (by omega), Bool.or_false]
    · rw [if_neg f]
      refine ⟨ih.lt, ih.sub, ih.ind, fun i hi hb => ?_, fun i hi => ih.hi i (by omega)⟩
      by_cases e : i = m
      · subst e
        have nf : ¬ ∀ j, c.testBit j = true → K i j = false := fun h => f ((free_iff ih.lt).mpr h)
        rcases Classical.not_forall.mp nf with ⟨j, hj⟩
        rcases Classical.not_imp.mp hj with ⟨h1, h2⟩
        exact ⟨j, h1, by simpa using h2⟩
      · exact ih.max i (by omega) hb
theorem ind_zero : IndS K 0 := fun i j h => by rw [Nat.zero_testBit] at h; cases h
/-- what is filled can't be made greater -/
theorem filled_mis (sym : ∀ i j, K i j = K j i) {S : Nat} (hS : S < 2 ^ n) (ind : IndS K S) : Mis K (filledN K n S) n := by
  have f := fill_ok sym hS ind n (Nat.le_refl _)
  exact ⟨f.lt, f.ind, f.max⟩
/-- nothing is added where nothing can be -/
theorem fill_stays (refl : ∀ i, i < n → K i i = true) {c : Nat} (hc : c < 2 ^ n) : ∀ m, m ≤ n → MaxS K c m → fillTo K n c m = c
  | 0, _, _ => rfl
  | m + 1, hm, mx => by
    have ih := fill_stays refl hc m (by omega) fun i hi => mx i (by omega)
    show (if freeB K n (fillTo K n c m) m = true then fillTo K n c m ||| 2 ^ m else fillTo K n c m) = c
    rw [ih]
    have nf : ¬ freeB K n c m = true := fun f => by
      have fr := (free_iff hc).mp f
      cases hb : c.testBit m with
      | false =>
        obtain ⟨j, h1, h2⟩ := mx m (by omega) hb
        rw [fr j h1] at h2
        cases h2
      | true =>
        have := fr m hb
        rw [refl m (by omega)] at this
        cases this
    rw [if_neg nf]
theorem fill_on {S S' m : Nat} (h : fillTo K n S m = fillTo K n S' m) : ∀ k, fillTo K n S (m + k) = fillTo K n S' (m + k)
  | 0 => h
  | k + 1 => by
    have ih := fill_on h k
    show (if freeB K n (fillTo K n S (m + k)) (m + k) = true then fillTo K n S (m + k) ||| 2 ^ (m + k) else fillTo K n S (m + k)) = (if freeB K n (fillTo K n S' (m + k)) (m + k) = true then fillTo K n S' (m + k) ||| 2 ^ (m + k) else fillTo K n S' (m + k))
    rw [ih]
theorem fill_same {S S' m : Nat} (hm : m ≤ n) (h : fillTo K n S m = fillTo K n S' m) : filledN K n S = filledN K n S' := by
  have := fill_on h (n - m)
  rw [show m + (n - m) = n by omega] at this
  exact this
/-- the low bits -/
def lowN (c m : Nat) : Nat := c % 2 ^ m
theorem bit_low (c m i : Nat) : (lowN c m).testBit i = (decide (i < m) && c.testBit i) := Nat.testBit_mod_two_pow c m i
theorem low_lt (c m : Nat) : lowN c m < 2 ^ m := Nat.mod_lt _ (Nat.two_pow_pos m)
theorem ind_sub {c d : Nat} (h : ∀ i, c.testBit i = true → d.testBit i = true) (x : IndS K d) : IndS K c := fun i j hi hj => x i j (h i hi) (h j hj)
theorem turn_bit (S i j : Nat) : (turnAt K S i).testBit j = ((decide (j < i) && (S.testBit j && !K i j)) || decide (i = j)) := by
  unfold turnAt
  rw [bit_or_pow, testBit_bitsOf]
  by_cases h : j < i
  · rw [decide_eq_true h, Bool.true_and, Bool.true_and]
  · rw [decide_eq_false h, Bool.false_and, Bool.false_and]
theorem turn_ok (sym : ∀ i j, K i j = K j i) {S i : Nat} (hi : i < n) (ind : IndS K S) : turnAt K S i < 2 ^ n ∧ IndS K (turnAt K S i) := by
  refine ⟨or_lt (Nat.lt_trans (bitsOf_lt _ _) (pow_lt hi)) (pow_lt hi), fun a b ha hb ne => ?_⟩
  rw [turn_bit, Bool.or_eq_true, decide_eq_true_eq] at ha hb
  rcases ha with ha | rfl
  · rw [Bool.and_eq_true, Bool.and_eq_true] at ha
    rcases hb with hb | rfl
    · rw [Bool.and_eq_true, Bool.and_eq_true] at hb
      exact ind a b ha.2.1 hb.2.1 ne
    · rw [sym]
      simpa using ha.2.2
  · rcases hb with hb | rfl
    · rw [Bool.and_eq_true, Bool.and_eq_true] at hb
      simpa using hb.2.2
    · exact absurd rfl ne
/-- what is reached from the first one by the turns: all -/
theorem all_found (sym : ∀ i j, K i j = K j i) (refl : ∀ i, i < n → K i i = true) {F : Nat → Prop} (h0 : F (filledN K n 0)) (hs : ∀ S, F S → ∀ i, i < n → F (filledN K n (turnAt K S i))) :
    ∀ m, m ≤ n → ∀ U, Mis K U m → F (filledN K n U)
  | 0, _, U, hU => by
    have : U = 0 := by have := hU.lt; omega
    rw [this]
    exact h0
  | m + 1, hm, U, hU => by
    have ih := all_found sym refl h0 hs m (by omega)
    have lU : U < 2 ^ n := Nat.lt_of_lt_of_le hU.lt (Nat.pow_le_pow_right (by decide) hm)
    have lL : lowN U m < 2 ^ n := Nat.lt_of_lt_of_le (low_lt U m) (Nat.pow_le_pow_right (by decide) (by omega))
    have subL : ∀ i, (lowN U m).testBit i = true → U.testBit i = true := fun i h => by
      rw [bit_low, Bool.and_eq_true] at h
      exact h.2
    have indL : IndS K (lowN U m) := ind_sub subL hU.ind
    have stU := fill_stays refl lU (m + 1) hm hU.max
    by_cases cm : MaxS K (lowN U m) m
    · have e : fillTo K n (lowN U m) (m + 1) = fillTo K n U (m + 1) := by
        rw [stU]
        show (if freeB K n (fillTo K n (lowN U m) m) m = true then fillTo K n (lowN U m) m ||| 2 ^ m else fillTo K n (lowN U m) m) = U
        rw [fill_stays refl lL m (by omega) cm]
        have split : ∀ i, U.testBit i = ((lowN U m).testBit i || (decide (m = i) && U.testBit m)) := fun i => by
          rw [bit_low]
          rcases Nat.lt_trichotomy i m with h | h | h
          · rw [decide_eq_true h, decide_eq_false (show ¬ m = i by omega), Bool.true_and, Bool.false_and, Bool.or_false]
          · subst h
            rw [decide_eq_false (Nat.lt_irrefl _), decide_eq_true rfl, Bool.false_and, Bool.true_and, Bool.false_or]
          · rw [decide_eq_false (show ¬ i < m by omega), decide_eq_false (show ¬ m = i by omega), Bool.false_and, Bool.false_and, Bool.or_false]
            exact Nat.testBit_lt_two_pow (Nat.lt_of_lt_of_le hU.lt (Nat.pow_le_pow_right (by decide) h))
        cases hb : U.testBit m with
        | true =>
          have f : freeB K n (lowN U m) m = true := (free_iff lL).mpr fun j hj => hU.ind m j hb (subL j hj) fun z => by
            rw [bit_low, Bool.and_eq_true] at hj
            have := of_decide_eq_true hj.1
            omega
          rw [if_pos f]
          refine Nat.eq_of_testBit_eq fun i => ?_
          rw [bit_or_pow, split i, hb, Bool.and_true]
        | false =>
          have f : ¬ freeB K n (lowN U m) m = true := fun f => by
            obtain ⟨j, h1, h2⟩ := hU.max m (by omega) hb
            have hj : (lowN U m).testBit j = true := by
              have := split j
              rw [h1, hb, Bool.and_false, Bool.or_false] at this
              exact this.symm
            rw [(free_iff lL).mp f j hj] at h2
            cases h2
          rw [if_neg f]
          refine Nat.eq_of_testBit_eq fun i => ?_
          rw [split i, hb, Bool.and_false, Bool.or_false]
      have := ih (lowN U m) ⟨low_lt U m, indL, cm⟩
      rw [fill_same hm e] at this
      exact this
    · have fo := fill_ok sym lL indL m (by omega)
      have stV : fillTo K n (lowN U m) m < 2 ^ m := lt_bits fun i hi => by
        rcases Nat.lt_or_ge i m with c | c
        · exact c
        · rw [fo.hi i c, bit_low, decide_eq_false (by omega), Bool.false_and] at hi
          cases hi
      generalize hV : fillTo K n (lowN U m) m = V at fo stV
      have mV : Mis K V m := ⟨stV, fo.ind, fo.max⟩
      have fV := ih V mV
      have hb : U.testBit m = true := by
        cases hb : U.testBit m with
        | true => rfl
        | false =>
          refine absurd (fun i hi hz => ?_) cm
          have hz' : U.testBit i = false := by
            rw [bit_low, decide_eq_true hi, Bool.true_and] at hz
            exact hz
          obtain ⟨j, h1, h2⟩ := hU.max i (by omega) hz'
          refine ⟨j, ?_, h2⟩
          have lt := bit_lt hU.lt h1
          rw [bit_low, h1, Bool.and_true]
          refine decide_eq_true ?_
          rcases Nat.lt_or_ge j m with c | c
          · exact c
          · have : j = m := by omega
            rw [this, hb] at h1
            cases h1
      -- the turn at m from what V fills
      have fS := fill_ok sym (S := V) (Nat.lt_of_lt_of_le stV (Nat.pow_le_pow_right (by decide) (by omega))) fo.ind n (Nat.le_refl _)
      have lowS : ∀ j, j < m → (filledN K n V).testBit j = V.testBit j := fun j hj => by
        cases e : V.testBit j with
        | true => exact fS.sub j e
        | false =>
          cases e2 : (filledN K n V).testBit j with
          | false => rfl
          | true =>
            obtain ⟨i, h1, h2⟩ := fo.max j hj e
            have ne : j ≠ i := fun z => by rw [z, h1] at e; cases e
            have := fS.ind j i e2 (fS.sub i h1) ne
            rw [h2] at this
            cases this
      have turn : turnAt K (filledN K n V) m = U := by
        refine Nat.eq_of_testBit_eq fun j => ?_
        rw [turn_bit]
        rcases Nat.lt_trichotomy j m with h | h | h
        · rw [decide_eq_true h, decide_eq_false (show ¬ m = j by omega), Bool.true_and, Bool.or_false, lowS j h]
          cases e : U.testBit j with
          | true =>
            have ve : V.testBit j = true := fo.sub j (by rw [bit_low, decide_eq_true h, e]; rfl)
            rw [ve, hU.ind m j hb e (by omega)]
            rfl
          | false =>
            cases ve : V.testBit j with
            | false => rfl
            | true =>
              rw [Bool.true_and]
              -- j is in V but not in U: it clashes with m
              obtain ⟨i, h1, h2⟩ := hU.max j (by omega) e
              by_cases im : i = m
              · subst im
                rw [sym, h2]
                rfl
              · have lt := bit_lt hU.lt h1
                have vi : V.testBit i = true := fo.sub i (by rw [bit_low, decide_eq_true (show i < m by omega), h1]; rfl)
                have ne : j ≠ i := fun z => by rw [z, h1] at e; cases e
                have := fo.ind j i ve vi ne
                rw [h2] at this
                cases this
        · subst h
          rw [decide_eq_true rfl, Bool.or_true, hb]
        · rw [decide_eq_false (show ¬ j < m by omega), decide_eq_false (show ¬ m = j by omega), Bool.false_and, Bool.or_false]
          exact (Nat.testBit_lt_two_pow (Nat.lt_of_lt_of_le hU.lt (Nat.pow_le_pow_right (by decide) h))).symm
      have := hs _ fV m (by omega)
      rw [turn] at this
      exact this
/-- the sets that can't be made greater are just those that are found -/
theorem found_all (sym : ∀ i j, K i j = K j i) (refl : ∀ i, i < n → K i i = true) {F : Nat → Prop} (h0 : F (filledN K n 0)) (hs : ∀ S, F S → ∀ i, i < n → F (filledN K n (turnAt K S i))) {U : Nat} (hU : Mis K U n) : F U := by
  have := all_found sym refl h0 hs n (Nat.le_refl _) U hU
  unfold filledN at this
  rw [fill_stays refl hU.lt n (Nat.le_refl _) hU.max] at this
  exact this
end
end Nm
namespace Nm
open PySem PySem.Spec PyProof.Rows L2 NmD
/-! ### pairings as lists of pairs -/
def shareP (p q : Pr) : Bool := (decide (p.1 = q.1) || decide (p.1 = q.2)) || (decide (p.2 = q.1) || decide (p.2 = q.2))
theorem share_sym (p q : Pr) : shareP p q = shareP q p := by
  unfold shareP
  rw [show decide (p.1 = q.1) = decide (q.1 = p.1) from decide_eq_decide.mpr eq_comm, show decide (p.1 = q.2) = decide (q.2 = p.1) from decide_eq_decide.mpr eq_comm, show decide (p.2 = q.1) = decide (q.1 = p.2) from decide_eq_decide.mpr eq_comm, show decide (p.2 = q.2) = decide (q.2 = p.2) from decide_eq_decide.mpr eq_comm]
  cases decide (q.1 = p.1) <;> cases decide (q.2 = p.1) <;> cases decide (q.1 = p.2) <;> cases decide (q.2 = p.2) <;> rfl
theorem share_refl (p : Pr) : shareP p p = true := by
  unfold shareP
  rw [decide_eq_true (rfl : p.1 = p.1)]
  rfl
/-- the pairs are ascending, each is one of ps, no two share a board -/
structure Pairing (ps t : List Pr) : Prop where
  up : t.Pairwise (Less dPr)
  sub : ∀ p ∈ t, p ∈ ps
  apart : t.Pairwise fun p q => shareP p q = false
/-- no pair can be added -/
structure Great (ps t : List Pr) : Prop extends Pairing ps t where
  max : ∀ p ∈ ps, p ∉ t → ∃ q ∈ t, shareP p q = true
def KP (ps : List Pr) (i j : Nat) : Bool := match ps[i]?, ps[j]? with
  | some p, some q => shareP p q
  | _, _ => false
theorem kp_at {ps : List Pr} {i j : Nat} {p q : Pr} (hi : ps[i]? = some p) (hj : ps[j]? = some q) : KP ps i j = shareP p q := by
  unfold KP
  rw [hi, hj]
theorem kp_sym (ps : List Pr) (i j : Nat) : KP ps i j = KP ps j i := by
  unfold KP
  cases ps[i]? <;> cases ps[j]? <;> try rfl
  exact share_sym _ _
theorem kp_refl {ps : List Pr} (i : Nat) (h : i < ps.length) : KP ps i i = true := by
  rw [kp_at (List.getElem?_eq_getElem h) (List.getElem?_eq_getElem h)]
  exact share_refl _
/-- the pairs whose bits are set -/
def pickL (ps : List Pr) (c : Nat) : List Pr := ((List.range ps.length).filter fun i => c.testBit i).map fun i => ps.getD i (0, 0)
theorem getD_at {ps : List Pr} {i : Nat} {p : Pr} (h : ps[i]? = some p) : ps.getD i (0, 0) = p := by
  rw [List.getD_eq_getElem?_getD, h]
  rfl
theorem mem_pick {ps : List Pr} {c : Nat} {p : Pr} : p ∈ pickL ps c ↔ ∃ i, ps[i]? = some p ∧ c.testBit i = true := by
  unfold pickL
  rw [List.mem_map]
  constructor
  · rintro ⟨i, hi, rfl⟩
    obtain ⟨h1, h2⟩ := List.mem_filter.mp hi
    have lt := List.mem_range.mp h1
    have e : ps[i]? = some ps[i] := List.getElem?_eq_getElem lt
    exact ⟨i, by rw [getD_at e]; exact e, h2⟩
  · rintro ⟨i, h1, h2⟩
    exact ⟨i, List.mem_filter.mpr ⟨List.mem_range.mpr (List.getElem?_eq_some_iff.mp h1).1, h2⟩, getD_at h1⟩
theorem range_up (n : Nat) : (List.range n).Pairwise (· < ·) := List.pairwise_lt_range
theorem pick_up {ps : List Pr} (up : ps.Pairwise (Less dPr)) (c : Nat) : (pickL ps c).Pairwise (Less dPr) := by
  unfold pickL
  rw [List.pairwise_map]
  refine List.Pairwise.imp_of_mem ?_ (List.Pairwise.filter _ (range_up ps.length))
  intro i j hi hj h
  have li := List.mem_range.mp (List.mem_filter.mp hi).1
  have lj := List.mem_range.mp (List.mem_filter.mp hj).1
  rw [getD_at (List.getElem?_eq_getElem li), getD_at (List.getElem?_eq_getElem lj)]
  exact List.pairwise_iff_getElem.mp up i j li lj h
/-- where a pair stands -/
theorem at_one {ps : List Pr} (up : ps.Pairwise (Less dPr)) {i j : Nat} {p : Pr} (hi : ps[i]? = some p) (hj : ps[j]? = some p) : i = j := by
  obtain ⟨li, ei⟩ := List.getElem?_eq_some_iff.mp hi
  obtain ⟨lj, ej⟩ := List.getElem?_eq_some_iff.mp hj
  rcases Nat.lt_trichotomy i j with h | h | h
  · have := List.pairwise_iff_getElem.mp up i j li lj h
    rw [ei, ej] at this
    exact absurd this (less_not this)
  · exact h
  · have := List.pairwise_iff_getElem.mp up j i lj li h
    rw [ei, ej] at this
    exact absurd this (less_not this)
/-- the bits of a list -/
def codeL (ps t : List Pr) : Nat := bitsOf (fun i => decide (ps.getD i (0, 0) ∈ t)) ps.length
theorem code_lt (ps t : List Pr) : codeL ps t < 2 ^ ps.length := bitsOf_lt _ _
theorem code_bit {ps t : List Pr} {i : Nat} {p : Pr} (h : ps[i]? = some p) : (codeL ps t).testBit i = decide (p ∈ t) := by
  unfold codeL
  rw [testBit_bitsOf, decide_eq_true (List.getElem?_eq_some_iff.mp h).1, Bool.true_and, getD_at h]
theorem pick_code {ps t : List Pr} (up : ps.Pairwise (Less dPr)) (ut : t.Pairwise (Less dPr)) (sub : ∀ p ∈ t, p ∈ ps) : pickL ps (codeL ps t) = t := by
  refine less_one (pick_up up _) ut fun z => ?_
  rw [mem_pick]
  constructor
  · rintro ⟨i, h1, h2⟩
    rw [code_bit h1] at h2
    exact of_decide_eq_true h2
  · intro h
    obtain ⟨i, hi⟩ := List.mem_iff_getElem?.mp (sub z h)
    exact ⟨i, hi, by rw [code_bit hi]; exact decide_eq_true h⟩
theorem code_pick {ps : List Pr} (up : ps.Pairwise (Less dPr)) {c : Nat} (lt : c < 2 ^ ps.length) : codeL ps (pickL ps c) = c := by
  refine Nat.eq_of_testBit_eq fun i => ?_
  rcases Nat.lt_or_ge i ps.length with h | h
  · have e : ps[i]? = some ps[i] := List.getElem?_eq_getElem h
    rw [code_bit e]
    cases hb : c.testBit i with
    | true => exact decide_eq_true (mem_pick.mpr ⟨i, e, hb⟩)
    | false =>
      refine decide_eq_false fun m => ?_
      obtain ⟨j, hj, b⟩ := mem_pick.mp m
      rw [at_one up hj e, hb] at b
      cases b
  · rw [Nat.testBit_lt_two_pow (Nat.lt_of_lt_of_le (code_lt ps _) (Nat.pow_le_pow_right (by decide) h)), Nat.testBit_lt_two_pow (Nat.lt_of_lt_of_le lt (Nat.pow_le_pow_right (by decide) h))]
/-- sets without clashes are pairings, and the other way round -/
theorem pick_pairing {ps : List Pr} (up : ps.Pairwise (Less dPr)) {c : Nat} (ind : IndS (KP ps) c) : Pairing ps (pickL ps c) := by
  refine ⟨pick_up up c, fun p hp => ?_, ?_⟩
  · obtain ⟨i, h, _⟩ := mem_pick.mp hp
    exact List.mem_of_getElem? h
  · unfold pickL
    rw [List.pairwise_map]
    refine List.Pairwise.imp_of_mem ?_ (List.Pairwise.filter _ (range_up ps.length))
    intro i j hi hj h
    obtain ⟨h1, h2⟩ := List.mem_filter.mp hi
    obtain ⟨k1, k2⟩ := List.mem_filter.mp hj
    have li := List.mem_range.mp h1
    have lj := List.mem_range.mp k1
    have ei : ps[i]? = some ps[i] := List.getElem?_eq_getElem li
    have ej : ps[j]? = some ps[j] := List.getElem?_eq_getElem lj
    rw [getD_at ei, getD_at ej, ← kp_at ei ej]
    exact ind i j h2 k2 (by omega)
theorem code_ind {ps t : List Pr} (up : ps.Pairwise (Less dPr)) (h : t.Pairwise fun p q => shareP p q = false) : IndS (KP ps) (codeL ps t) := fun i j hi hj ne => by
  have li := bit_lt (code_lt ps t) hi
  have lj := bit_lt (code_lt ps t) hj
  have ei : ps[i]? = some ps[i] := List.getElem?_eq_getElem li
  have ej : ps[j]? = some ps[j] := List.getElem?_eq_getElem lj
  rw [code_bit ei] at hi
  rw [code_bit ej] at hj
  rw [kp_at ei ej]
  have nn : ps[i] ≠ ps[j] := fun e => ne (at_one up ei (by rw [e]; exact ej))
  obtain ⟨a, ha⟩ := List.mem_iff_getElem?.mp (of_decide_eq_true hi)
  obtain ⟨b, hb⟩ := List.mem_iff_getElem?.mp (of_decide_eq_true hj)
  obtain ⟨la, ea⟩ := List.getElem?_eq_some_iff.mp ha
  obtain ⟨lb, eb⟩ := List.getElem?_eq_some_iff.mp hb
  rcases Nat.lt_trichotomy a b with c | c | c
  · have := List.pairwise_iff_getElem.mp h a b la lb c
    rwa [ea, eb] at this
  · subst c
    exact absurd (ea.symm.trans eb) nn
  · have := List.pairwise_iff_getElem.mp h b a lb la c
    rw [ea, eb] at this
    rwa [share_sym]
theorem mis_great {ps : List Pr} (up : ps.Pairwise (Less dPr)) {c : Nat} (m : Mis (KP ps) c ps.length) : Great ps (pickL ps c) := by
  refine ⟨pick_pairing up m.ind, fun p hp np => ?_⟩
  obtain ⟨i, hi⟩ := List.mem_iff_getElem?.mp hp
  have li := (List.getElem?_eq_some_iff.mp hi).1
  have hb : c.testBit i = false := by
    cases hb : c.testBit i with
    | false => rfl
    | true => exact absurd (mem_pick.mpr ⟨i, hi, hb⟩) np
  obtain ⟨j, h1, h2⟩ := m.max i li hb
  have lj := bit_lt m.lt h1
  have ej : ps[j]? = some ps[j] := List.getElem?_eq_getElem lj
  exact ⟨ps[j], mem_pick.mpr ⟨j, ej, h1⟩, by rw [← kp_at hi ej]; exact h2⟩
theorem great_mis {ps t : List Pr} (up : ps.Pairwise (Less dPr)) (g : Great ps t) : Mis (KP ps) (codeL ps t) ps.length := by
  refine ⟨code_lt ps t, code_ind up g.apart, fun i hi hb => ?_⟩
  have ei : ps[i]? = some ps[i] := List.getElem?_eq_getElem hi
  rw [code_bit ei] at hb
  obtain ⟨q, hq, s⟩ := g.max _ (List.mem_of_getElem? ei) (of_decide_eq_false hb)
  obtain ⟨j, hj⟩ := List.mem_iff_getElem?.mp (g.sub q hq)
  exact ⟨j, by rw [code_bit hj]; exact decide_eq_true hq, by rw [kp_at ei hj]; exact s⟩
/-- each pairing is within a greatest one -/
theorem pairing_in {ps t : List Pr} (up : ps.Pairwise (Less dPr)) (g : Pairing ps t) : ∃ u, Great ps u ∧ ∀ p ∈ t, p ∈ u := by
  have f := fill_ok (n := ps.length) (kp_sym ps) (code_lt ps t) (code_ind up g.apart) ps.length (Nat.le_refl _)
  have m := filled_mis (n := ps.length) (kp_sym ps) (code_lt ps t) (code_ind up g.apart)
  refine ⟨_, mis_great up m, fun p hp => ?_⟩
  obtain ⟨i, hi⟩ := List.mem_iff_getElem?.mp (g.sub p hp)
  exact mem_pick.mpr ⟨i, hi, f.sub i (by rw [code_bit hi]; exact decide_eq_true hp)⟩
/-! ### all pairings, as they are made pair by pair -/
def withP (p : Pr) (es : List (List Pr)) : List (List Pr) := (es.filter fun t => !t.any fun q => shareP p q).map fun t => t ++ [p]
def allP (ps : List Pr) : List (List Pr) := ps.foldl (fun es p => es ++ withP p es) [[]]
theorem allP_nil : allP [] = [[]] := rfl
theorem allP_snoc (ps : List Pr) (p : Pr) : allP (ps ++ [p]) = allP ps ++ withP p (allP ps) := by
  unfold allP
  rw [List.foldl_append]
  rfl
theorem pairing_snoc {ps t : List Pr} {p : Pr} (up : (ps ++ [p]).Pairwise (Less dPr)) : Pairing (ps ++ [p]) t ↔ Pairing ps t ∨ ∃ u, t = u ++ [p] ∧ Pairing ps u ∧ (u.any fun q => shareP p q) = false := by
  have below : ∀ q ∈ ps, Less dPr q p := fun q hq => (List.pairwise_append.mp up).2.2 q hq p (List.mem_singleton.mpr rfl)
  constructor
  · intro h
    by_cases c : p ∈ t
    · obtain ⟨a, b, rfl⟩ := List.append_of_mem c
      have b0 : b = [] := by
        cases b with
        | nil => rfl
        | cons q b =>
          have l := (List.pairwise_cons.mp (List.pairwise_append.mp h.up).2.1).1 q List.mem_cons_self
          rcases List.mem_append.mp (h.sub q (List.mem_append_right _ (List.mem_cons_of_mem _ List.mem_cons_self))) with m | m
          · exact absurd l (less_not (below q m))
          · rw [List.mem_singleton.mp m] at l
            exact absurd l (less_not l)
      subst b0
      obtain ⟨u1, _, u3⟩ := List.pairwise_append.mp h.up
      obtain ⟨a1, _, a3⟩ := List.pairwise_append.mp h.apart
      refine .inr ⟨a, rfl, ⟨u1, fun q hq => ?_, a1⟩, ?_⟩
      · rcases List.mem_append.mp (h.sub q (List.mem_append_left _ hq)) with m | m
        · exact m
        · have l := u3 q hq p (List.mem_singleton.mpr rfl)
          rw [List.mem_singleton.mp m] at l
          exact absurd l (less_not l)
      · rw [List.any_eq_false]
        intro q hq z
        have := a3 q hq p (List.mem_singleton.mpr rfl)
        rw [share_sym, this] at z
        cases z
    · refine .inl ⟨h.up, fun q hq => ?_, h.apart⟩
      rcases List.mem_append.mp (h.sub q hq) with m | m
      · exact m
      · rw [List.mem_singleton.mp m] at hq
        exact absurd hq c
  · rintro (h | ⟨u, rfl, h, hn⟩)
    · exact ⟨h.up, fun q hq => List.mem_append_left _ (h.sub q hq), h.apart⟩
    · rw [List.any_eq_false] at hn
      refine ⟨List.pairwise_append.mpr ⟨h.up, List.pairwise_singleton _ _, fun a ha b hb => by rw [List.mem_singleton.mp hb]; exact below a (h.sub a ha)⟩, fun q hq => ?_, List.pairwise_append.mpr ⟨h.apart, List.pairwise_singleton _ _, fun a ha b hb => ?_⟩⟩
      · rcases List.mem_append.mp hq with m | m
        · exact List.mem_append_left _ (h.sub q m)
        · exact List.mem_append_right _ m
      · rw [List.mem_singleton.mp hb, share_sym]
        have := hn a ha
        simpa using this
theorem mem_withP {p : Pr} {es : List (List Pr)} {t : List Pr} : t ∈ withP p es ↔ ∃ u ∈ es, (u.any fun q => shareP p q) = false ∧ t = u ++ [p] := by
  unfold withP
  rw [List.mem_map]
  constructor
  · rintro ⟨u, hu, rfl⟩
    obtain ⟨h1, h2⟩ := List.mem_filter.mp hu
    exact ⟨u, h1, by simpa using h2, rfl⟩
  · rintro ⟨u, h1, h2, rfl⟩
    exact ⟨u, List.mem_filter.mpr ⟨h1, by rw [h2]; rfl⟩, rfl⟩
theorem mem_allP : ∀ {n : Nat} {ps : List Pr}, ps.length = n → ps.Pairwise (Less dPr) → ∀ t, t ∈ allP ps ↔ Pairing ps t
  | 0, ps, hn, _, t => by
    rw [List.eq_nil_of_length_eq_zero hn, allP_nil, List.mem_singleton]
    constructor
    · rintro rfl
      exact ⟨.nil, fun p hp => absurd hp (List.not_mem_nil), .nil⟩
    · intro h
      cases t with
      | nil => rfl
      | cons q t => exact absurd (h.sub q List.mem_cons_self) (List.not_mem_nil)
  | n + 1, ps, hn, up, t => by
    cases List.eq_nil_or_concat ps with
    | inl e => rw [e] at hn; cases hn
    | inr e =>
      obtain ⟨ps, p, rfl⟩ := e
      rw [List.concat_eq_append] at up hn ⊢
      have l : ps.length = n := by simpa using hn
      have upp := (List.pairwise_append.mp up).1
      rw [allP_snoc, List.mem_append, pairing_snoc up, mem_allP l upp t, mem_withP]
      constructor
      · rintro (h | ⟨u, h1, h2, h3⟩)
        · exact .inl h
        · exact .inr ⟨u, h3, (mem_allP l upp u).mp h1, h2⟩
      · rintro (h | ⟨u, h1, h2, h3⟩)
        · exact .inl h
        · exact .inr ⟨u, (mem_allP l upp u).mpr h2, h3, h1⟩
theorem nd_allP : ∀ {n : Nat} {ps : List Pr}, ps.length = n → ps.Pairwise (Less dPr) → (allP ps).Nodup
  | 0, ps, hn, _ => by
    rw [List.eq_nil_of_length_eq_zero hn, allP_nil]
    exact List.pairwise_singleton _ _
  | n + 1, ps, hn, up => by
    cases List.eq_nil_or_concat ps with
    | inl e => rw [e] at hn; cases hn
    | inr e =>
      obtain ⟨ps, p, rfl⟩ := e
      rw [List.concat_eq_append] at up hn ⊢
      have l : ps.length = n := by simpa using hn
      have upp := (List.pairwise_append.mp up).1
      have nd := nd_allP l upp
      rw [allP_snoc]
      refine List.nodup_append.mpr ⟨nd, ?_, fun a ha b hb e => ?_⟩
      · unfold withP
        exact (List.Pairwise.map (R := (· ≠ ·)) (S := (· ≠ ·)) _ (fun a b h e => h (List.append_cancel_right e)) (List.Pairwise.filter _ nd))
      · subst e
        obtain ⟨u, hu, _, rfl⟩ := mem_withP.mp hb
        have := ((mem_allP l upp _).mp ha).sub p (List.mem_append_right _ (List.mem_singleton.mpr rfl))
        have b := (List.pairwise_append.mp up).2.2 p this p (List.mem_singleton.mpr rfl)
        exact absurd b (less_not b)
/-- more and more -/
theorem allP_len (ps : List Pr) (p : Pr) : (allP ps).length ≤ (allP (ps ++ [p])).length := by
  rw [allP_snoc, List.length_append]
  omega
/-- the greatest ones are no more than all -/
theorem great_few {ps : List Pr} (up : ps.Pairwise (Less dPr)) {c : Nat} (m : Mis (KP ps) c ps.length) : c ∈ (allP ps).map (codeL ps) :=
  List.mem_map.mpr ⟨_, (mem_allP rfl up _).mpr (mis_great up m).toPairing, code_pick up m.lt⟩
/-! ### sums of powers -/
theorem sum_bits (f : Nat → Bool) : ∀ n, (((List.range n).filter f).map fun j => (2 : Int) ^ j).sum = ((bitsOf f n : Nat) : Int)
  | 0 => rfl
  | n + 1 => by
    rw [List.range_succ, List.filter_append, List.map_append, List.sum_append, sum_bits f n]
    show _ = ((bitsOf f n + (if f n = true then 2 ^ n else 0) : Nat) : Int)
    by_cases c : f n = true
    · rw [List.filter_cons_of_pos c, if_pos c]
      simp
    · rw [List.filter_cons_of_neg c, if_neg c]
      simp
/-! ### bit by bit, of whole numbers -/
theorem and_nat (a b : Nat) : Builtin.bitAnd (a : Int) (b : Int) = ((a &&& b : Nat) : Int) := by
  unfold Builtin.bitAnd
  rw [decide_eq_true (show (0 : Int) ≤ (a : Int) by omega), decide_eq_true (show (0 : Int) ≤ (b : Int) by omega)]
  simp
theorem or_nat (a b : Nat) : Builtin.bitOr (a : Int) (b : Int) = ((a ||| b : Nat) : Int) := by
  unfold Builtin.bitOr Builtin.bitAnd
  have e1 : Builtin.bitNot (a : Int) = -(a : Int) - 1 := rfl
  have e2 : Builtin.bitNot (b : Int) = -(b : Int) - 1 := rfl
  rw [e1, e2, decide_eq_false (show ¬ (0 : Int) ≤ -(a : Int) - 1 by omega), decide_eq_false (show ¬ (0 : Int) ≤ -(b : Int) - 1 by omega)]
  show Builtin.bitNot (Builtin.bitNot (((Builtin.bitNot (-(a : Int) - 1)).toNat ||| (Builtin.bitNot (-(b : Int) - 1)).toNat : Nat) : Int)) = _
  have f1 : (Builtin.bitNot (-(a : Int) - 1)).toNat = a := by
    unfold Builtin.bitNot
    omega
  have f2 : (Builtin.bitNot (-(b : Int) - 1)).toNat = b := by
    unfold Builtin.bitNot
    omega
  rw [f1, f2]
  unfold Builtin.bitNot
  omega
theorem andnot_nat (a b : Nat) : Builtin.bitAnd (a : Int) (Builtin.bitNot (b : Int)) = (a : Int) - ((a &&& b : Nat) : Int) := by
  unfold Builtin.bitAnd
  have e2 : Builtin.bitNot (b : Int) = -(b : Int) - 1 := rfl
  rw [e2, decide_eq_true (show (0 : Int) ≤ (a : Int) by omega), decide_eq_false (show ¬ (0 : Int) ≤ -(b : Int) - 1 by omega)]
  show (a : Int) - (((a : Int).toNat &&& (Builtin.bitNot (-(b : Int) - 1)).toNat : Nat) : Int) = _
  have f2 : (Builtin.bitNot (-(b : Int) - 1)).toNat = b := by
    unfold Builtin.bitNot
    omega
  rw [f2, Int.toNat_natCast]
theorem bits_self {a n : Nat} (h : a < 2 ^ n) : bitsOf (fun i => a.testBit i) n = a := Nat.eq_of_testBit_eq fun i => by
  rw [testBit_bitsOf]
  rcases Nat.lt_or_ge i n with c | c
  · rw [decide_eq_true c, Bool.true_and]
  · rw [decide_eq_false (by omega), Bool.false_and]
    exact (Nat.testBit_lt_two_pow (Nat.lt_of_lt_of_le h (Nat.pow_le_pow_right (by decide) c))).symm
theorem bits_congr {f g : Nat → Bool} : ∀ {n : Nat}, (∀ i, i < n → f i = g i) → bitsOf f n = bitsOf g n
  | 0, _ => rfl
  | n + 1, h => by
    show bitsOf f n + (if f n = true then _ else _) = bitsOf g n + (if g n = true then _ else _)
    rw [bits_congr fun i hi => h i (by omega), h n (by omega)]
theorem bits_split (f g : Nat → Bool) : ∀ n, bitsOf f n = bitsOf (fun i => f i && g i) n + bitsOf (fun i => f i && !g i) n
  | 0 => rfl
  | n + 1 => by
    show bitsOf f n + (if f n = true then 2 ^ n else 0) = (bitsOf (fun i => f i && g i) n + (if (f n && g n) = true then 2 ^ n else 0)) + (bitsOf (fun i => f i && !g i) n + (if (f n && !g n) = true then 2 ^ n else 0))
    rw [bits_split f g n]
    have e : (if f n = true then 2 ^ n else 0) = (if (f n && g n) = true then 2 ^ n else 0) + (if (f n && !g n) = true then 2 ^ n else 0) := by
      cases f n <;> cases g n <;> simp
    rw [e]
    omega
/-- those of a that are not of b -/
theorem less_bits {a n : Nat} (b : Nat) (h : a < 2 ^ n) : (a : Int) - ((a &&& b : Nat) : Int) = ((bitsOf (fun i => a.testBit i && !b.testBit i) n : Nat) : Int) := by
  have s := bits_split (fun i => a.testBit i) (fun i => b.testBit i) n
  rw [bits_self h] at s
  have e : bitsOf (fun i => a.testBit i && b.testBit i) n = a &&& b := by
    have := bits_self (a := a &&& b) (n := n) (Nat.lt_of_le_of_lt Nat.and_le_left h)
    rw [← this]
    exact bits_congr fun i _ => by rw [Nat.testBit_and]
  rw [e] at s
  omega
theorem turn_int (K : Nat → Nat → Bool) {n S i : Nat} (hi : i < n) : Builtin.bitOr ((((S : Int) % 2 ^ i)) - (((S % 2 ^ i) &&& bitsOf (K i) n : Nat) : Int)) (2 ^ i) = ((turnAt K S i : Nat) : Int) := by
  have e1 : ((S : Int) % 2 ^ i) = ((S % 2 ^ i : Nat) : Int) := by
    rw [Int.natCast_emod]
    congr 1
  rw [e1, less_bits _ (Nat.mod_lt _ (Nat.two_pow_pos i)), show ((2 : Int) ^ i) = ((2 ^ i : Nat) : Int) from (Int.natCast_pow 2 i).symm, or_nat]
  unfold turnAt
  congr 2
  refine bits_congr fun j hj => ?_
  rw [Nat.testBit_mod_two_pow, testBit_bitsOf, decide_eq_true hj, decide_eq_true (show j < n by omega), Bool.true_and, Bool.true_and, Bool.true_and]
/-- tuple(xs) -/
def rTupleOf (K : PySem.W.Frag) : List V → Hp → VK → Prop := fun xs H Q => ∃ p ys, xs = [.ref p] ∧ ((SqL K H p ys ∧ ∀ l, H l = none → Q (.ref l) (upd H l (.tup ys))) ∨ (SqT K H p ys ∧ Q (.ref p) H))
theorem call_tupleOf {X : Cx} : CallR X (.type "tuple") (rTupleOf X.K) := call_tuple_of
/-- a whole number as a test -/
def tIntT (ta : TE) : TT := fun σ H Q => ta σ H fun x H' => ∃ i : Int, x = .int i ∧ Q (i != 0) H'
theorem pt_intT {X : Cx} {a : Expr} {ta : TE} (ha : PE X a ta) (he : ∀ whole, isTrue a X.env whole = (do let v ← whole; standAt a.pos; holding [v] (truthy v))) : PT X a (tIntT ta) := by
  refine ⟨fun pins s σ H Q I h => ?_⟩
  exact isTrue_plain (thn (ha.run pins s σ H _ I h) fun v s1 ⟨x, H1, I1, r1, i, e, q1⟩ => tru_ok pins s1 σ H1 x v Q I1 r1 ⟨i != 0, by rw [e]; rfl, q1⟩) (he _)
theorem turn_all (K : Nat → Nat → Bool) {n S i : Nat} (hi : i < n) : Builtin.bitOr (Builtin.bitAnd (Builtin.bitAnd (S : Int) ((2 : Int) ^ i - 1)) (Builtin.bitNot ((bitsOf (K i) n : Nat) : Int))) ((2 : Int) ^ i) = ((turnAt K S i : Nat) : Int) := by
  have e1 : ((S : Int) % 2 ^ i) = ((S % 2 ^ i : Nat) : Int) := by
    rw [Int.natCast_emod]
    congr 1
  have h := turn_int K (S := S) hi
  rw [PySem.W.kbt_mask, e1, andnot_nat, ← e1]
  exact h
/-- a dict keyed by numbers -/
theorem dk_some {kvs : List (Key × V)} {fs : List Nat} (h : kvs.map (·.1) = fs.map fun c => Sum.inl ((c : Nat) : Int)) (c : Nat) : (valV kvs (.inl ((c : Nat) : Int))).isSome = decide (c ∈ fs) := by
  rw [← valV_any]
  have e1 : (kvs.any fun e => decide (e.1 = Sum.inl ((c : Nat) : Int))) = (kvs.map (·.1)).any fun y => decide (y = Sum.inl ((c : Nat) : Int)) := by
    rw [List.any_map]
    rfl
  rw [e1, h, List.any_map]
  by_cases m : c ∈ fs
  · rw [decide_eq_true m, List.any_eq_true]
    exact ⟨c, m, decide_eq_true rfl⟩
  · rw [decide_eq_false m, List.any_eq_false]
    intro x hx z
    have z := of_decide_eq_true z
    have z : (Sum.inl ((x : Nat) : Int) : Key) = Sum.inl ((c : Nat) : Int) := z
    injection z with z
    have : x = c := by omega
    exact m (this ▸ hx)
theorem last_nat {ws : List Nat} (h : ws ≠ []) : ∃ ws0 c, ws = ws0 ++ [c] := ⟨_, _, (List.dropLast_concat_getLast h).symm⟩
theorem bit_test (c j : Nat) : (Builtin.bitAnd (((c : Nat) : Int) / 2 ^ j) 1 != 0) = c.testBit j := by
  have e := PySem.W.kbt_mask (((c : Nat) : Int) / 2 ^ j) 1
  have e1 : ((2 : Int) ^ 1 - 1) = 1 := rfl
  rw [e1] at e
  rw [e, Nat.testBit_eq_decide_div_mod_eq]
  have e2 : ((c : Nat) : Int) / 2 ^ j % 2 ^ 1 = ((c / 2 ^ j % 2 : Nat) : Int) := by
    rw [Int.natCast_emod, Int.natCast_ediv]
    congr 1
  rw [e2]
  have lt : c / 2 ^ j % 2 < 2 := Nat.mod_lt _ (by decide)
  generalize c / 2 ^ j % 2 = m at lt
  match m, lt with
  | 0, _ => rfl
  | 1, _ => rfl
/-- a tuple of pairs -/
def PtAt (H : Hp) (x : V) (t : List Pr) : Prop := ∃ a, x = .ref a ∧ TupOf PrAt H a t
theorem stays_pr : Stays PrAt := fun _ _ _ _ t ⟨r, e, h⟩ => ⟨r, e, t _ _ h⟩
theorem stays_pt : Stays PtAt := stays_tup stays_pr
theorem prAt_fn {H : Hp} {x : V} {p q : Pr} (a : PrAt H x p) (b : PrAt H x q) : p = q := by
  obtain ⟨s, rfl, h1⟩ := a
  obtain ⟨t, e, h2⟩ := b
  cases e
  have e := h1.symm.trans h2
  obtain ⟨p1, p2⟩ := p
  obtain ⟨q1, q2⟩ := q
  simp at e
  exact Prod.ext e.1 e.2
theorem paired_fn {α β : Type} {R : α → β → Prop} (fn : ∀ x a b, R x a → R x b → a = b) : ∀ {xs : List α} {as bs : List β}, Paired R xs as → Paired R xs bs → as = bs
  | _, _, _, .nil, .nil => rfl
  | _, _, _, .cons h t, .cons h' t' => by rw [fn _ _ _ h h', paired_fn fn t t']
theorem ptAt_fn {H : Hp} : ∀ (x : V) (s t : List Pr), PtAt H x s → PtAt H x t → s = t := fun x s t ⟨a, e1, xs, h1, p1⟩ ⟨b, e2, ys, h2, p2⟩ => by
  rw [e1] at e2
  cases e2
  have e := h1.symm.trans h2
  injection e with e
  injection e with e
  subst e
  exact paired_fn (R := PrAt H) (fun _ _ _ => prAt_fn) p1 p2
theorem ptAt_dp {K : PySem.W.Frag} {H : Hp} (x : V) (t : List Pr) (h : PtAt H x t) : (∃ r, x = V.ref r) ∧ Dp K H x (.tuple (dPrs t)) := by
  obtain ⟨a, rfl, xs, h1, p1⟩ := h
  exact ⟨⟨a, rfl⟩, .tup (SqT.of h1) (dp_prsL p1)⟩
/-! ### pairings with other numbers -/
theorem apart_all {t : List Pr} (h : t.Pairwise fun p q => shareP p q = false) : ∀ p ∈ t, ∀ q ∈ t, p ≠ q → shareP p q = false := by
  induction t with
  | nil => intro p hp; cases hp
  | cons a t ih =>
    obtain ⟨h1, h2⟩ := List.pairwise_cons.mp h
    intro p hp q hq ne
    rcases List.mem_cons.mp hp with e | hp2
    · rcases List.mem_cons.mp hq with e2 | hq2
      · exact absurd (e.trans e2.symm) ne
      · rw [e]
        exact h1 q hq2
    · rcases List.mem_cons.mp hq with e2 | hq2
      · rw [share_sym, e2]
        exact h1 p hp2
      · exact ih h2 p hp2 q hq2 ne
theorem apart_of {t : List Pr} (nd : t.Nodup) (h : ∀ p ∈ t, ∀ q ∈ t, p ≠ q → shareP p q = false) : t.Pairwise fun p q => shareP p q = false := by
  induction t with
  | nil => exact .nil
  | cons a t ih =>
    obtain ⟨n1, n2⟩ := List.nodup_cons.mp nd
    refine List.pairwise_cons.mpr ⟨fun q hq => h a List.mem_cons_self q (List.mem_cons_of_mem _ hq) fun e => n1 (e ▸ hq), ih n2 fun p hp q hq => h p (List.mem_cons_of_mem _ hp) q (List.mem_cons_of_mem _ hq)⟩
def imgL (ps : List Pr) (φ : Pr → Pr) (t : List Pr) : List Pr := ps.filter fun p => decide (p ∈ t.map φ)
structure Renum (ps ps' : List Pr) (φ : Pr → Pr) : Prop where
  into : ∀ p ∈ ps', φ p ∈ ps
  inj : ∀ p ∈ ps', ∀ q ∈ ps', φ p = φ q → p = q
  onto : ∀ q ∈ ps, ∃ p ∈ ps', φ p = q
  sh : ∀ p ∈ ps', ∀ q ∈ ps', shareP (φ p) (φ q) = shareP p q
section
variable {ps ps' : List Pr} {φ : Pr → Pr}
theorem Renum.mem (r : Renum ps ps' φ) {t : List Pr} (sub : ∀ p ∈ t, p ∈ ps') {z : Pr} : z ∈ imgL ps φ t ↔ ∃ p ∈ t, φ p = z := by
  unfold imgL
  rw [List.mem_filter, decide_eq_true_eq, List.mem_map]
  refine ⟨fun h => h.2, fun h => ⟨?_, h⟩⟩
  obtain ⟨p, hp, rfl⟩ := h
  exact r.into p (sub p hp)
theorem Renum.great (r : Renum ps ps' φ) (up : ps.Pairwise (Less dPr)) {t : List Pr} (g : Great ps' t) : Great ps (imgL ps φ t) := by
  have upi : (imgL ps φ t).Pairwise (Less dPr) := List.Pairwise.filter _ up
  refine ⟨⟨upi, fun p hp => (List.mem_filter.mp hp).1, apart_of (less_nodup upi) fun p hp q hq ne => ?_⟩, fun p hp np => ?_⟩
  · obtain ⟨a, ha, rfl⟩ := (r.mem g.sub).mp hp
    obtain ⟨b, hb, rfl⟩ := (r.mem g.sub).mp hq
    rw [r.sh a (g.sub a ha) b (g.sub b hb)]
    exact apart_all g.apart a ha b hb fun e => ne (e ▸ rfl)
  · obtain ⟨a, ha, rfl⟩ := r.onto p hp
    have na : a ∉ t := fun m => np ((r.mem g.sub).mpr ⟨a, m, rfl⟩)
    obtain ⟨b, hb, s⟩ := g.max a ha na
    exact ⟨φ b, (r.mem g.sub).mpr ⟨b, hb, rfl⟩, by rw [r.sh a ha b (g.sub b hb)]; exact s⟩
theorem Renum.back (r : Renum ps ps' φ) (up : ps.Pairwise (Less dPr)) (up' : ps'.Pairwise (Less dPr)) {u : List Pr} (g : Great ps u) : ∃ t, Great ps' t ∧ imgL ps φ t = u := by
  have upi : (ps'.filter fun p => decide (φ p ∈ u)).Pairwise (Less dPr) := List.Pairwise.filter _ up'
  have mem : ∀ p, p ∈ (ps'.filter fun p => decide (φ p ∈ u)) ↔ p ∈ ps' ∧ φ p ∈ u := fun p => by rw [List.mem_filter, decide_eq_true_eq]
  have sub : ∀ p ∈ (ps'.filter fun p => decide (φ p ∈ u)), p ∈ ps' := fun p hp => ((mem p).mp hp).1
  refine ⟨ps'.filter fun p => decide (φ p ∈ u), ⟨⟨upi, sub, apart_of (less_nodup upi) fun p hp q hq ne => ?_⟩, fun p hp np => ?_⟩, ?_⟩
  · obtain ⟨p1, p2⟩ := (mem p).mp hp
    obtain ⟨q1, q2⟩ := (mem q).mp hq
    rw [← r.sh p p1 q q1]
    exact apart_all g.apart _ p2 _ q2 fun e => ne (r.inj p p1 q q1 e)
  · have nu : φ p ∉ u := fun m => np ((mem p).mpr ⟨hp, m⟩)
    obtain ⟨b, hb, s⟩ := g.max _ (r.into p hp) nu
    obtain ⟨c, hc, rfl⟩ := r.onto b (g.sub b hb)
    exact ⟨c, (mem c).mpr ⟨hc, hb⟩, by rw [← r.sh p hp c hc]; exact s⟩
  · refine less_one (List.Pairwise.filter _ up) g.up fun z => ?_
    rw [r.mem sub]
    constructor
    · rintro ⟨p, hp, rfl⟩
      exact ((mem p).mp hp).2
    · intro h
      obtain ⟨c, hc, rfl⟩ := r.onto z (g.sub z h)
      exact ⟨c, (mem c).mpr ⟨hc, h⟩, rfl⟩
theorem Renum.one (r : Renum ps ps' φ) {s t : List Pr} (us : s.Pairwise (Less dPr)) (ut : t.Pairwise (Less dPr)) (ss : ∀ p ∈ s, p ∈ ps') (st : ∀ p ∈ t, p ∈ ps') (h : imgL ps φ s = imgL ps φ t) : s = t := by
  refine less_one us ut fun z => ?_
  constructor
  · intro m
    have : φ z ∈ imgL ps φ t := by rw [← h]; exact (r.mem ss).mpr ⟨z, m, rfl⟩
    obtain ⟨p, hp, e⟩ := (r.mem st).mp this
    rw [← r.inj p (st p hp) z (ss z m) e]
    exact hp
  · intro m
    have : φ z ∈ imgL ps φ s := by rw [h]; exact (r.mem st).mpr ⟨z, m, rfl⟩
    obtain ⟨p, hp, e⟩ := (r.mem ss).mp this
    rw [← r.inj p (ss p hp) z (st z m) e]
    exact hp
end
/-- a pair with other numbers -/
def numP (ns : List Int) (p : Pr) : Pr := if ns.getD p.1.toNat 0 ≤ ns.getD p.2.toNat 0 then (ns.getD p.1.toNat 0, ns.getD p.2.toNat 0) else (ns.getD p.2.toNat 0, ns.getD p.1.toNat 0)
/-- boards in another order, ns: their old numbers -/
theorem renum_boards {f : Bd → Bd → Bool} (sym : ∀ b c, f b c = f c b) {bs bs' : List Bd} {ks : List Nat} (pm : ks.Perm (List.range bs.length)) (hl : bs'.length = bs.length) (at' : ∀ i k : Nat, ks[i]? = some k → bs'[i]? = bs[k]?) :
    Renum (pairsOf (onB f bs) bs.length) (pairsOf (onB f bs') bs'.length) (numP (ks.map fun k => ((k : Nat) : Int))) := by
  have lk : ks.length = bs.length := by rw [pm.length_eq, List.length_range]
  have nd : ks.Nodup := pm.nodup_iff.mpr List.nodup_range
  have lt : ∀ i k : Nat, ks[i]? = some k → k < bs.length := fun i k h => List.mem_range.mp (pm.mem_iff.mp (List.mem_of_getElem? h))
  have gd : ∀ i k : Nat, ks[i]? = some k → (ks.map fun k => ((k : Nat) : Int)).getD i 0 = (k : Int) := fun i k h => by
    rw [List.getD_eq_getElem?_getD, List.getElem?_map, h]
    rfl
  have has : ∀ i, i < bs.length → ∃ k, ks[i]? = some k := fun i h => ⟨ks[i]'(by omega), List.getElem?_eq_getElem (by omega)⟩
  have one : ∀ i j k : Nat, ks[i]? = some k → ks[j]? = some k → i = j := fun i j k hi hj => by
    obtain ⟨l1, e1⟩ := List.getElem?_eq_some_iff.mp hi
    obtain ⟨l2, e2⟩ := List.getElem?_eq_some_iff.mp hj
    have pw := List.pairwise_iff_getElem.mp (show ks.Pairwise (· ≠ ·) from nd)
    rcases Nat.lt_trichotomy i j with c | c | c
    · exact absurd (e1.trans e2.symm) (pw i j l1 l2 c)
    · exact c
    · exact absurd (e2.trans e1.symm) (pw j i l2 l1 c)
  have num : ∀ i j k m : Nat, ks[i]? = some k → ks[j]? = some m → numP (ks.map fun k => ((k : Nat) : Int)) ((i : Int), (j : Int)) = if k ≤ m then ((k : Int), (m : Int)) else ((m : Int), (k : Int)) := fun i j k m hi hj => by
    unfold numP
    rw [Int.toNat_natCast, Int.toNat_natCast, gd i k hi, gd j m hj]
    by_cases c : k ≤ m
    · rw [if_pos c, if_pos (by omega)]
    · rw [if_neg c, if_neg (by omega)]
  have onb : ∀ i j k m : Nat, ks[i]? = some k → ks[j]? = some m → onB f bs' i j = onB f bs k m := fun i j k m hi hj => by
    unfold onB
    rw [at' i k hi, at' j m hj]
  have sw : ∀ k m : Nat, onB f bs k m = onB f bs m k := fun k m => by
    unfold onB
    cases bs[k]? <;> cases bs[m]? <;> try rfl
    exact sym _ _
  have dec : ∀ p ∈ pairsOf (onB f bs') bs'.length, ∃ i j k m : Nat, p = ((i : Int), (j : Int)) ∧ i < j ∧ ks[i]? = some k ∧ ks[j]? = some m ∧ k ≠ m ∧ onB f bs k m = true := fun p hp => by
    obtain ⟨i, j, rfl, h1, h2, _, h4⟩ := mem_pairsUp.mp hp
    obtain ⟨k, hk⟩ := has i (by omega)
    obtain ⟨m, hm⟩ := has j (by omega)
    refine ⟨i, j, k, m, rfl, h1, hk, hm, fun e => ?_, by rw [← onb i j k m hk hm]; exact h4⟩
    have := one i j k hk (e ▸ hm)
    omega
  refine ⟨fun p hp => ?_, fun p hp q hq e => ?_, fun q hq => ?_, fun p hp q hq => ?_⟩
  · obtain ⟨i, j, k, m, rfl, h1, hk, hm, ne, ho⟩ := dec p hp
    rw [num i j k m hk hm]
    have lk' := lt i k hk
    have lm' := lt j m hm
    by_cases c : k ≤ m
    · rw [if_pos c]
      exact mem_pairsUp.mpr ⟨k, m, rfl, by omega, by omega, by omega, ho⟩
    · rw [if_neg c]
      exact mem_pairsUp.mpr ⟨m, k, rfl, by omega, by omega, by omega, by rw [sw]; exact ho⟩
  · obtain ⟨i, j, k, m, rfl, h1, hk, hm, ne, ho⟩ := dec p hp
    obtain ⟨i2, j2, k2, m2, rfl, h12, hk2, hm2, ne2, ho2⟩ := dec q hq
    rw [num i j k m hk hm, num i2 j2 k2 m2 hk2 hm2] at e
    by_cases c : k ≤ m <;> by_cases c2 : k2 ≤ m2
    · rw [if_pos c, if_pos c2] at e
      injection e with e1 e2
      have ek : k = k2 := by omega
      have em : m = m2 := by omega
      subst ek em
      rw [one i i2 k hk hk2, one j j2 m hm hm2]
    · rw [if_pos c, if_neg c2] at e
      injection e with e1 e2
      have ek : k = m2 := by omega
      have em : m = k2 := by omega
      subst ek em
      have a := one i j2 k hk hm2
      have b := one j i2 m hm hk2
      omega
    · rw [if_neg c, if_pos c2] at e
      injection e with e1 e2
      have ek : m = k2 := by omega
      have em : k = m2 := by omega
      subst ek em
      have a := one j i2 m hm hk2
      have b := one i j2 k hk hm2
      omega
    · rw [if_neg c, if_neg c2] at e
      injection e with e1 e2
      have ek : m = m2 := by omega
      have em : k = k2 := by omega
      subst ek em
      rw [one i i2 k hk hk2, one j j2 m hm hm2]
  · obtain ⟨k, m, rfl, h1, h2, _, h4⟩ := mem_pairsUp.mp hq
    obtain ⟨i, hi⟩ := List.mem_iff_getElem?.mp (pm.mem_iff.mpr (List.mem_range.mpr (show k < bs.length by omega)))
    obtain ⟨j, hj⟩ := List.mem_iff_getElem?.mp (pm.mem_iff.mpr (List.mem_range.mpr (show m < bs.length by omega)))
    have li := (List.getElem?_eq_some_iff.mp hi).1
    have lj := (List.getElem?_eq_some_iff.mp hj).1
    rcases Nat.lt_trichotomy i j with c | c | c
    · refine ⟨((i : Int), (j : Int)), mem_pairsUp.mpr ⟨i, j, rfl, c, by omega, by omega, by rw [onb i j k m hi hj]; exact h4⟩, ?_⟩
      rw [num i j k m hi hj, if_pos (by omega)]
    · subst c
      rw [hi] at hj
      injection hj with e
      omega
    · refine ⟨((j : Int), (i : Int)), mem_pairsUp.mpr ⟨j, i, rfl, c, by omega, by omega, by rw [onb j i m k hj hi, sw]; exact h4⟩, ?_⟩
      rw [num j i m k hj hi, if_neg (by omega)]
  · obtain ⟨i, j, k, m, rfl, h1, hk, hm, ne, ho⟩ := dec p hp
    obtain ⟨i2, j2, k2, m2, rfl, h12, hk2, hm2, ne2, ho2⟩ := dec q hq
    have ek : ∀ a b x y : Nat, ks[a]? = some x → ks[b]? = some y → (decide (((x : Nat) : Int) = (y : Int)) = decide (((a : Nat) : Int) = (b : Int))) := fun a b x y ha hb => by
      refine decide_eq_decide.mpr ⟨fun e => ?_, fun e => ?_⟩
      · have e : x = y := by omega
        rw [one a b x ha (e ▸ hb)]
      · have e : a = b := by omega
        subst e
        rw [ha] at hb
        injection hb with e
        rw [e]
    have a1 := ek i i2 k k2 hk hk2
    have a2 := ek i j2 k m2 hk hm2
    have a3 := ek j i2 m k2 hm hk2
    have a4 := ek j j2 m m2 hm hm2
    rw [num i j k m hk hm, num i2 j2 k2 m2 hk2 hm2]
    unfold shareP
    by_cases c : k ≤ m <;> by_cases c2 : k2 ≤ m2
    · rw [if_pos c, if_pos c2, a1, a2, a3, a4]
    · rw [if_pos c, if_neg c2]
      show ((decide ((k : Int) = (m2 : Int)) || decide ((k : Int) = (k2 : Int))) || (decide ((m : Int) = (m2 : Int)) || decide ((m : Int) = (k2 : Int)))) = ((decide ((i : Int) = (i2 : Int)) || decide ((i : Int) = (j2 : Int))) || (decide ((j : Int) = (i2 : Int)) || decide ((j : Int) = (j2 : Int))))
      rw [a1, a2, a3, a4, Bool.or_comm (decide ((i : Int) = (j2 : Int))), Bool.or_comm (decide ((j : Int) = (j2 : Int)))]
    · rw [if_neg c, if_pos c2]
      show ((decide ((m : Int) = (k2 : Int)) || decide ((m : Int) = (m2 : Int))) || (decide ((k : Int) = (k2 : Int)) || decide ((k : Int) = (m2 : Int)))) = ((decide ((i : Int) = (i2 : Int)) || decide ((i : Int) = (j2 : Int))) || (decide ((j : Int) = (i2 : Int)) || decide ((j : Int) = (j2 : Int))))
      rw [a1, a2, a3, a4, Bool.or_comm]
    · rw [if_neg c, if_neg c2]
      show ((decide ((m : Int) = (m2 : Int)) || decide ((m : Int) = (k2 : Int))) || (decide ((k : Int) = (m2 : Int)) || decide ((k : Int) = (k2 : Int)))) = ((decide ((i : Int) = (i2 : Int)) || decide ((i : Int) = (j2 : Int))) || (decide ((j : Int) = (i2 : Int)) || decide ((j : Int) = (j2 : Int))))
      rw [a1, a2, a3, a4, Bool.or_comm (decide ((j : Int) = (j2 : Int))), Bool.or_comm (decide ((i : Int) = (j2 : Int))), Bool.or_comm]
end Nm
namespace Nm
open PySem PySem.Spec PyProof.Rows L2 NmD
/-! ### [e for x in xs for y in ys] that only reads -/
theorem lc2_inner {J : It} {n : Nat} {G : Hp → Prop} {Y : Nat → Hp → V → Hp → Prop} (wk : Walk J n G Y) {γ : Type} {R : Hp → V → γ → Prop} (st : Stays R) (gs : List γ) (hn : n = gs.length) {H0 H4 : Hp} {D : Addr} (done : List γ) (hz : done.length + gs.length ≤ 100000) (hD : H0 D = none)
    (g4 : Same H0 H4) (l4 : LstOf R H4 D done) (hG : ∀ H, Same H0 H → G H) {Nx : Hp → Prop} (hN : ∀ H, Same H0 H → LstOf R H D (done ++ gs) → Nx H) {g : TG} {tt : TT} {te : TE} {vs : List Nat} {σ : L2.St}
    (hs : ∀ (i : Nat) (x : V) (c : γ) (H H' : Hp) (N1 : Hp → Prop), gs[i]? = some c → Y i H x H' → Same H0 H → (∀ y H2, Same H H2 → R H2 y c → ∃ acc, H2 D = some (.lst acc) ∧ acc.length < sizeLine ∧ N1 (upd H2 D (.lst (acc ++ [y])))) →
      g x (wipe σ vs) H' fun σ3 H5 => wipe σ3 vs = wipe σ vs ∧ tt σ3 H5 fun b H6 => if b = true then te σ3 H6 fun y H7 => ∃ acc, H7 D = some (.lst acc) ∧ acc.length < sizeLine ∧ N1 (upd H7 D (.lst (acc ++ [y]))) else N1 H6) :
    ∃ W1 : Nat → Nat → Hp → Prop, (∃ m, W1 0 m H4) ∧ ∀ j k H, W1 j k H → (J.stop j H ∧ Nx H) ∨ (J.go j H ∧ ∃ N1 : Hp → Prop, (∀ H', N1 H' → ∃ k', k' < k ∧ W1 (j + 1) k' H') ∧ ∀ x H', J.yld j H x H' → g x (wipe σ vs) H' fun σ3 H5 => wipe σ3 vs = wipe σ vs ∧ tt σ3 H5 fun b H6 =>
      if b = true then te σ3 H6 fun y H7 => ∃ acc, H7 D = some (.lst acc) ∧ acc.length < sizeLine ∧ N1 (upd H7 D (.lst (acc ++ [y]))) else N1 H6) := by
  subst hn
  have big : (100000 : Nat) < sizeLine := by decide
  refine ⟨fun j k H => k = gs.length - j ∧ j ≤ gs.length ∧ Same H0 H ∧ LstOf R H D (done ++ gs.take j), ⟨gs.length, by simp, Nat.zero_le _, g4, by rw [List.take_zero, List.append_nil]; exact l4⟩, ?_⟩
  rintro j k H ⟨rfl, hj, sm, acc, ha, pa⟩
  by_cases lt : j < gs.length
  · have hc : gs[j]? = some gs[j] := List.getElem?_eq_getElem lt
    refine .inr ⟨wk.goes j H lt (hG H sm), fun H2 => Same H0 H2 ∧ LstOf R H2 D (done ++ gs.take (j + 1)), fun H' p => ⟨gs.length - (j + 1), by omega, rfl, lt, p⟩, fun x H' y => hs j x _ H H' _ hc (wk.yields j H x H' lt (hG H sm) y) sm fun y H2 g2 r => ⟨acc, g2 _ _ ha, ?_, ?_⟩⟩
    · rw [paired_len pa, List.length_append, List.length_take]
      omega
    · have t := tups_lst (vs := acc ++ [y]) (g2 _ _ ha)
      refine ⟨same_mut (sm.trans g2) hD, acc ++ [y], upd_same, ?_⟩
      rw [take_one hc, ← List.append_assoc]
      exact paired_snoc (paired_mono (fun _ _ z => st _ _ _ _ t (st _ _ _ _ (tups_same g2) z)) pa) (st _ _ _ _ t r)
  · have e : j = gs.length := by omega
    subst e
    refine .inl ⟨wk.stops H (hG H sm), hN H sm ⟨acc, ha, ?_⟩⟩
    rw [List.take_length] at pa
    exact pa
theorem lc2_outer {J : It} {n : Nat} {G : Hp → Prop} {Y : Nat → Hp → V → Hp → Prop} (wk : Walk J n G Y) {β γ : Type} {R : Hp → V → γ → Prop} (st : Stays R) (bs : List β) (f : β → List γ) {H0 : Hp} (hn : n = bs.length) (hz : (bs.flatMap f).length ≤ 100000) (hG : ∀ H, Same H0 H → G H) {D : Addr} (hD : H0 D = none)
    {g : TG} {tt : TT} {wi1 : TI} {g1 : TG} {tt1 : TT} {te : TE} {vs vs1 : List Nat} {σ : L2.St} {Qd : Hp → Prop}
    (hs : ∀ (i : Nat) (x : V) (b : β) (H H' : Hp) (Nx : Hp → Prop) (done : List γ), bs[i]? = some b → Y i H x H' → Same H0 H → LstOf R H D done → done.length + (f b).length ≤ 100000 → (∀ H2, Same H0 H2 → LstOf R H2 D (done ++ f b) → Nx H2) →
      g x (wipe σ vs) H' fun σ2 H2 => wipe σ2 vs = wipe σ vs ∧ tt σ2 H2 fun b H3 =>
        if b = true then wi1 σ2 H3 fun J1 H4 => ∃ W1 : Nat → Nat → Hp → Prop, (∃ m, W1 0 m H4) ∧ ∀ j k H, W1 j k H →
          (J1.stop j H ∧ Nx H) ∨ (J1.go j H ∧ ∃ Nx1 : Hp → Prop, (∀ H', Nx1 H' → ∃ k', k' < k ∧ W1 (j + 1) k' H') ∧ ∀ x H', J1.yld j H x H' → g1 x (wipe σ2 vs1) H' fun σ3 H5 => wipe σ3 vs1 = wipe σ2 vs1 ∧ tt1 σ3 H5 fun b H6 =>
            if b = true then te σ3 H6 fun y H7 => ∃ acc, H7 D = some (.lst acc) ∧ acc.length < sizeLine ∧ Nx1 (upd H7 D (.lst (acc ++ [y]))) else Nx1 H6)
        else Nx H3)
    (hd : ∀ H, Same H0 H → LstOf R H D (bs.flatMap f) → Qd H) :
    ∃ W : Nat → Nat → Hp → Prop, (∃ m, W 0 m (upd H0 D (.lst []))) ∧ ∀ i m H, W i m H → (J.stop i H ∧ Qd H) ∨ (J.go i H ∧ ∃ Nx : Hp → Prop, (∀ H', Nx H' → ∃ m', m' < m ∧ W (i + 1) m' H') ∧
      ∀ x H', J.yld i H x H' → g x (wipe σ vs) H' fun σ2 H2 => wipe σ2 vs = wipe σ vs ∧ tt σ2 H2 fun b H3 =>
        if b = true then wi1 σ2 H3 fun J1 H4 => ∃ W1 : Nat → Nat → Hp → Prop, (∃ m, W1 0 m H4) ∧ ∀ j k H, W1 j k H →
          (J1.stop j H ∧ Nx H) ∨ (J1.go j H ∧ ∃ Nx1 : Hp → Prop, (∀ H', Nx1 H' → ∃ k', k' < k ∧ W1 (j + 1) k' H') ∧ ∀ x H', J1.yld j H x H' → g1 x (wipe σ2 vs1) H' fun σ3 H5 => wipe σ3 vs1 = wipe σ2 vs1 ∧ tt1 σ3 H5 fun b H6 =>
            if b = true then te σ3 H6 fun y H7 => ∃ acc, H7 D = some (.lst acc) ∧ acc.length < sizeLine ∧ Nx1 (upd H7 D (.lst (acc ++ [y]))) else Nx1 H6)
        else Nx H3) := by
  subst hn
  refine ⟨fun i m H => m = bs.length - i ∧ i ≤ bs.length ∧ Same H0 H ∧ LstOf R H D ((bs.take i).flatMap f), ⟨bs.length, by simp, Nat.zero_le _, same_new hD, [], upd_same, .nil⟩, ?_⟩
  rintro i m H ⟨rfl, hi, sm, l⟩
  by_cases lt : i < bs.length
  · have hb : bs[i]? = some bs[i] := List.getElem?_eq_getElem lt
    have e : (bs.take (i + 1)).flatMap f = (bs.take i).flatMap f ++ f bs[i] := by
      rw [take_one hb, List.flatMap_append]
      simp
    have le : ((bs.take i).flatMap f).length + (f bs[i]).length ≤ 100000 := by
      have : (bs.take (i + 1)).flatMap f ++ (bs.drop (i + 1)).flatMap f = bs.flatMap f := by
        rw [← List.flatMap_append, List.take_append_drop]
      have l2 := congrArg List.length this
      rw [List.length_append, e, List.length_append] at l2
      omega
    refine .inr ⟨wk.goes i H lt (hG H sm), fun H2 => Same H0 H2 ∧ LstOf R H2 D ((bs.take (i + 1)).flatMap f), fun H' p => ⟨bs.length - (i + 1), by omega, rfl, lt, p⟩, fun x H' y => hs i x _ H H' _ _ hb (wk.yields i H x H' lt (hG H sm) y) sm l le fun H2 s2 l2 => ⟨s2, ?_⟩⟩
    rw [e]
    exact l2
  · have e : i = bs.length := by omega
    subst e
    rw [List.take_length] at l
    exact .inl ⟨wk.stops H (hG H sm), hd H sm l⟩
/-! ### len(set(xs)), xs a list of numbers -/
def fmet (ns : List Int) (k : Nat) : List Int := PyProof.Rows.firstMet (fun i => ns.getD i 0) k
theorem firstMet_mem (ns : List Int) : ∀ k, k ≤ ns.length → (fmet ns k).Nodup ∧ ∀ x, x ∈ fmet ns k ↔ x ∈ ns.take k
  | 0, _ => ⟨List.nodup_nil, fun x => by simp [fmet, PyProof.Rows.firstMet]⟩
  | k + 1, h => by
    obtain ⟨nd, mem⟩ := firstMet_mem ns k (by omega)
    show (fmet ns (k + 1)).Nodup ∧ _
    unfold fmet
    rw [PyProof.Rows.firstMet_succ]
    show (if (fmet ns k).any (· == ns.getD k 0) then fmet ns k else fmet ns k ++ [ns.getD k 0]).Nodup ∧ ∀ x, x ∈ (if (fmet ns k).any (· == ns.getD k 0) then fmet ns k else fmet ns k ++ [ns.getD k 0]) ↔ x ∈ ns.take (k + 1)
    have e : ns[k]? = some (ns.getD k 0) := by
      rw [List.getElem?_eq_getElem (by omega), List.getD_eq_getElem?_getD, List.getElem?_eq_getElem (by omega)]
      rfl
    rw [take_one e]
    by_cases c : (fmet ns k).any (· == ns.getD k 0) = true
    · rw [if_pos c]
      refine ⟨nd, fun x => ?_⟩
      rw [mem x, List.mem_append, List.mem_singleton]
      constructor
      · exact .inl
      · rintro (z | rfl)
        · exact z
        · obtain ⟨y, hy, ey⟩ := List.any_eq_true.mp c
          rw [← mem]
          exact (eq_of_beq ey) ▸ hy
    · rw [if_neg c]
      refine ⟨List.nodup_append.mpr ⟨nd, List.pairwise_singleton _ _, fun a ha b hb e2 => c (List.any_eq_true.mpr ⟨a, ha, ?_⟩)⟩, fun x => ?_⟩
      · rw [e2, List.mem_singleton.mp hb]
        exact beq_self_eq_true _
      · rw [List.mem_append, List.mem_append, mem x]
/-- as many as there are unlike ones -/
theorem nodup_of_len {α : Type} [DecidableEq α] : ∀ {xs ys : List α}, ys.Nodup → (∀ x, x ∈ ys ↔ x ∈ xs) → (ys.length = xs.length ↔ xs.Nodup) := by
  intro xs ys nd mem
  constructor
  · intro h
    -- the list without repeats
    have : ∀ (n : Nat) (xs ys : List α), xs.length = n → ys.Nodup → (∀ x ∈ ys, x ∈ xs) → xs.length ≤ ys.length → xs.Nodup := by
      intro n
      induction n with
      | zero =>
        intro xs ys hn _ _ _
        rw [List.eq_nil_of_length_eq_zero hn]
        exact List.nodup_nil
      | succ n ih =>
        intro xs ys hn nd sub le
        cases xs with
        | nil => cases hn
        | cons x xs =>
          have lx : xs.length = n := by simpa using hn
          have l1 := List.length_erase_of_mem (a := x) (l := ys)
          have ne : (ys.erase x).Nodup := nd.erase x
          have sub2 : ∀ z ∈ ys.erase x, z ∈ xs := fun z hz => by
            have hz2 := (nd.mem_erase_iff).mp hz
            rcases List.mem_cons.mp (sub z hz2.2) with e | m
            · exact absurd e hz2.1
            · exact m
          have l2 : ys.length - 1 ≤ (ys.erase x).length := by
            by_cases m : x ∈ ys
            · rw [l1 m]
              exact Nat.le_refl _
            · rw [List.erase_of_not_mem m]
              omega
          have nx := ih xs (ys.erase x) lx ne sub2 (by rw [List.length_cons] at le; omega)
          refine List.nodup_cons.mpr ⟨fun m => ?_, nx⟩
          have := List.Nodup.length_le_of_subset nd (l₂ := xs) fun z hz => by
            rcases List.mem_cons.mp (sub z hz) with e | m2
            · rw [e]; exact m
            · exact m2
          rw [List.length_cons] at le
          omega
    exact this _ xs ys rfl nd (fun x hx => (mem x).mp hx) (Nat.le_of_eq h.symm)
  · intro h
    exact Nat.le_antisymm (List.Nodup.length_le_of_subset nd fun x hx => (mem x).mp hx) (List.Nodup.length_le_of_subset h fun x hx => (mem x).mpr hx)
def tLenSet (K : PySem.W.Frag) (ta : TE) : TE := fun σ H Q => ta σ H fun x H1 => ∃ (l : Addr) (ns : List Int), x = .ref l ∧ SqL K H1 l (ns.map V.int) ∧ ns.length ≤ 4000 ∧ ∀ ks : List Int, ks.Nodup → (∀ x, x ∈ ks ↔ x ∈ ns) → Q (.int (ks.length : Nat)) H1
theorem pe_lenSet {X : Cx} {a : Expr} {ta : TE} {p p2 q pos : Pos} (hg : Gl X "len") (hm : X.mg "len" = none) (hg2 : Gl X "set") (hm2 : X.mg "set" = none) (ha : PE X a ta) (hc : X.calm = true := by rfl)
    (na : starEach [a] X.env = (false, eval a X.env) :: starEach [] X.env := by rfl) : PE X (.Call (.Name "len" p) [.Call (.Name "set" p2) [a] [] q] [] pos) (tLenSet X.K ta) := by
  refine ⟨fun pins s σ H Q I h => ?_⟩
  refine Call_ (ld_blt I hg hm boot_len ?_)
  refine PyProof.Rows.callWith_builtin1 (PyProof.Rows.args_cons ?_ rfl) rfl rfl
  refine Call_ (ld_blt I hg2 hm2 boot_set ?_)
  refine PyProof.Rows.callWith_type1 (PyProof.Rows.args_cons (thn (ha.run pins s σ H _ I h) fun v s1 ⟨x, H1, I1, r1, q1⟩ => PyProof.Rows.args_nil ?_) na) na rfl
  obtain ⟨l, ns, rfl, hq, hl, q1⟩ := q1
  cases r1
  obtain ⟨its, r, pl, hz⟩ := I1.list hq
  have hlen : its.toArray.size = ns.length := by rw [List.size_toArray, ← r.length, List.length_map]
  refine call_set_list (I1.ok.hd hc) pl.isList (by simpa using RZ.intsAre_vals r) (by rw [hlen]; unfold scanBound; omega) fun h' tk hS hk => ?_
  refine PyProof.Rows.args_nil ?_
  rw [hlen, show PyProof.Rows.firstMet (fun i => ns.getD i 0) ns.length = fmet ns ns.length from rfl] at hS
  obtain ⟨o, es, ep, t, ho, hex, hd, _, _, _, hf, hn⟩ := hS
  obtain ⟨nd, mem⟩ := firstMet_mem ns ns.length (Nat.le_refl _)
  rw [List.take_length] at mem
  have lf : (fmet ns ns.length).length ≤ ns.length := List.Nodup.length_le_of_subset nd fun x hx => (mem x).mp hx
  have I2 : Inv X pins σ H1 { s1 with heap := h', toks := tk } := I1.kept fun b o e => hk b o (Heap.lt_size e) e
  exact call_len_set ho hex hd hf (by rw [hn] <;> omega) ⟨.int ((fmet ns ns.length).length : Nat), H1, I2.tok _, ⟨_, by rw [hn]⟩, q1 _ nd mem⟩
end Nm
namespace Nm
open PySem PySem.Spec PyProof.Rows L2 NmD
theorem put_newK {κ : Type} [DecidableEq κ] {kvs : List (κ × V)} {k : κ} {y : V} (h : k ∉ kvs.map (·.1)) : putK kvs k y = kvs ++ [(k, y)] := by
  unfold putK
  rw [if_neg]
  intro z
  obtain ⟨e, he, c⟩ := List.any_eq_true.mp z
  exact h (List.mem_map.mpr ⟨e, he, of_decide_eq_true c⟩)
/-- {key: True for ..}: unlike keys -/
theorem dcT_keys {J : It} {n : Nat} {G : Hp → Prop} {Y : Nat → Hp → V → Hp → Prop} (wk : Walk J n G Y) {β : Type} (ks : List β) (key : β → List Key) (inj : ∀ a b, key a = key b → a = b) (nd : ks.Nodup) {H0 : Hp} (hn : n = ks.length) (hz : ks.length ≤ 100000) (hG : ∀ H, Same H0 H → G H) {D : Addr} (hD : H0 D = none)
    {g : TG} {tk tv : TE} {vs : List Nat} {σ : L2.St} {Qd : Hp → Prop}
    (hs : ∀ (i : Nat) (x : V) (b : β) (H H' : Hp) (Nx : Hp → Prop), ks[i]? = some b → Y i H x H' → Same H0 H → (∀ H5, Same H H5 → ∃ ents : List (List Key × V), H5 D = some (.dT ents) ∧ ents.length < sizeLine ∧ Nx (upd H5 D (.dT (putK ents (key b) (.bl true))))) →
      g x (wipe σ vs) H' fun σ2 H2 => wipe σ2 vs = wipe σ vs ∧ tk σ2 H2 fun y H4 => tv σ2 H4 fun z H5 => ∃ (ents : List (List Key × V)) (k : List Key) (b : Addr), y = .ref b ∧ H5 D = some (.dT ents) ∧ H5 b = some (.tup (k.map kV)) ∧ ents.length < sizeLine ∧ Nx (upd H5 D (.dT (putK ents k z))))
    (hd : ∀ H (ents : List (List Key × V)), Same H0 H → H D = some (.dT ents) → ents.map (·.1) = ks.map key → Qd H) :
    ∃ W : Nat → Nat → Hp → Prop, (∃ m, W 0 m (upd H0 D (.dT []))) ∧ ∀ i m H, W i m H → (J.stop i H ∧ Qd H) ∨ (J.go i H ∧ ∃ Nx : Hp → Prop, (∀ H', Nx H' → ∃ m', m' < m ∧ W (i + 1) m' H') ∧
      ∀ x H', J.yld i H x H' → g x (wipe σ vs) H' fun σ2 H2 => wipe σ2 vs = wipe σ vs ∧ tk σ2 H2 fun y H4 => tv σ2 H4 fun z H5 => ∃ (ents : List (List Key × V)) (k : List Key) (b : Addr), y = .ref b ∧ H5 D = some (.dT ents) ∧ H5 b = some (.tup (k.map kV)) ∧ ents.length < sizeLine ∧ Nx (upd H5 D (.dT (putK ents k z)))) := by
  subst hn
  have big : (100000 : Nat) < sizeLine := by decide
  refine ⟨fun i m H => m = ks.length - i ∧ i ≤ ks.length ∧ Same H0 H ∧ ∃ ents : List (List Key × V), H D = some (.dT ents) ∧ ents.map (·.1) = (ks.take i).map key, ⟨ks.length, by simp, Nat.zero_le _, same_new hD, [], upd_same, rfl⟩, ?_⟩
  rintro i m H ⟨rfl, hi, sm, ents, he, hk⟩
  by_cases lt : i < ks.length
  · have hb : ks[i]? = some ks[i] := List.getElem?_eq_getElem lt
    have le : ents.length ≤ ks.length := by
      have := congrArg List.length hk
      rw [List.length_map, List.length_map, List.length_take] at this
      omega
    have fresh : key ks[i] ∉ ents.map (·.1) := fun m => by
      rw [hk] at m
      obtain ⟨c, hc, e⟩ := List.mem_map.mp m
      have ec := inj _ _ e
      have nd2 := nd
      rw [← List.take_append_drop i ks] at nd2
      have hd : ks[i] ∈ ks.drop i := by
        rw [List.drop_eq_getElem_cons lt]
        exact List.mem_cons_self
      exact (List.nodup_append.mp nd2).2.2 c hc _ hd ec
    refine .inr ⟨wk.goes i H lt (hG H sm), fun H2 => Same H0 H2 ∧ ∃ ents : List (List Key × V), H2 D = some (.dT ents) ∧ ents.map (·.1) = (ks.take (i + 1)).map key, fun H' p => ⟨ks.length - (i + 1), by omega, rfl, lt, p⟩, fun x H' y => hs i x _ H H' (fun H2 => Same H0 H2 ∧ ∃ ents : List (List Key × V), H2 D = some (.dT ents) ∧ ents.map (·.1) = (ks.take (i + 1)).map key) hb (wk.yields i H x H' lt (hG H sm) y) sm fun H5 g5 => ⟨ents, g5 _ _ he, by omega, same_mut (sm.trans g5) hD, _, upd_same, ?_⟩⟩
    rw [put_newK fresh, List.map_append, hk, take_one hb, List.map_append]
    rfl
  · have e : i = ks.length := by omega
    subst e
    rw [List.take_length] at hk
    exact .inl ⟨wk.stops H (hG H sm), hd H ents sm he hk⟩
end Nm
namespace Nm
open PySem PySem.Spec PyProof.Rows L2 NmD
/-- sorted(xs), a list or a tuple of numbers -/
def rSortIT (K : PySem.W.Frag) : List V → Hp → VK → Prop := fun vs H Q => ∃ (a : Addr) (ns : List Int), vs = [V.ref a] ∧ (SqL K H a (ns.map V.int) ∨ SqT K H a (ns.map V.int)) ∧
  ∀ (ns' : List Int) (p : Addr), ns'.Perm ns → ns'.Pairwise (· ≤ ·) → H p = none → Q (.ref p) (upd H p (.lst (ns'.map V.int)))
variable {X : Cx}
theorem cr_sortIT : CallR X (.builtin "sorted") (rSortIT X.K) := by
  intro pins s σ H vs us Q I r h
  obtain ⟨a, ns, rfl, hs, q⟩ := h
  obtain ⟨u, rfl, ru⟩ := vals1 r
  obtain rfl : u = Value.ref a := ru
  have both : ∃ its, Vals (ns.map V.int) its ∧ (ns.map V.int).length ≤ sizeLine ∧ ∃ T o n, (T = "list" ∨ T = "tuple") ∧ s.heap.get? a = some o ∧ o.cls = .type T ∧ o.data = .seq its.toArray n := by
    rcases hs with hs | hs
    · obtain ⟨its, rv, hl, hz⟩ := I.list hs
      obtain ⟨o, ho, hc, n, hd⟩ := hl.isList
      exact ⟨its, rv, hz, "list", o, n, .inl rfl, ho, hc, hd⟩
    · obtain ⟨its, rv, hl, hz⟩ := I.tuple hs
      obtain ⟨o, ho, hc, n, hd⟩ := hl
      exact ⟨its, rv, hz, "tuple", o, n, .inr rfl, ho, hc, hd⟩
  obtain ⟨its, rv, hz, T, o, n, hT, ho, hc, hd⟩ := both
  have hi := rv.ints
  have lz : its.length ≤ sizeLine := by rw [← rv.length]; exact hz
  refine Calls.call_function_entry kind_sorted plain_sorted entry_sorted (args_sorted1 _) ?_
  unfold Builtin.«sorted»
  refine wpAny_bind (m := checkCount "sorted" 1 1 _) (wpAny_pure ?_)
  refine wpAny_bind (wpAny_collect_seq a hT ho hc hd (fun h' kp => ?_) (by simp only [List.size_toArray]; exact lz))
  have I1 : Inv X pins σ H { s with heap := h' } := I.kept (t' := s.toks) kp
  refine wpAny_bind (wpAny_newList ?_ lz)
  have hoL : (h'.push (seqObj "list" its.toArray 0)).get? h'.objs.size = some (seqObj "list" its.toArray 0) := Heap.get?_push_size _ rfl
  show wpAny _ _ _ _ _ { s with heap := h'.push (seqObj "list" its.toArray 0) }
  refine wpAny_bind (wpAny_holding (wpAny_call_entry slot_list_sort ⟨_, hoL, rfl⟩ entry_list_sort
    (SrtO.list_sort_ord (s := { s with heap := h'.push (seqObj "list" its.toArray 0) }) SrtO.swo_int hoL lz (fun two => SrtO.ints_sortable hi two)
      fun out h1 h2 => ⟨_, rfl, ?_⟩) (args_list_sort _)))
  obtain ⟨m, hm⟩ := sortedHeap_at (vs := its) (out := out.toArray) hoL
  obtain ⟨k1, k2, k3⟩ := SrtO.ints_out hi h1 h2
  have fit : ((out.map SrtO.iv).map V.int).length ≤ sizeLine := by
    rw [List.length_map, k2.length_eq]
    rw [List.length_map] at hz
    exact hz
  refine wpAny_pure ⟨_, rfl, .ref h'.objs.size, upd H h'.objs.size (.lst ((out.map SrtO.iv).map V.int)), I1.laid (t' := s.toks) (fun b u e => ?_) (Nat.le_refl _) ⟨fit, out, m, vals_of_ints k1, hm⟩, rfl, q _ _ k2 k3 (I1.hok.fresh (Nat.le_refl _))⟩
  have lt := Heap.lt_size e
  rw [sortedHeap_old (Nat.ne_of_lt lt) (by rw [size_push']; exact Nat.lt_succ_of_lt lt)]
  exact Heap.get?_push_of_some _ e
end Nm
namespace Nm
open PySem PySem.Spec PyProof.Rows L2
/-! ### cases, a bit for each -/
abbrev bitsI (f : Nat → Bool) (W : Nat) : Int := ((bitsOf f W : Nat) : Int)
theorem bitsOf_or (f g : Nat → Bool) (W : Nat) : bitsOf f W ||| bitsOf g W = bitsOf (fun c => f c || g c) W := Nat.eq_of_testBit_eq fun i => by
  rw [Nat.testBit_or, testBit_bitsOf, testBit_bitsOf, testBit_bitsOf]
  cases decide (i < W) <;> simp
theorem bitsOf_and (f g : Nat → Bool) (W : Nat) : bitsOf f W &&& bitsOf g W = bitsOf (fun c => f c && g c) W := Nat.eq_of_testBit_eq fun i => by
  rw [Nat.testBit_and, testBit_bitsOf, testBit_bitsOf, testBit_bitsOf]
  cases decide (i < W) <;> simp
theorem bitsI_or (f g : Nat → Bool) (W : Nat) : Builtin.bitOr (bitsI f W) (bitsI g W) = bitsI (fun c => f c || g c) W := by rw [or_nat, bitsOf_or]
theorem bitsI_and (f g : Nat → Bool) (W : Nat) : Builtin.bitAnd (bitsI f W) (bitsI g W) = bitsI (fun c => f c && g c) W := by rw [and_nat, bitsOf_and]
/-- all cases -/
abbrev wholeI (W : Nat) : Int := bitsI (fun _ => true) W
theorem bitsI_xor (f : Nat → Bool) (W : Nat) : Builtin.bitXor (wholeI W) (bitsI f W) = bitsI (fun c => !f c) W := by
  unfold Builtin.bitXor
  rw [bitsI_or, bitsI_and]
  have e1 : bitsOf (fun c => true || f c) W = bitsOf (fun _ => true) W := bits_congr fun i _ => Bool.true_or _
  have e2 : bitsOf (fun c => true && f c) W = bitsOf f W := bits_congr fun i _ => Bool.true_and _
  have s := bits_split (fun _ => true) f W
  have e3 : bitsOf (fun c => true && !f c) W = bitsOf (fun c => !f c) W := bits_congr fun i _ => Bool.true_and _
  rw [e2, e3] at s
  show ((bitsOf (fun c => true || f c) W : Nat) : Int) - ((bitsOf (fun c => true && f c) W : Nat) : Int) = ((bitsOf (fun c => !f c) W : Nat) : Int)
  rw [e1, e2]
  omega
theorem whole_pow : ∀ W, bitsOf (fun _ => true) W + 1 = 2 ^ W
  | 0 => rfl
  | W + 1 => by
    have ih := whole_pow W
    show bitsOf (fun _ => true) W + (if true = true then 2 ^ W else 0) + 1 = 2 ^ (W + 1)
    rw [if_pos rfl, Nat.pow_succ]
    omega
theorem wholeI_pow (W : Nat) : wholeI W = 2 ^ W - 1 := by
  have h := whole_pow W
  have e : ((2 : Int) ^ W) = ((2 ^ W : Nat) : Int) := (Int.natCast_pow 2 W).symm
  rw [e, ← h]
  show ((bitsOf (fun _ => true) W : Nat) : Int) = _
  omega
theorem bitsI_zero {f : Nat → Bool} {W : Nat} (h : ∀ c, c < W → f c = false) : bitsI f W = 0 := by
  have : bitsOf f W = 0 := bits_zero fun i => by
    rw [testBit_bitsOf]
    by_cases c : i < W
    · rw [h i c, Bool.and_false]
    · rw [decide_eq_false c, Bool.false_and]
  show ((bitsOf f W : Nat) : Int) = 0
  rw [this]
  rfl
theorem bitsI_all {f : Nat → Bool} {W : Nat} (h : ∀ c, c < W → f c = true) : bitsI f W = wholeI W := congrArg (fun n : Nat => (n : Int)) (bits_congr h)
theorem bitsI_pos {f : Nat → Bool} {W c : Nat} (hc : c < W) (h : f c = true) : 0 < bitsI f W := by
  have : bitsOf f W ≠ 0 := fun e => by
    have t := testBit_bitsOf f c W
    rw [e, Nat.zero_testBit, decide_eq_true hc, h] at t
    cases t
  show (0 : Int) < ((bitsOf f W : Nat) : Int)
  omega
/-- the cases below 2 ^ g in which bit i is set -/
abbrev onI (i g : Nat) : Int := bitsI (fun c => c.testBit i) (2 ^ g)
theorem on_first (i : Nat) : ((2 : Int) ^ (2 ^ i) - 1) * 2 ^ (2 ^ i) = onI i (i + 1) := by
  have h := whole_pow (2 ^ i)
  have e : ((2 : Int) ^ (2 ^ i)) = ((2 ^ (2 ^ i) : Nat) : Int) := (Int.natCast_pow 2 _).symm
  have e2 : ((2 : Int) ^ (2 ^ i) - 1) = ((bitsOf (fun _ => true) (2 ^ i) : Nat) : Int) := by rw [e]; omega
  rw [e2, e, ← Int.natCast_mul]
  show _ = ((bitsOf (fun c => c.testBit i) (2 ^ (i + 1)) : Nat) : Int)
  congr 1
  refine Nat.eq_of_testBit_eq fun j => ?_
  rw [Nat.mul_comm, Nat.testBit_two_pow_mul, testBit_bitsOf, testBit_bitsOf, Nat.pow_succ]
  by_cases h1 : 2 ^ i ≤ j
  · by_cases h2 : j < 2 ^ i * 2
    · have e3 : j = 2 ^ i + (j - 2 ^ i) := by omega
      rw [decide_eq_true h1, decide_eq_true h2, decide_eq_true (show j - 2 ^ i < 2 ^ i by omega), e3, Nat.testBit_two_pow_add_eq, Nat.testBit_lt_two_pow (by omega)]
      rfl
    · rw [decide_eq_false (show ¬ j - 2 ^ i < 2 ^ i by omega), decide_eq_false h2]
      simp
  · rw [decide_eq_false h1, Nat.testBit_lt_two_pow (show j < 2 ^ i by omega)]
    simp
theorem on_grown {i g : Nat} (h : i < g) : Builtin.bitOr (onI i g) (onI i g * 2 ^ (2 ^ g)) = onI i (g + 1) := by
  have e : ((2 : Int) ^ (2 ^ g)) = ((2 ^ (2 ^ g) : Nat) : Int) := (Int.natCast_pow 2 _).symm
  show Builtin.bitOr _ (((bitsOf (fun c => c.testBit i) (2 ^ g) : Nat) : Int) * _) = _
  rw [e, ← Int.natCast_mul, or_nat]
  show _ = ((bitsOf (fun c => c.testBit i) (2 ^ (g + 1)) : Nat) : Int)
  congr 1
  refine Nat.eq_of_testBit_eq fun j => ?_
  rw [Nat.testBit_or, Nat.mul_comm, Nat.testBit_two_pow_mul, testBit_bitsOf, testBit_bitsOf, testBit_bitsOf, Nat.pow_succ]
  by_cases h1 : 2 ^ g ≤ j
  · rw [decide_eq_true h1, decide_eq_false (show ¬ j < 2 ^ g by omega)]
    by_cases h2 : j < 2 ^ g * 2
    · have e3 : j = 2 ^ g + (j - 2 ^ g) := by omega
      rw [decide_eq_true h2, decide_eq_true (show j - 2 ^ g < 2 ^ g by omega)]
      have := Nat.testBit_two_pow_add_gt h (j - 2 ^ g)
      rw [← e3] at this
      rw [this]
      simp
    · rw [decide_eq_false (show ¬ j - 2 ^ g < 2 ^ g by omega), decide_eq_false h2]
      simp
  · rw [decide_eq_false h1, decide_eq_true (show j < 2 ^ g by omega), decide_eq_true (show j < 2 ^ g * 2 by omega)]
    simp
/-! ### the lowest bit -/
theorem low_bit {x i : Nat} (hi : x.testBit i = true) (lo : ∀ j, j < i → x.testBit j = false) : Builtin.bitAnd (x : Int) (-(x : Int)) = 2 ^ i := by
  have pos : 0 < x := by
    rcases Nat.eq_zero_or_pos x with e | e
    · rw [e, Nat.zero_testBit] at hi
      cases hi
    · exact e
  have e : (-(x : Int)) = Builtin.bitNot ((x - 1 : Nat) : Int) := by
    show _ = -(((x - 1 : Nat) : Int)) - 1
    omega
  rw [e, andnot_nat, less_bits (n := x) (x - 1) Nat.lt_two_pow_self]
  have e2 : ((2 : Int) ^ i) = ((2 ^ i : Nat) : Int) := (Int.natCast_pow 2 i).symm
  rw [e2]
  congr 1
  -- x = 2^i + 2^(i+1) * y
  obtain ⟨y, hy⟩ : ∃ y, x = 2 ^ (i + 1) * y + 2 ^ i := by
    refine ⟨x / 2 ^ (i + 1), ?_⟩
    have m : x % 2 ^ (i + 1) = 2 ^ i := Nat.eq_of_testBit_eq fun j => by
      rw [Nat.testBit_mod_two_pow, bit_pow]
      rcases Nat.lt_trichotomy j i with c | c | c
      · rw [lo j c, decide_eq_false (show ¬ i = j by omega), Bool.and_false]
      · subst c
        rw [hi, decide_eq_true (show j < j + 1 by omega), decide_eq_true rfl]
        rfl
      · rw [decide_eq_false (show ¬ j < i + 1 by omega), decide_eq_false (show ¬ i = j by omega), Bool.false_and]
    have d := Nat.div_add_mod x (2 ^ (i + 1))
    omega
  have il : i < x := bit_lt Nat.lt_two_pow_self hi
  refine Nat.eq_of_testBit_eq fun j => ?_
  rw [testBit_bitsOf, bit_pow]
  have p1 : x - 1 = 2 ^ (i + 1) * y + (2 ^ i - 1) := by
    have := Nat.two_pow_pos i
    omega
  have lt : 2 ^ i - 1 < 2 ^ (i + 1) := by
    rw [Nat.pow_succ]
    omega
  have lt2 : 2 ^ i < 2 ^ (i + 1) := by
    rw [Nat.pow_succ]
    have := Nat.two_pow_pos i
    omega
  have b1 : (x - 1).testBit j = if j < i + 1 then (2 ^ i - 1).testBit j else y.testBit (j - (i + 1)) := by
    rw [p1, Nat.testBit_two_pow_mul_add y lt]
  have b2 : x.testBit j = if j < i + 1 then (2 ^ i).testBit j else y.testBit (j - (i + 1)) := by
    have := Nat.testBit_two_pow_mul_add y lt2 j
    rw [← hy] at this
    exact this
  rw [b1, b2]
  by_cases c : j < i + 1
  · rw [if_pos c, if_pos c, bit_pow, Nat.testBit_two_pow_sub_one]
    by_cases e : i = j
    · subst e
      rw [decide_eq_true rfl, decide_eq_false (Nat.lt_irrefl _), decide_eq_true il]
      rfl
    · rw [decide_eq_false e]
      simp
  · rw [if_neg c, if_neg c, decide_eq_false (show ¬ i = j by omega)]
    cases y.testBit (j - (i + 1)) <;> simp
theorem low_at {x i : Nat} (hi : x.testBit i = true) (lo : ∀ j, j < i → x.testBit j = false) : ((Builtin.Int.intBits (Builtin.bitAnd (x : Int) (-(x : Int))) : Nat) : Int) - 1 = (i : Int) := by
  rw [low_bit hi lo]
  have e : ((2 : Int) ^ i) = ((2 ^ i : Nat) : Int) := (Int.natCast_pow 2 i).symm
  rw [e]
  have : Builtin.Int.intBits ((2 ^ i : Nat) : Int) = i + 1 := by
    have pos := Nat.two_pow_pos i
    unfold Builtin.Int.intBits
    rw [if_neg (by simp only [beq_iff_eq]; omega), Int.natAbs_natCast, Nat.log2_two_pow]
  rw [this]
  omega
/-! ### switches -/
abbrev Sw := List Int × List Int
def pickS (s : Sw) (b : Bool) : List Int := if b = true then s.2 else s.1
/-- the board is won in this case by one of the first m switches -/
def winTo (ss : List Sw) (c m : Nat) (b : Int) : Bool := (List.range m).any fun i => decide (b ∈ pickS (ss.getD i ([], [])) (c.testBit i))
def winS (ss : List Sw) (c : Nat) (b : Int) : Bool := winTo ss c ss.length b
def SureS (ss : List Sw) (φ : ASem) : Prop := ∀ c, c < 2 ^ ss.length → φ (winS ss c) = true
def swP (p : Pr) : Sw := ([p.1], [p.2])
theorem winTo_succ (ss : List Sw) (c m : Nat) (b : Int) : winTo ss c (m + 1) b = (winTo ss c m b || decide (b ∈ pickS (ss.getD m ([], [])) (c.testBit m))) := by
  unfold winTo
  rw [List.range_succ, List.any_append, List.any_cons, List.any_nil, Bool.or_false]
theorem winS_iff {ss : List Sw} {c : Nat} {b : Int} : winS ss c b = true ↔ ∃ i s, ss[i]? = some s ∧ b ∈ pickS s (c.testBit i) := by
  unfold winS winTo
  rw [List.any_eq_true]
  constructor
  · rintro ⟨i, hi, h⟩
    have lt := List.mem_range.mp hi
    refine ⟨i, ss[i], List.getElem?_eq_getElem lt, ?_⟩
    have := of_decide_eq_true h
    rwa [List.getD_eq_getElem?_getD, List.getElem?_eq_getElem lt] at this
  · rintro ⟨i, s, hs, h⟩
    refine ⟨i, List.mem_range.mpr (List.getElem?_eq_some_iff.mp hs).1, decide_eq_true ?_⟩
    rw [List.getD_eq_getElem?_getD, hs]
    exact h
/-! ### what an aim says rests on its boards alone, and more boards are never worse -/
theorem kind_up (kd : AKind) : ∀ {as bs : List Bool}, as.length = bs.length → (∀ (i : Nat) a b, as[i]? = some a → bs[i]? = some b → a = true → b = true) → kd.val as = true → kd.val bs = true := by
  intro as bs hl h
  have le : ∀ {as bs : List Bool}, as.length = bs.length → (∀ (i : Nat) a b, as[i]? = some a → bs[i]? = some b → a = true → b = true) → as.count true ≤ bs.count true := by
    intro as
    induction as with
    | nil => intro bs _ _; exact Nat.zero_le _
    | cons a as ih =>
      intro bs hl h
      cases bs with
      | nil => cases hl
      | cons b bs =>
        have i1 := ih (Nat.succ.inj hl) fun i x y hx hy => h (i + 1) x y (by rw [List.getElem?_cons_succ]; exact hx) (by rw [List.getElem?_cons_succ]; exact hy)
        have i2 := h 0 a b rfl rfl
        rw [List.count_cons, List.count_cons]
        cases a
        · simp
          omega
        · rw [i2 rfl]
          simp
          omega
  cases kd with
  | all =>
    intro z
    have z := List.all_eq_true.mp (show as.all id = true from z)
    refine List.all_eq_true.mpr fun b hb => ?_
    obtain ⟨i, hi⟩ := List.mem_iff_getElem?.mp hb
    have li := (List.getElem?_eq_some_iff.mp hi).1
    have ha : as[i]? = some (as[i]'(by omega)) := List.getElem?_eq_getElem _
    exact h i _ b ha hi (z _ (List.mem_of_getElem? ha))
  | some =>
    intro z
    obtain ⟨a, ha, e⟩ := List.any_eq_true.mp (show as.any id = true from z)
    obtain ⟨i, hi⟩ := List.mem_iff_getElem?.mp ha
    have li := (List.getElem?_eq_some_iff.mp hi).1
    have hb : bs[i]? = some (bs[i]'(by omega)) := List.getElem?_eq_getElem _
    exact List.any_eq_true.mpr ⟨_, List.mem_of_getElem? hb, h i a _ hi hb e⟩
  | least k =>
    intro z
    have z := of_decide_eq_true z
    have := le hl h
    exact decide_eq_true (by omega)
theorem AimV.up {H : Hp} {many : Int} : ∀ {d : Nat} {v : V} {s : Nat} {φ : ASem}, AimV H many d v s φ → ∀ (w w' : Int → Bool), (∀ b, 0 ≤ b → b < many → w b = true → w' b = true) → φ w = true → φ w' = true
  | 0, _, _, _, h => h.elim
  | d + 1, v, s, φ, h => fun w w' hw => by
    rcases h with ⟨n, _, n0, nm, _, rfl⟩ | ⟨a, p, xs, kd, ys, h1, h2, h3, h4, h5, h6, h7, rfl⟩
    · exact hw n n0 nm
    · refine kind_up kd (by rw [List.length_map, List.length_map]) fun i a b ha hb => ?_
      rw [List.getElem?_map] at ha hb
      cases e : ys[i]? with
      | none =>
        rw [e] at ha
        cases ha
      | some y =>
        rw [e] at ha hb
        cases ha
        cases hb
        have li : i < xs.length := by
          rw [paired_len h6]
          exact (List.getElem?_eq_some_iff.mp e).1
        obtain ⟨y', hy', hA⟩ := paired_at h6 i _ (List.getElem?_eq_getElem li)
        rw [e] at hy'
        cases hy'
        exact AimV.up hA w w' hw
theorem AimV.same {H : Hp} {many : Int} {d : Nat} {v : V} {s : Nat} {φ : ASem} (h : AimV H many d v s φ) {w w' : Int → Bool} (hw : ∀ b, 0 ≤ b → b < many → w b = w' b) : φ w = φ w' := by
  cases e : φ w with
  | true => exact (h.up w w' (fun b b0 b1 z => by rw [← hw b b0 b1]; exact z) e).symm
  | false =>
    cases e2 : φ w' with
    | false => rfl
    | true =>
      have := h.up w' w (fun b b0 b1 z => by rw [hw b b0 b1]; exact z) e2
      rw [e] at this
      cases this
theorem AimV.wider {H : Hp} {many many' : Int} (hm : many ≤ many') : ∀ {d : Nat} {v : V} {s : Nat} {φ : ASem}, AimV H many d v s φ → AimV H many' d v s φ
  | 0, _, _, _, h => h.elim
  | d + 1, v, s, φ, h => by
    rcases h with ⟨n, e, n0, nm, r⟩ | ⟨a, p, xs, kd, ys, h1, h2, h3, h4, h5, h6, h7⟩
    · exact .inl ⟨n, e, n0, by omega, r⟩
    · exact .inr ⟨a, p, xs, kd, ys, h1, h2, h3, h4, h5, paired_mono (fun _ _ z => AimV.wider hm z) h6, h7⟩
theorem bit_val (c j : Nat) : Builtin.bitAnd (((c : Nat) : Int) / 2 ^ j) 1 = if c.testBit j = true then 1 else 0 := by
  have e := PySem.W.kbt_mask (((c : Nat) : Int) / 2 ^ j) 1
  have e1 : ((2 : Int) ^ 1 - 1) = 1 := rfl
  rw [e1] at e
  rw [e, Nat.testBit_eq_decide_div_mod_eq]
  have e2 : ((c : Nat) : Int) / 2 ^ j % 2 ^ 1 = ((c / 2 ^ j % 2 : Nat) : Int) := by
    rw [Int.natCast_emod, Int.natCast_ediv]
    congr 1
  rw [e2]
  have lt : c / 2 ^ j % 2 < 2 := Nat.mod_lt _ (by decide)
  generalize c / 2 ^ j % 2 = m at lt
  match m, lt with
  | 0, _ => rfl
  | 1, _ => rfl
theorem shares_iff {p q : Pr} : shareP p q = true ↔ (p.1 = q.1 ∨ p.1 = q.2) ∨ p.2 = q.1 ∨ p.2 = q.2 := by
  unfold shareP
  simp only [Bool.or_eq_true, decide_eq_true_eq]
end Nm
namespace Nm
open PySem PySem.Spec PyProof.Rows L2
/-! ### {e for x in xs for y in ys}, numbers -/
abbrev set2 (elt t0 i0 t1 i1 : Expr) (scope : Scope) (pos : Pos) : Expr := .SetComp elt [⟨t0, i0, [], 0⟩, ⟨t1, i1, [], 0⟩] scope pos
abbrev NoE : Value → Shared → Prop := fun _ _ => False
section
variable {P : Program} {w : World} {A : Around} {R : Result → Shared → Prop} {s : Shared} {elt t0 i0 t1 i1 : Expr} {scope : Scope} {pos : Pos} {it acc : Value} {env : Env}
theorem set2_turn0 : compTurn (set2 elt t0 i0 t1 i1 scope pos) 0 it acc env = (do
      standAt i0.pos
      match ← pyNext it with
      | none => pure (.done .next)
      | some v =>
        letOwnedTupleGo t0 it v
        assign t0 env v
        let mut ok := true
        for c in ([] : List Expr) do
          if ok then ok ← isTrue c env (eval c env)
        if ok then
          let x ← eval i1 env
          standAt i1.pos
          let x ← foldedSetIterable i1 env x
          let _ ← runOwn (.compStart (set2 elt t0 i0 t1 i1 scope pos) 1 (← holding [x] (pyIter x)) acc env) env
        again (.compLoop (set2 elt t0 i0 t1 i1 scope pos) 0 it acc env)) := by rfl
theorem set2_turn1 : compTurn (set2 elt t0 i0 t1 i1 scope pos) 1 it acc env = (do
      standAt i1.pos
      match ← pyNext it with
      | none => pure (.done .next)
      | some v =>
        letOwnedTupleGo t1 it v
        assign t1 env v
        let mut ok := true
        for c in ([] : List Expr) do
          if ok then ok ← isTrue c env (eval c env)
        if ok then
          (do let v ← eval elt env; standAt elt.pos; let _ ← call (.builtin "set.add") [acc, v])
        again (.compLoop (set2 elt t0 i0 t1 i1 scope pos) 1 it acc env)) := by rfl
theorem set2_outer (hs : ∀ x, foldedSetIterable i1 env x = pure x) (I : Nat → Shared → Prop)
    (turn : ∀ n s, I n s → wpAny (model P w) A (pyNext it) (fun r s1 => match r with
      | none => R (.ok .next) s1
      | some v => wpAny (model P w) A (letOwnedTupleGo t0 it v) (fun _ s2 => wpAny (model P w) A (assign t0 env v) (fun _ s3 => wpAny (model P w) A (eval i1 env) (fun x s4 => wpAny (model P w) A (pyIter x) (fun it1 s5 =>
          codeAny (model P w) A (.compStart (set2 elt t0 i0 t1 i1 scope pos) 1 it1 acc env) (fun r s' => match r with
            | .ok _ => ∃ m, m < n ∧ I m s'
            | .error _ => False) s5) NoE s4) NoE s3) NoE s2) NoE s1) NoE s)
    (n : Nat) (h : I n s) : codeAny (model P w) A (.compLoop (set2 elt t0 i0 t1 i1 scope pos) 0 it acc env) R s := by
  refine codeAny_loop rfl I (fun n s hI => ?_) n h
  show wpAny _ A ((compTurn (set2 elt t0 i0 t1 i1 scope pos) 0 it acc env).onRaise (fun x => do noteFrame x env; theTreesLotGoes x)) _ _ s
  refine wpAny_noted ?_
  rw [set2_turn0]
  refine wpAny_bind (wpAny_standAt (wpAny_bind (wpAny_mono (turn n s hI) (fun r s1 h1 => ?_) fun _ _ z => z.elim)))
  cases r with
  | none => exact wpAny_pure h1
  | some v =>
    refine wpAny_bind (wpAny_mono h1 (fun _ s2 h2 => ?_) fun _ _ z => z.elim)
    refine wpAny_bind (wpAny_mono h2 (fun _ s3 h3 => ?_) fun _ _ z => z.elim)
    refine wpAny_bind (wpAny_pure ?_)
    refine wpAny_bind (wpAny_mono h3 (fun x s4 h4 => ?_) fun _ _ z => z.elim)
    refine wpAny_bind (wpAny_standAt (wpAny_bind (wpAny_of_eq (hs x) (wpAny_bind (wpAny_holding (wpAny_mono h4 (fun it1 s5 h5 => ?_) fun _ _ z => z.elim))))))
    refine wpAny_bind (wpAny_runOwn ?_)
    rw [Around.mark_none]
    refine codeAny_mono h5 fun r s' hr => ?_
    cases r with
    | ok f =>
      first
        | exact wpAny_pure ⟨rfl, hr⟩
        | exact wpAny_bind (wpAny_pure (wpAny_pure ⟨rfl, hr⟩))
    | error e => exact hr.elim
theorem set2_inner (I : Nat → Shared → Prop)
    (turn : ∀ n s, I n s → wpAny (model P w) A (pyNext it) (fun r s1 => match r with
      | none => R (.ok .next) s1
      | some v => wpAny (model P w) A (letOwnedTupleGo t1 it v) (fun _ s2 => wpAny (model P w) A (assign t1 env v) (fun _ s3 => wpAny (model P w) A (eval elt env) (fun x s4 =>
          wpAny (model P w) A (call (.builtin "set.add") [acc, x]) (fun _ s5 => ∃ m, m < n ∧ I m s5) NoE s4) NoE s3) NoE s2) NoE s1) NoE s)
    (n : Nat) (h : I n s) : codeAny (model P w) A (.compLoop (set2 elt t0 i0 t1 i1 scope pos) 1 it acc env) R s := by
  refine codeAny_loop rfl I (fun n s hI => ?_) n h
  show wpAny _ A ((compTurn (set2 elt t0 i0 t1 i1 scope pos) 1 it acc env).onRaise (fun x => do noteFrame x env; theTreesLotGoes x)) _ _ s
  refine wpAny_noted ?_
  rw [set2_turn1]
  refine wpAny_bind (wpAny_standAt (wpAny_bind (wpAny_mono (turn n s hI) (fun r s1 h1 => ?_) fun _ _ z => z.elim)))
  cases r with
  | none => exact wpAny_pure h1
  | some v =>
    refine wpAny_bind (wpAny_mono h1 (fun _ s2 h2 => ?_) fun _ _ z => z.elim)
    refine wpAny_bind (wpAny_mono h2 (fun _ s3 h3 => ?_) fun _ _ z => z.elim)
    refine wpAny_bind (wpAny_pure ?_)
    exact wpAny_bind (wpAny_bind (wpAny_mono h3 (fun x s4 h4 => wpAny_bind (wpAny_standAt (wpAny_bind (wpAny_mono h4 (fun _ s5 h5 => wpAny_pure (wpAny_pure ⟨rfl, h5⟩)) fun _ _ z => z.elim)))) fun _ _ z => z.elim))
theorem set2_start (h0 : codeAny (model P w) A (.compLoop (set2 elt t0 i0 t1 i1 scope pos) 1 it acc env) R s)
    (h : wpAny (model P w) A (pyIter it) (fun it' s' => codeAny (model P w) A (.compLoop (set2 elt t0 i0 t1 i1 scope pos) 1 it' acc env) R s') (notedBy (model P w) A env fun x s' => R (.error x) s') s) :
    codeAny (model P w) A (.compStart (set2 elt t0 i0 t1 i1 scope pos) 1 it acc env) R s := by
  refine codeAny_of_tree ?_
  show wpAny _ _ ((compStart (set2 elt t0 i0 t1 i1 scope pos) 1 it acc env).onRaise (fun x => do noteFrame x env; standAt theWindowsPlace)) _ _ s
  refine wpAny_notedAt ?_
  unfold compStart
  show wpAny _ _ (ask >>= _) _ _ s
  refine wpAny_bind (wpAny_askSetting (wpAny_ite ?_))
  split
  · first
      | exact wpAny_bind (wpAny_pure (wpAny_pure (And.intro rfl h0)))
      | exact wpAny_pure (And.intro rfl h0)
  · refine wpAny_bind (wpAny_rule ?_)
    show wpAny _ _ (standAt i1.pos >>= _) _ _ s
    exact wpAny_bind (wpAny_standAt (wpAny_bind (wpAny_mono h (fun it' s' h' => wpAny_pure (And.intro rfl h')) fun _ _ x => x)))
end
section
variable {X : Cx}
/-- what {e for x in xs for y in ys} asks -/
def tSet2 (w : World) (wi : TI) (g : TG) (wi1 : TI) (g1 : TG) (te : TE) (vs vs1 : List Nat) : TE := fun σ H Q => wi σ H fun J H1 => ∀ D, H1 D = none → ∃ W : Nat → Nat → Hp → Prop, (∃ m, W 0 m (upd H1 D (SetO w D (fun _ => false) 0))) ∧ ∀ i m H, W i m H →
  (J.stop i H ∧ Q (.ref D) H) ∨ (J.go i H ∧ ∃ Nx : Hp → Prop, (∀ H', Nx H' → ∃ m', m' < m ∧ W (i + 1) m' H') ∧ ∀ x H', J.yld i H x H' → g x (wipe σ vs) H' fun σ2 H2 => wipe σ2 vs = wipe σ vs ∧
    wi1 σ2 H2 fun J1 H4 => ∃ W1 : Nat → Nat → Hp → Prop, (∃ m, W1 0 m H4) ∧ ∀ j k H, W1 j k H →
      (J1.stop j H ∧ Nx H) ∨ (J1.go j H ∧ ∃ N1 : Hp → Prop, (∀ H', N1 H' → ∃ k', k' < k ∧ W1 (j + 1) k' H') ∧ ∀ x H', J1.yld j H x H' → g1 x (wipe σ2 vs1) H' fun σ3 H5 => wipe σ3 vs1 = wipe σ2 vs1 ∧
        te σ3 H5 fun y H7 => ∃ (c : Int) (S : Int → Bool) (n : Nat), y = .int c ∧ H7 D = some (SetO w D S n) ∧ n + 1 < scanBound ∧ N1 (upd H7 D (SetO w D (fun j => S j || decide (j = c)) (if S c = true then n else n + 1)))))
theorem add_num {pins : List (Addr × Obj)} {σ : L2.St} {H : Hp} {s : Shared} {D : Addr} {S : Int → Bool} {n : Nat} {c : Int} {tk : Tok} {Q : Value → Shared → Prop} (I : Inv X pins σ H s) (hD : H D = some (SetO X.w D S n)) (room : n + 1 < scanBound)
    (q : ∀ s', Inv X pins σ (upd H D (SetO X.w D (fun j => S j || decide (j = c)) (if S c = true then n else n + 1))) s' → ∀ v, Q v s') : wpAny (model X.prog X.w) X.A (call (.builtin "set.add") [.ref D, .int c tk]) Q X.xe s := by
  refine thn (mt_sadd pins s σ H (.ref D) [.int c] (.ref D) [.int c tk] (fun _ H' => H' = upd H D (SetO X.w D (fun j => S j || decide (j = c)) (if S c = true then n else n + 1))) I rfl (.cons ⟨tk, rfl⟩ .nil) ⟨D, c, S, n, rfl, rfl, hD, room, rfl⟩) fun v s' h => ?_
  obtain ⟨x, H', I', r, e⟩ := h
  subst e
  exact q s' I' v
theorem pe_set2 {elt tg iter tg1 iter1 : Expr} {scope : Scope} {own : List (PySem.Str × Nat)} {vs1 : List Nat} {pos : Pos} {wi wi1 : TI} {g g1 : TG} {te : TE} (hc : X.calm = true) (hN : X.N.Nodup) (hi : PI X tg iter wi) (ok : BlkOk X.N X.env.scope scope own) (hv : ∀ i ∈ vs1, i ∈ own.map (·.2))
    (hg : ∀ (s : Shared) (H : Hp) (C : Addr) (cl : List (PySem.Str × Addr)) (fp : List Addr), PG (X.blk s H scope (compEnvC scope cl C X.env) fp) tg g)
    (hi1 : ∀ (s : Shared) (H : Hp) (C : Addr) (cl : List (PySem.Str × Addr)) (fp : List Addr), PI (X.blk s H scope (compEnvC scope cl C X.env) fp) tg1 iter1 wi1)
    (hg1 : ∀ (s : Shared) (H : Hp) (C : Addr) (cl : List (PySem.Str × Addr)) (fp : List Addr), PG (X.blk s H scope (compEnvC scope cl C X.env) fp) tg1 g1)
    (he : ∀ (s : Shared) (H : Hp) (C : Addr) (cl : List (PySem.Str × Addr)) (fp : List Addr), PE (X.blk s H scope (compEnvC scope cl C X.env) fp) elt te)
    (hs : ∀ x, foldedSetIterable iter X.env x = pure x := by intro _; rfl) (hs1 : ∀ env x, foldedSetIterable iter1 env x = pure x := by intro _ _; rfl) :
    PE X (set2 elt tg iter tg1 iter1 scope pos) (tSet2 X.w wi g wi1 g1 te (own.map (·.2)) vs1) := by
  refine ⟨fun pins s σ H Q I h => ?_⟩
  rw [PpSet.eval_SetComp]
  have closed : ∀ y ∈ scope.names, y.2 = .free → ∃ c, X.env.cells.lookup y.1 = some c := fun y hy e => (ok.free y hy e).elim (fun k => I.ok.has _ (.inl k)) fun k => I.ok.has _ (.inr k)
  refine wpAny_comprehension_free (use := none) rfl hs (closure_ok closed) ok.kind (fun y hy e => by rw [ok.uniq y hy, e]) (thn (hi.run pins s σ H _ I h) fun xv s1 hx => thn hx fun itv s2 h2 => ?_)
  obtain ⟨it, fp, tn, J, H2, e, I2, T, st2, f2, q⟩ := h2
  subst e
  refine PpSet.newSet_ok (newEnv_comp ?_)
  generalize hD : s2.heap.objs.size = D
  have hDn : H2 D = none := I2.hok.fresh (Nat.le_of_eq hD)
  obtain ⟨W, ⟨m0, w0⟩, turn⟩ := q D hDn
  generalize hs3 : ({ s2 with heap := s2.heap.push (setObj X) } : Shared) = s3
  have h3 : s3.heap = s2.heap.push (setObj X) := by rw [← hs3]
  generalize hH3 : upd H2 D (SetO X.w D (fun _ => false) 0) = H3 at w0
  have I3 : Inv X pins σ H3 s3 := by
    rw [← hs3, ← hH3]
    refine I2.laid (t' := s2.toks) (fun b o e => Heap.get?_push_of_some _ e) (Nat.le_of_eq hD) ?_
    rw [← hD]
    exact setO_new (setR_fresh X.w)
  have f3 : ∀ b ∈ fp, FpOk X pins H3 b ∧ b < s3.heap.objs.size := fun b hb => by
    obtain ⟨o, e, _⟩ := T.obj _ _ st2 b hb
    have lt := Heap.lt_size e
    have ne : b ≠ D := by rw [← hD]; exact Nat.ne_of_lt lt
    refine ⟨⟨?_, (f2 b hb).2⟩, by rw [h3, Heap.size_push]; exact Nat.lt_succ_of_lt lt⟩
    rw [← hH3, upd_ne ne]
    exact (f2 b hb).1
  have st3 : tn 0 s3.heap := T.keep _ _ _ st2 fun b _ o e => by rw [h3]; exact Heap.get?_push_of_some _ e
  have I4 := block_start I3 ok hN f3
  generalize cellsFrom (s3.heap.objs.size + 1) scope.names (cloFrom X.env.cells scope.names []) = cl at I4
  have pg := hg s3 H3 s3.heap.objs.size cl fp
  have pe := he s3 H3 s3.heap.objs.size cl fp
  have pi1 := hi1 s3 H3 s3.heap.objs.size cl fp
  have pg1 := hg1 s3 H3 s3.heap.objs.size cl fp
  have goal : codeAny (model X.prog X.w) X.A (.compStart (set2 elt tg iter tg1 iter1 scope pos) 0 (.ref it) (.ref D) (compEnvC scope cl s3.heap.objs.size X.env))
      (compPost (model X.prog X.w) X.A X.xe none (EP X pins σ Q) (.ref D) s3.heap.objs.size) { s3 with heap := pushCells (s3.heap.push { cls := .type "dict", data := .dict #[] }) scope.names } := by
    have free3 : ∀ b ∈ fp, H3 b = none := fun b hb => (f3 b hb).1.1
    generalize hce : compEnvC scope cl s3.heap.objs.size X.env = ce at I4 pg pe pi1 pg1 ⊢
    have locals : ce.locals = s3.heap.objs.size := by subst hce; rfl
    generalize hs4 : ({ s3 with heap := pushCells (s3.heap.push { cls := .type "dict", data := .dict #[] }) scope.names } : Shared) = s4 at I4 ⊢
    have st4 : tn 0 s4.heap := T.keep _ _ _ st3 fun b _ o e => by rw [← hs4]; exact pushCells_keeps _ _ _ _ (Heap.get?_push_of_some _ e)
    -- the block's state at the start of a turn of the first walk
    obtain ⟨Out, hOut⟩ : ∃ Out : Nat → Shared → Prop, ∀ n s', Out n s' ↔ ∃ i H', Inv (X.blk s3 H3 scope ce fp) [] (wipe σ (own.map (·.2))) H' s' ∧ tn i s'.heap ∧ (∀ b ∈ fp, H' b = none) ∧ W i n H' := ⟨_, fun _ _ => Iff.rfl⟩
    have stat : ∀ {σ' : L2.St} {H' : Hp} {s' : Shared}, Inv (X.blk s3 H3 scope ce fp) [] σ' H' s' → (∀ b ∈ fp, H' b = none) → ∀ b ∈ fp, FpOk (X.blk s3 H3 scope ce fp) [] H' b := fun {σ' H' s'} I' hn b hb =>
      ⟨hn b hb, (I'.ok.exf b hb).1, I'.ok.exfs b hb, .inl hb, fun x c e => (I'.ok.exf b hb).2 x c e, fun p hp => absurd (show p ∈ ([] : List (Addr × Obj)) ++ [] from hp) (by simp)⟩
    have loop : codeAny (model X.prog X.w) X.A (.compLoop (set2 elt tg iter tg1 iter1 scope pos) 0 (.ref it) (.ref D) ce) (compPost (model X.prog X.w) X.A X.xe none (EP X pins σ Q) (.ref D) s3.heap.objs.size) s4 := by
      refine set2_outer (hs1 ce) Out ?_ m0 ((hOut _ _).mpr ⟨0, H3, I4, st4, free3, w0⟩)
      intro n s5 o5
      obtain ⟨i, H5, I5, st5, n5, w5⟩ := (hOut _ _).mp o5
      rcases turn i n H5 w5 with ⟨stop, qq⟩ | ⟨go, Nx, hNx, step⟩
      · refine thnF (T.done (X.blk s3 H3 scope ce fp) rfl rfl rfl hc i [] s5 _ H5 (fun _ _ => False) I5 (stat I5 n5) st5 stop) fun r s6 ⟨hr, I6⟩ => ?_
        subst hr
        have I7 : Inv X pins σ H5 s6 := I3.call' (ch := fp) I6.os I6.base I6.hok I6.bare fun b hb => by
          have z := (f3 b hb).1
          exact ⟨z.2.2.2.1, z.2.1, z.2.2.2.2.1, z.2.2.2.2.2⟩
        have nC : H5 s3.heap.objs.size = none := by
          rw [← locals]
          exact I6.free
        obtain ⟨m, hn, _⟩ := I6.loc
        have hn' : s6.heap.Ns s3.heap.objs.size m := by
          rw [← locals]
          exact hn
        refine ⟨m, hn', fun h'' sb => ?_⟩
        obtain ⟨z0, z1, z2, z3, z4, z5⟩ := I3.fpOk (Nat.le_refl _) nC
        exact ⟨.ref D, H5, I7.turned (t' := s6.toks) (fun b o hb e => (sb.2 b hb).trans e) z0 z1 z3 z4 z5, rfl, qq⟩
      · refine thnF (T.item (X.blk s3 H3 scope ce fp) rfl rfl rfl hc i [] s5 _ H5 (fun _ _ => False) I5 (stat I5 n5) st5 go) fun r s6 ⟨u, hr, h6⟩ => ?_
        subst hr
        refine thnF h6 fun _ s7 ⟨x, H7, I7, r7, y7, st7, n7⟩ => ?_
        have I7' := I7.pinned (stat I7 n7) (T.obj _ _ st7)
        refine thnF (pg.run _ s7 _ H7 x u _ I7' r7 (step x H7 y7)) fun _ s8 ⟨σ8, H8, I8, hw8, q8⟩ => ?_
        have len8 : (wipe σ (own.map (·.2))).length = σ8.length := by rw [← hw8, wipe_length]
        -- back to the first walk
        have back : ∀ {s' : Shared} {H' : Hp}, Inv (X.blk s3 H3 scope ce fp) ([] ++ pinsAt fp s7.heap) (wipe σ8 vs1) H' s' → Nx H' → ∃ m, m < n ∧ Out m s' := fun {s' H'} I' nx => by
          obtain ⟨m', hm, w'⟩ := hNx H' nx
          have held : ∀ b ∈ fp, ∀ o, s7.heap.get? b = some o → s'.heap.get? b = some o ∧ H' b = none := fun b hb o e =>
            let z := I'.pin (b, o) (List.mem_append_right _ (List.mem_append_right _ (mem_pinsAt hb e)))
            ⟨z.1, z.2.1⟩
          refine ⟨m', hm, (hOut _ _).mpr ⟨i + 1, H', (I'.unpinned (pins := [])).weak (len8.trans (wipe_length σ8 vs1).symm) (fun j v e => ?_), T.keep _ _ _ st7 fun b hb o e => (held b hb o e).1, fun b hb => ?_, w'⟩⟩
          · rw [← hw8] at e
            obtain ⟨e1, e2⟩ := wipe_some e
            rw [wipe_out fun z => e2 (hv j z)]
            exact e1
          · obtain ⟨o, e, _⟩ := T.obj _ _ st7 b hb
            exact (held b hb o e).2
        refine thnF (pi1.run _ s8 σ8 H8 _ I8 q8) fun xv s10 hx => thnF hx fun itv s11 h11 => ?_
        obtain ⟨it1, fp1, tn1, J1, H11, e1, I11, T1, st11, f11, W1, ⟨m1, w1⟩, turn1⟩ := h11
        subst e1
        have stat1 : ∀ {H' : Hp}, (∀ b ∈ fp1, H' b = none) → ∀ b ∈ fp1, FpOk (X.blk s3 H3 scope ce fp) ([] ++ pinsAt fp s7.heap) H' b := fun hn b hb => ⟨hn b hb, (f11 b hb).2⟩
        have loop1 : codeAny (model X.prog X.w) X.A (.compLoop (set2 elt tg iter tg1 iter1 scope pos) 1 (.ref it1) (.ref D) ce) (fun r s' => match r with
            | .ok _ => ∃ m, m < n ∧ Out m s'
            | .error _ => False) s11 := by
          refine set2_inner (fun k s' => ∃ j H', Inv (X.blk s3 H3 scope ce fp) ([] ++ pinsAt fp s7.heap) (wipe σ8 vs1) H' s' ∧ tn1 j s'.heap ∧ (∀ b ∈ fp1, H' b = none) ∧ W1 j k H') ?_ m1 ⟨0, H11, I11.weak (wipe_length _ _) (fun j v e => (wipe_some e).1), st11, fun b hb => (f11 b hb).1, w1⟩
          rintro k s12 ⟨j, H12, I12, st12, n12, w12⟩
          rcases turn1 j k H12 w12 with ⟨stop1, nx1⟩ | ⟨go1, N1, hN1, step1⟩
          · refine thnF (T1.done (X.blk s3 H3 scope ce fp) rfl rfl rfl hc j _ s12 (wipe σ8 vs1) H12 (fun _ _ => False) I12 (stat1 n12) st12 stop1) fun r s13 ⟨hr, I13⟩ => ?_
            subst hr
            exact back I13 nx1
          · refine thnF (T1.item (X.blk s3 H3 scope ce fp) rfl rfl rfl hc j _ s12 (wipe σ8 vs1) H12 (fun _ _ => False) I12 (stat1 n12) st12 go1) fun r s13 ⟨u1, hr, h13⟩ => ?_
            subst hr
            refine thnF h13 fun _ s14 ⟨x1, H14, I14, r14, y14, st14, n14⟩ => ?_
            have I14' := I14.pinned (stat1 n14) (T1.obj _ _ st14)
            refine thnF (pg1.run _ s14 (wipe σ8 vs1) H14 x1 u1 _ I14' r14 (step1 x1 H14 y14)) fun _ s15 ⟨σ15, H15, I15, hw15, q15⟩ => ?_
            refine thnF (pe.run _ s15 σ15 H15 _ I15 q15) fun z s17 ⟨yv, H17, I17, r17, c, S, k0, ey, hD17, room, nx⟩ => ?_
            subst ey
            obtain ⟨tk, ez⟩ := (show ∃ t, z = Value.int c t from r17)
            subst ez
            refine thnF (add_num (X := X.blk s3 H3 scope ce fp) (Q := fun _ s' => Inv (X.blk s3 H3 scope ce fp) (([] ++ pinsAt fp s7.heap) ++ pinsAt fp1 s14.heap) σ15 (upd H17 D (SetO X.w D (fun j => S j || decide (j = c)) (if S c = true then k0 else k0 + 1))) s') I17 hD17 room fun s18 I18 _ => I18) fun _ s18 I18 => ?_
            obtain ⟨m', hm, w'⟩ := hN1 _ nx
            have held : ∀ b ∈ fp1, ∀ o, s14.heap.get? b = some o → s18.heap.get? b = some o ∧ upd H17 D (SetO X.w D (fun j => S j || decide (j = c)) (if S c = true then k0 else k0 + 1)) b = none := fun b hb o e =>
              let z := I18.pin (b, o) (List.mem_append_right _ (List.mem_append_right _ (mem_pinsAt hb e)))
              ⟨z.1, z.2.1⟩
            refine ⟨m', hm, j + 1, _, I18.unpinned.weak (by rw [← hw15, wipe_length]) (fun j v e => by rw [← hw15] at e; exact (wipe_some e).1), T1.keep _ _ _ st14 fun b hb o e => (held b hb o e).1, fun b hb => ?_, w'⟩
            obtain ⟨o, e, _⟩ := T1.obj _ _ st14 b hb
            exact (held b hb o e).2
        exact set2_start loop1 (T1.self X.A 0 _ _ _ st11 loop1)
    exact PpSet.codeAny_compStart_set loop (T.self X.A 0 _ _ _ st4 loop)
  exact goal
end
/-- at D stands the set of these numbers -/
def SetIn (w : World) (H : Hp) (D : Addr) (done : List Int) : Prop := ∃ S n, H D = some (SetO w D S n) ∧ (∀ j, S j = decide (j ∈ done)) ∧ n ≤ done.length
/-- what puts one more number -/
def Put1 (w : World) (D : Addr) (c : Int) (H : Hp) (N : Hp → Prop) : Prop := ∃ S n, H D = some (SetO w D S n) ∧ n + 1 < scanBound ∧ N (upd H D (SetO w D (fun j => S j || decide (j = c)) (if S c = true then n else n + 1)))
theorem st2_inner {w : World} {J : It} {n : Nat} {G : Hp → Prop} {Y : Nat → Hp → V → Hp → Prop} (wk : Walk J n G Y) (gs : List Int) (hn : n = gs.length) {H0 H4 : Hp} {D : Addr} (done : List Int) (hz : done.length + gs.length ≤ 1000) (hD : H0 D = none)
    (g4 : Same H0 H4) (l4 : SetIn w H4 D done) (hG : ∀ H, Same H0 H → G H) {Nx : Hp → Prop} (hN : ∀ H, Same H0 H → SetIn w H D (done ++ gs) → Nx H) {g : TG} {te : TE} {vs : List Nat} {σ : L2.St}
    (hs : ∀ (i : Nat) (x : V) (c : Int) (H H' : Hp) (N1 : Hp → Prop), gs[i]? = some c → Y i H x H' → Same H0 H → (∀ H2, Same H H2 → Put1 w D c H2 N1) →
      g x (wipe σ vs) H' fun σ3 H5 => wipe σ3 vs = wipe σ vs ∧ te σ3 H5 fun y H7 => ∃ (c : Int) (S : Int → Bool) (n : Nat), y = .int c ∧ H7 D = some (SetO w D S n) ∧ n + 1 < scanBound ∧ N1 (upd H7 D (SetO w D (fun j => S j || decide (j = c)) (if S c = true then n else n + 1)))) :
    ∃ W1 : Nat → Nat → Hp → Prop, (∃ m, W1 0 m H4) ∧ ∀ j k H, W1 j k H → (J.stop j H ∧ Nx H) ∨ (J.go j H ∧ ∃ N1 : Hp → Prop, (∀ H', N1 H' → ∃ k', k' < k ∧ W1 (j + 1) k' H') ∧ ∀ x H', J.yld j H x H' → g x (wipe σ vs) H' fun σ3 H5 => wipe σ3 vs = wipe σ vs ∧
      te σ3 H5 fun y H7 => ∃ (c : Int) (S : Int → Bool) (n : Nat), y = .int c ∧ H7 D = some (SetO w D S n) ∧ n + 1 < scanBound ∧ N1 (upd H7 D (SetO w D (fun j => S j || decide (j = c)) (if S c = true then n else n + 1)))) := by
  subst hn
  have big : 2000 < scanBound := by decide
  refine ⟨fun j k H => k = gs.length - j ∧ j ≤ gs.length ∧ Same H0 H ∧ SetIn w H D (done ++ gs.take j), ⟨gs.length, by simp, Nat.zero_le _, g4, by rw [List.take_zero, List.append_nil]; exact l4⟩, ?_⟩
  rintro j k H ⟨rfl, hj, sm, S, n, ha, hS, ln⟩
  by_cases lt : j < gs.length
  · have hc : gs[j]? = some gs[j] := List.getElem?_eq_getElem lt
    rw [List.length_append, List.length_take] at ln
    refine .inr ⟨wk.goes j H lt (hG H sm), fun H2 => Same H0 H2 ∧ SetIn w H2 D (done ++ gs.take (j + 1)), fun H' p => ⟨gs.length - (j + 1), by omega, rfl, lt, p⟩, fun x H' y => hs j x _ H H' (fun H2 => Same H0 H2 ∧ SetIn w H2 D (done ++ gs.take (j + 1))) hc (wk.yields j H x H' lt (hG H sm) y) sm fun H2 g2 => ⟨S, n, g2 _ _ ha, by omega, same_mut (sm.trans g2) hD, _, _, upd_same, fun z => ?_, ?_⟩⟩
    · rw [take_one hc, ← List.append_assoc, hS]
      by_cases e : z = gs[j]
      · rw [decide_eq_true e, Bool.or_true, e]
        exact (decide_eq_true (List.mem_append_right _ List.mem_cons_self)).symm
      · rw [decide_eq_false e, Bool.or_false]
        refine decide_eq_decide.mpr ⟨fun h => List.mem_append_left _ h, fun h => ?_⟩
        rcases List.mem_append.mp h with h | h
        · exact h
        · exact absurd (List.mem_singleton.mp h) e
    · rw [List.length_append, List.length_take]
      split <;> omega
  · have e : j = gs.length := by omega
    subst e
    rw [List.take_length] at hS ln
    exact .inl ⟨wk.stops H (hG H sm), hN H sm ⟨S, n, ha, hS, ln⟩⟩
theorem st2_outer {w : World} {J : It} {n : Nat} {G : Hp → Prop} {Y : Nat → Hp → V → Hp → Prop} (wk : Walk J n G Y) {β : Type} (bs : List β) (f : β → List Int) {H0 : Hp} (hn : n = bs.length) (hz : (bs.flatMap f).length ≤ 1000) (hG : ∀ H, Same H0 H → G H) {D : Addr} (hD : H0 D = none)
    {g : TG} {wi1 : TI} {g1 : TG} {te : TE} {vs vs1 : List Nat} {σ : L2.St} {Qd : Hp → Prop}
    (hs : ∀ (i : Nat) (x : V) (b : β) (H H' : Hp) (Nx : Hp → Prop) (done : List Int), bs[i]? = some b → Y i H x H' → Same H0 H → SetIn w H D done → done.length + (f b).length ≤ 1000 → (∀ H2, Same H0 H2 → SetIn w H2 D (done ++ f b) → Nx H2) →
      g x (wipe σ vs) H' fun σ2 H2 => wipe σ2 vs = wipe σ vs ∧ wi1 σ2 H2 fun J1 H4 => ∃ W1 : Nat → Nat → Hp → Prop, (∃ m, W1 0 m H4) ∧ ∀ j k H, W1 j k H →
        (J1.stop j H ∧ Nx H) ∨ (J1.go j H ∧ ∃ N1 : Hp → Prop, (∀ H', N1 H' → ∃ k', k' < k ∧ W1 (j + 1) k' H') ∧ ∀ x H', J1.yld j H x H' → g1 x (wipe σ2 vs1) H' fun σ3 H5 => wipe σ3 vs1 = wipe σ2 vs1 ∧
          te σ3 H5 fun y H7 => ∃ (c : Int) (S : Int → Bool) (n : Nat), y = .int c ∧ H7 D = some (SetO w D S n) ∧ n + 1 < scanBound ∧ N1 (upd H7 D (SetO w D (fun j => S j || decide (j = c)) (if S c = true then n else n + 1)))))
    (hd : ∀ H, Same H0 H → SetIn w H D (bs.flatMap f) → Qd H) :
    ∃ W : Nat → Nat → Hp → Prop, (∃ m, W 0 m (upd H0 D (SetO w D (fun _ => false) 0))) ∧ ∀ i m H, W i m H → (J.stop i H ∧ Qd H) ∨ (J.go i H ∧ ∃ Nx : Hp → Prop, (∀ H', Nx H' → ∃ m', m' < m ∧ W (i + 1) m' H') ∧
      ∀ x H', J.yld i H x H' → g x (wipe σ vs) H' fun σ2 H2 => wipe σ2 vs = wipe σ vs ∧ wi1 σ2 H2 fun J1 H4 => ∃ W1 : Nat → Nat → Hp → Prop, (∃ m, W1 0 m H4) ∧ ∀ j k H, W1 j k H →
        (J1.stop j H ∧ Nx H) ∨ (J1.go j H ∧ ∃ N1 : Hp → Prop, (∀ H', N1 H' → ∃ k', k' < k ∧ W1 (j + 1) k' H') ∧ ∀ x H', J1.yld j H x H' → g1 x (wipe σ2 vs1) H' fun σ3 H5 => wipe σ3 vs1 = wipe σ2 vs1 ∧
          te σ3 H5 fun y H7 => ∃ (c : Int) (S : Int → Bool) (n : Nat), y = .int c ∧ H7 D = some (SetO w D S n) ∧ n + 1 < scanBound ∧ N1 (upd H7 D (SetO w D (fun j => S j || decide (j = c)) (if S c = true then n else n + 1))))) := by
  subst hn
  refine ⟨fun i m H => m = bs.length - i ∧ i ≤ bs.length ∧ Same H0 H ∧ SetIn w H D ((bs.take i).flatMap f), ⟨bs.length, by simp, Nat.zero_le _, same_new hD, _, _, upd_same, fun j => rfl, Nat.zero_le _⟩, ?_⟩
  rintro i m H ⟨rfl, hi, sm, l⟩
  by_cases lt : i < bs.length
  · have hb : bs[i]? = some bs[i] := List.getElem?_eq_getElem lt
    have e : (bs.take (i + 1)).flatMap f = (bs.take i).flatMap f ++ f bs[i] := by
      rw [take_one hb, List.flatMap_append]
      simp
    have le : ((bs.take i).flatMap f).length + (f bs[i]).length ≤ 1000 := by
      have : (bs.take (i + 1)).flatMap f ++ (bs.drop (i + 1)).flatMap f = bs.flatMap f := by
        rw [← List.flatMap_append, List.take_append_drop]
      have l2 := congrArg List.length this
      rw [List.length_append, e, List.length_append] at l2
      omega
    refine .inr ⟨wk.goes i H lt (hG H sm), fun H2 => Same H0 H2 ∧ SetIn w H2 D ((bs.take (i + 1)).flatMap f), fun H' p => ⟨bs.length - (i + 1), by omega, rfl, lt, p⟩, fun x H' y => hs i x _ H H' (fun H2 => Same H0 H2 ∧ SetIn w H2 D ((bs.take (i + 1)).flatMap f)) _ hb (wk.yields i H x H' lt (hG H sm) y) sm l le fun H2 s2 l2 => ⟨s2, ?_⟩⟩
    rw [e]
    exact l2
  · have e : i = bs.length := by omega
    subst e
    rw [List.take_length] at l
    exact .inl ⟨wk.stops H (hG H sm), hd H sm l⟩
end Nm
namespace Nm
open PySem PySem.Spec PyProof.Rows L2
theorem all8 : (allP (pairsOf (fun _ _ => true) 8)).length = 764 := by decide +kernel
theorem few_allP {ps : List Pr} {n : Nat} (up : ps.Pairwise (Less dPr)) (sub : ∀ p ∈ ps, p ∈ pairsOf (fun _ _ => true) n) : (allP ps).length ≤ (allP (pairsOf (fun _ _ => true) n)).length := by
  refine List.Nodup.length_le_of_subset (nd_allP rfl up) fun t ht => ?_
  have g := (mem_allP rfl up t).mp ht
  exact (mem_allP rfl (pairsOf_up _ _) t).mpr ⟨g.up, fun p hp => sub p (g.sub p hp), g.apart⟩
theorem pairs_all {f : Nat → Nat → Bool} {n m : Nat} (h : n ≤ m) : ∀ p ∈ pairsOf f n, p ∈ pairsOf (fun _ _ => true) m := fun p hp => by
  obtain ⟨i, j, rfl, h1, h2, h3, _⟩ := mem_pairsUp.mp hp
  exact mem_pairsUp.mpr ⟨i, j, rfl, h1, by omega, by omega, rfl⟩
theorem few8 (f : Nat → Nat → Bool) {n : Nat} (h : n ≤ 8) : ∃ L : List Nat, L.length ≤ 2000 ∧ ∀ c, Mis (KP (pairsOf f n)) c (pairsOf f n).length → c ∈ L := by
  refine ⟨(allP (pairsOf f n)).map (codeL (pairsOf f n)), ?_, fun c m => great_few (pairsOf_up _ _) m⟩
  have := few_allP (pairsOf_up f n) (pairs_all (f := f) h)
  rw [all8] at this
  rw [List.length_map]
  omega
end Nm
namespace Nm
open PySem PySem.Spec PyProof.Rows L2 HT
/-! ### t[::-1], t a tuple -/
theorem adjust_rev (n : Nat) : Builtin.Slice.sliceAdjust none none (-1) (n : Int) = ((n : Int) - 1, -1) := by
  unfold Builtin.Slice.sliceAdjust
  simp
theorem places_rev (n : Nat) (h : 1 ≤ n) : Builtin.Slice.slicePlaces ((n : Int) - 1) (-1) (-1) = n := by
  unfold Builtin.Slice.slicePlaces
  have h1 : ¬ ((-1 : Int) > 0) := by omega
  simp only [h1, if_false]
  split
  · rw [show (- -1 : Int) = 1 by decide, Int.ediv_one]
    omega
  · omega
theorem fmap_some {α β : Type} {f : α → Option β} {g : α → β} : ∀ {l : List α}, (∀ m ∈ l, f m = some (g m)) → l.filterMap f = l.map g
  | [], _ => rfl
  | m :: l, h => by
    rw [List.filterMap_cons, h m List.mem_cons_self, List.map_cons]
    show g m :: List.filterMap f l = _
    rw [fmap_some fun z hz => h z (List.mem_cons_of_mem _ hz)]
theorem pick_rev (xs : Array Value) : ((List.range xs.size).filterMap fun (m : Nat) => xs[(((xs.size : Nat) : Int) - 1 + (m : Int) * -1).toNat]?).toArray = xs.toList.reverse.toArray := by
  congr 1
  apply List.ext_getElem?
  have e : (List.range xs.size).filterMap (fun (m : Nat) => xs[(((xs.size : Nat) : Int) - 1 + (m : Int) * -1).toNat]?) = (List.range xs.size).map fun m => xs.toList.reverse.getD m default := by
    refine fmap_some fun m hm => ?_
    have hm := List.mem_range.mp hm
    rw [show (((xs.size : Nat) : Int) - 1 + (m : Int) * -1).toNat = xs.size - 1 - m by omega]
    rw [List.getD_eq_getElem?_getD, List.getElem?_reverse (by rw [Array.length_toList]; exact hm), Array.length_toList, Array.getElem?_toList, Array.getElem?_eq_getElem (by omega)]
    rfl
  intro i
  rw [e, List.getElem?_map]
  by_cases c : i < xs.size
  · rw [List.getElem?_range c, List.getElem?_eq_getElem (by rw [List.length_reverse, Array.length_toList]; exact c)]
    show some (xs.toList.reverse.getD i default) = _
    rw [List.getD_eq_getElem?_getD, List.getElem?_eq_getElem (by rw [List.length_reverse, Array.length_toList]; exact c)]
    rfl
  · rw [List.getElem?_eq_none (by rw [List.length_range]; omega), List.getElem?_eq_none (by rw [List.length_reverse, Array.length_toList]; omega)]
    rfl
section
variable {prog : Program} {w : World} {A : Around} {E : Value → Shared → Prop} {s : Shared}
theorem sliceApplied_rev {sl : Addr} {vs : Value} {n : Nat} {Q : Int × Int × Nat → Shared → Prop} (hs : s.heap.IsSliceOf sl .none .none vs) (ps : IsPart vs (some (-1))) (hn : 1 ≤ n)
    (h : Q ((n : Int) - 1, -1, n) s) : wpAny (model prog w) A (Builtin.Slice.sliceApplied (.ref sl) (pure (n : Int))) Q E s := by
  obtain ⟨os, hos, hcs, hds⟩ := id hs
  unfold Builtin.Slice.sliceApplied Builtin.Slice.sliceFields
  refine wpAny_bind (wpAny_bind (wpAny_field hos hds (x := .none) rfl (wpAny_bind (wpAny_field hos hds (x := .none) rfl (wpAny_bind (wpAny_field hos hds (x := vs) rfl (wpAny_pure ?_)))))))
  refine wpAny_bind (slicePart_ ps ?_)
  show wpAny _ _ (if ((-1 : Int) == 0) = true then _ else _) _ _ s
  rw [if_neg (by decide)]
  refine wpAny_bind (slicePart_ .none (wpAny_bind (slicePart_ .none (wpAny_bind (wpAny_pure ?_)))))
  show wpAny _ _ (match Builtin.Slice.sliceAdjust none none (-1) (n : Int) with | (lo, hi) => pure (lo, (-1 : Int), Builtin.Slice.slicePlaces lo hi (-1))) _ _ s
  rw [adjust_rev n]
  show wpAny _ _ (pure ((n : Int) - 1, (-1 : Int), Builtin.Slice.slicePlaces ((n : Int) - 1) (-1) (-1))) _ _ s
  rw [places_rev n hn]
  exact wpAny_pure h
theorem getItem_tuple_rev {t sl : Addr} {items : Array Value} {vs : Value} {Q : Value → Shared → Prop} (ht : IsTup s.heap t items) (hs : s.heap.IsSliceOf sl .none .none vs) (ps : IsPart vs (some (-1))) (h1 : 1 ≤ items.size)
    (h : Q (.ref s.heap.objs.size) { s with heap := s.heap.push { cls := .type "tuple", data := .seq items.toList.reverse.toArray } })
    (hsz : items.size ≤ sizeLine) : wpAny (model prog w) A (getItem (.ref t) (.ref sl)) Q E s := by
  have htake : sizeOk (.seq items.toList.reverse.toArray) := by
    show items.toList.reverse.toArray.size ≤ sizeLine
    rw [List.size_toArray, List.length_reverse, Array.length_toList]
    exact hsz
  obtain ⟨os, hos, hcs, hds⟩ := id hs
  have hTs : s.TypeIs (.ref sl) "slice" := ⟨os, hos, hcs⟩
  unfold getItem
  try with_reducible refine wpAny_holding ?_
  first | refine wpAny_bind (wpAny_pure ?_) | skip
  refine wpAny_bind (wpAny_sequenceKey ht.typeIs (by decide) ?_)
  refine wpAny_bind (wpAny_callSpecial?_slot (name := Str.ofString "__getitem__") ht.typeIs PyProof.Rows.slot_tuple_getitem
    (wpAny_call_entry PyProof.Rows.slot_tuple_getitem ht.typeIs entry_tuple_getitem ?_ (args_tuple_getitem _ _)))
  show wpAny _ _ (Builtin.Tuple.tupleItemsOf (.ref t) >>= _) _ _ s
  refine wpAny_bind (tupleItemsOf_ ht ?_)
  refine wpAny_bind (wpAny_typeOf hTs ?_)
  rw [if_pos (by decide)]
  refine wpAny_bind (sliceApplied_rev (n := items.size) hs ps h1 ?_)
  have hno : ¬ (((((items.size : Nat) : Int) - 1) == 0 && (-1 : Int) == 1 && items.size == items.size) = true) := by
    intro q
    rw [Bool.and_eq_true, Bool.and_eq_true] at q
    exact absurd q.1.2 (by decide)
  show wpAny _ _ (if ((((items.size : Nat) : Int) - 1) == 0 && (-1 : Int) == 1 && items.size == items.size) = true then _ else _) _ _ s
  rw [if_neg hno, pick_rev]
  first
    | exact wpAny_bind (m := Builtin.Tuple.tupleExact _) (wpAny_newObj_type (wpAny_pure ⟨_, rfl, wpAny_pure h⟩) htake)
    | exact wpAny_bind (m := Builtin.Tuple.tupleExact _) (wpAny_newObj_type (wpAny_bind (wpAny_pure (wpAny_pure ⟨_, rfl, wpAny_pure h⟩))) htake)
    | exact wpAny_bind (wpAny_bind (m := Builtin.Tuple.tupleExact _) (wpAny_newObj_type (wpAny_pure (wpAny_pure ⟨_, rfl, wpAny_pure h⟩)) htake))
    | exact wpAny_bind (wpAny_bind (m := Builtin.Tuple.tupleExact _) (wpAny_newObj_type (wpAny_pure ⟨_, rfl, wpAny_pure h⟩) htake))
end
variable {X : Cx}
def tRevT (K : PySem.W.Frag) (te : TE) : TE := fun σ H Q => te σ H fun x H1 => ∃ a xs, x = .ref a ∧ SqT K H1 a xs ∧ xs ≠ [] ∧ ∀ p, H1 p = none → Q (.ref p) (upd H1 p (.tup xs.reverse))
theorem pe_revT {e : Expr} {te : TE} {k : Nat} {p1 p2 p3 pos : Pos} (he : PE X e te) : PE X (.Subscript e (.Slice none none (some (.UnaryOp .USub (.Constant (.int 1) k p1) p2)) p3) pos) (tRevT X.K te) := by
  refine ⟨fun pins s σ H Q I h => ?_⟩
  refine Subscript_ (thn (he.run pins s σ H _ I h) fun v s1 ⟨x, H1, I1, r1, q1⟩ => ?_)
  obtain ⟨a, xs, ex, hx, hne, q⟩ := q1
  subst ex
  cases r1
  have hst : PO X (some (.UnaryOp .USub (.Constant (.int 1) k p1) p2)) (tPart (tUn (rU fun i => .int (-i)) (tC (.int 1)))) := po_some (pe_un un_neg pe_int)
  refine wpAny_Slice (thn (po_none.run pins s1 σ H1 (fun o H2 => o = none ∧ H2 = H1) I1 ⟨rfl, rfl⟩) fun vl s2 ⟨l, H2, I2, pl, el, e2⟩ => ?_)
  subst el e2
  refine thn (po_none.run pins s2 σ H2 (fun o H3 => o = none ∧ H3 = H2) I2 ⟨rfl, rfl⟩) fun vu s3 ⟨u, H3, I3, pu, eu, e3⟩ => ?_
  subst eu e3
  refine thn (hst.run pins s3 σ H3 (fun o H4 => o = some (-1) ∧ H4 = H3) I3 ⟨1, rfl, -1, rfl, rfl, rfl⟩) fun vs s4 ⟨o, H4, I4, ps, eo, e4⟩ => ?_
  subst eo e4
  cases pl
  cases pu
  have I5 : Inv X pins σ H4 { s4 with heap := s4.heap.push { cls := .type "slice", data := .fields #[.none, .none, vs] } } := I4.kept (t' := s4.toks) fun b ob q => Heap.get?_push_of_some _ q
  obtain ⟨its, r, ht, hz⟩ := I5.tuple hx
  have hlen := r.length
  show wpAny (model X.prog X.w) X.A (subscriptTail e (.Slice none none (some (.UnaryOp .USub (.Constant (.int 1) k p1) p2)) p3) (.ref a) (.ref s4.heap.objs.size)) (EP X pins σ Q) X.xe { s4 with heap := s4.heap.push { cls := .type "slice", data := .fields #[.none, .none, vs] } }
  refine tail_any (ops := [.ref a, .ref s4.heap.objs.size]) ht.typeIs (PyProof.Rows.slot_tuple_getitem.lookup) ?_ (by with_unfolding_all rfl)
  have l1 : 1 ≤ its.toArray.size := by
    rw [List.size_toArray, ← hlen]
    exact List.length_pos_iff.mpr hne
  refine getItem_tuple_rev ht (Heap.IsSliceOf.new _ .none .none vs) ps l1 ?_ (by rw [List.size_toArray]; omega)
  refine ⟨.ref _, _, I5.laid (t' := s4.toks) (o := .tup xs.reverse) (fun b ob q => Heap.get?_push_of_some _ q) (Nat.le_refl _) ?_, rfl, q _ (I5.hok.fresh (Nat.le_refl _))⟩
  exact ⟨by rw [List.length_reverse]; exact hz, _, r.reverse, IsTup.new _ _⟩
end Nm
namespace Nm
open PySem PySem.Spec PyProof.Rows L2
/-! ### max(xs, default=d) of a list of ints -/
theorem fold_max : ∀ (xs : List Int) (x : Int), PySem.W.maxOf x xs ∈ x :: xs ∧ ∀ y ∈ x :: xs, y ≤ PySem.W.maxOf x xs
  | [], x => ⟨List.mem_singleton.mpr rfl, fun y hy => by rw [List.mem_singleton.mp hy]; exact Int.le_refl _⟩
  | z :: xs, x => by
    have e : PySem.W.maxOf x (z :: xs) = PySem.W.maxOf (if PySem.W.DatumOrd.lt x z = true then z else x) xs := rfl
    obtain ⟨h1, h2⟩ := fold_max xs (if PySem.W.DatumOrd.lt x z = true then z else x)
    rw [e]
    have c : PySem.W.DatumOrd.lt x z = decide (x < z) := rfl
    rw [c] at h1 h2 ⊢
    by_cases h : x < z
    · rw [if_pos (decide_eq_true h)] at h1 h2 ⊢
      refine ⟨List.mem_cons_of_mem _ h1, fun y hy => ?_⟩
      rcases List.mem_cons.mp hy with rfl | hy
      · have := h2 z List.mem_cons_self
        omega
      · exact h2 y hy
    · rw [if_neg (fun w => h (of_decide_eq_true w))] at h1 h2 ⊢
      refine ⟨?_, fun y hy => ?_⟩
      · rcases List.mem_cons.mp h1 with w | w
        · rw [w]
          exact List.mem_cons_self
        · exact List.mem_cons_of_mem _ (List.mem_cons_of_mem _ w)
      · rcases List.mem_cons.mp hy with rfl | hy
        · exact h2 _ List.mem_cons_self
        · rcases List.mem_cons.mp hy with rfl | hy
          · have := h2 x List.mem_cons_self
            omega
          · exact h2 y (List.mem_cons_of_mem _ hy)
def rMaxD0 (K : PySem.W.Frag) : List V → List V → Hp → VK → Prop := fun vs zs H Q => ∃ (a : Addr) (ns : List Int) (d : Int), vs = [V.ref a] ∧ zs = [.int d] ∧ SqL K H a (ns.map V.int) ∧ (ns = [] → Q (.int d) H) ∧ ∀ m, m ∈ ns → (∀ y ∈ ns, y ≤ m) → Q (.int m) H
theorem cr_maxDef {X : Cx} (hc : X.calm = true) (hu : X.A.units + 64 < cLine) : CallRK X (.builtin "max") [Str.ofString "default"] (rMaxD0 X.K) := by
  intro pins s σ H xs zs us ws Q I rx rz h
  obtain ⟨a, ns, d, rfl, rfl, hs, q0, q⟩ := h
  obtain ⟨its, rv, hl, _⟩ := I.list hs
  rw [Vals.ref1 rx]
  cases rz with
  | @cons _ wd _ _ rd rt =>
  cases rt
  have hi := rv.ints
  refine PySem.W.max_list_datum_default (xs := ns) (I.ok.hd hc) hl.isList (PySem.W.HoldAll.of_ints (by rw [List.toList_toArray]; exact hi)) (Nat.lt_of_le_of_lt (by show X.A.units + 1 + 0 ≤ X.A.units + 64; omega) hu) (fun e h' tk hk => ?_) fun y ys i v h' tk e hv hh hk => ?_
  · exact ⟨.int d, H, I.kept hk, rd, q0 e⟩
  · obtain ⟨m1, m2⟩ := fold_max ys y
    obtain ⟨as, r⟩ := hh
    have w : ∃ t, v = .int (PySem.W.maxOf y ys) t := by
      have := PySem.W.HoldAll.toInts (h := h') (vs := [v]) (ns := [PySem.W.maxOf y ys]) ⟨as ++ [], .cons r .nil⟩
      cases this
      exact ⟨_, rfl⟩
    obtain ⟨t, rfl⟩ := w
    subst e
    exact ⟨.int (PySem.W.maxOf y ys), H, I.kept hk, ⟨t, rfl⟩, q _ m1 m2⟩
end Nm
namespace Nm
open PySem PySem.Spec PyProof.Rows L2 NmD
/-! ### the items of a dict that is keyed by tuples -/
theorem frz_items {X : Cx} {pins : List (Addr × Obj)} {σ : L2.St} {H : Hp} {s : Shared} {d : Addr} {o : Obj} {kvs : List (List Key × V)} (I : Inv X pins σ H s) (h : H d = some (.frz o (.dT kvs))) :
    (d == sysModules) = false ∧ s.heap.get? d = some o ∧ o.ExactDict ∧ ∃ (es : Array DictEntry) (ep : Nat), o.data = .dict es ep ∧ es.size = kvs.length ∧
      ∀ (i : Nat) (k : List Key) (v : V), kvs[i]? = some (k, v) → ∃ (en : DictEntry) (q : Addr), es[i]? = some en ∧ en.key = .ref q ∧ H q = some (.tup (k.map kV)) ∧ RelV v en.val := by
  obtain ⟨hd, z, hs, xs, pr, o', es, ep, ho, hx, hdt, he, _⟩ := I.hok d _ h
  rw [hd] at ho
  cases ho
  refine ⟨hs, hd, hx, es, ep, hdt, ?_, fun i k v e => ?_⟩
  · have l1 : es.size = xs.length := size_of_entries he
    have l2 : kvs.length = xs.length := Paired.length pr
    omega
  · obtain ⟨b, hb, e1, e2, e3⟩ := L2.paired_get pr e
    have q := entry_at he i
    rw [hb] at q
    exact ⟨_, b.2.1, q, rfl, e2, e3⟩
def ItiT (d : Addr) (o : Obj) (kvs : List (List Key × V)) : It :=
  ⟨fun i H => H d = some (.frz o (.dT kvs)) ∧ i < kvs.length, fun i H x H' => ∃ T k v q, kvs[i]? = some (k, v) ∧ x = .ref T ∧ H T = none ∧ H q = some (.tup (k.map kV)) ∧ H' = upd H T (.tup [.ref q, v]), fun i H => H d = some (.frz o (.dT kvs)) ∧ kvs.length ≤ i⟩
theorem turn_itemsT {P : Program} {w : World} {K : PySem.W.Frag} {d : Addr} {o : Obj} {es : Array DictEntry} {ep : Nat} {kvs : List (List Key × V)} {elts : List Expr} {kk : Nat} {tpos : Pos} (it : Addr) (hod : o.data = .dict es ep) :
    Turn P w K (.Tuple elts kk tpos) (ItiT d o kvs) [it] it (fun i h => ∃ ok ov, IsItemIter h it d i kvs.length ep ok ov) where
  mem := by simp
  obj := fun i h st b hb => by
    have e : b = it := by simpa using hb
    subst e
    obtain ⟨ok, ov, e⟩ := st
    exact ⟨_, e, fun v z => nomatch z⟩
  keep := fun i h h' st k => let ⟨ok, ov, e⟩ := st; ⟨ok, ov, k it (by simp) _ e⟩
  item := by
    intro X hP hw hK hc i pins s σ H E I hf st hg
    subst hP hw hK
    obtain ⟨hd, hi⟩ := hg
    obtain ⟨hs, hgd, hx, es', ep', hdt, hsz, ent⟩ := frz_items I hd
    obtain ⟨rfl, rfl⟩ := dict_ep hod hdt
    obtain ⟨⟨k, v⟩, hkv⟩ : ∃ p, kvs[i]? = some p := ⟨kvs[i], List.getElem?_eq_getElem hi⟩
    obtain ⟨en, q, hen, hkey, hq, rv⟩ := ent i k v hkv
    obtain ⟨ok, ov, he⟩ := st
    rw [← hsz] at he
    have hlt : it < s.heap.objs.size := Heap.lt_size he
    have hie : i < es'.size := by omega
    have een : es'[i] = en := Option.some.inj ((Array.getElem?_eq_getElem hie).symm.trans hen)
    refine DT.nextI he ⟨o, hgd, hx, hod⟩ hie fun h' ho hT hz hk => ?_
    rw [een] at ho hT
    refine ⟨_, rfl, wpAny_letOwnedTupleGo_items (s := { s with heap := h' }) ho fun h'' he' sb => ?_⟩
    have hT2 : h''.get? s.heap.objs.size = some { cls := .type "tuple", data := .seq #[en.key, en.val] } := (sb.2 _ (Nat.ne_of_gt hlt)).trans hT
    have rk : RelV (.ref q) en.key := by rw [hkey]; exact rfl
    have new : ObjOk X.prog X.w (upd H s.heap.objs.size (.tup [.ref q, v])) h'' s.heap.objs.size (.tup [.ref q, v]) :=
      ⟨by show 2 ≤ sizeLine; decide, [en.key, en.val], .cons rk (.cons rv .nil), ⟨_, hT2, rfl, _, rfl⟩⟩
    have I1 : Inv X pins σ (upd H s.heap.objs.size (.tup [.ref q, v])) { s with heap := h'' } :=
      I.turnedNew (t' := s.toks) (ch := [it]) (fun b ob hb e => (sb.2 b (by simpa using hb)).trans (hk b ob (by simpa using hb) e)) hf (Nat.le_refl _) new
    refine ⟨.ref s.heap.objs.size, _, I1, rfl, ⟨_, k, v, q, hkv, rfl, I.hok.fresh (Nat.le_refl _), hq, rfl⟩, ⟨en.key, en.val, ?_⟩, fun b hb => ?_⟩
    · rw [← hsz]; exact he'
    · have e : b = it := by simpa using hb
      rw [e, upd_ne (Nat.ne_of_lt hlt)]
      exact (hf it (by simp)).1
  done := by
    intro X hP hw hK hc i pins s σ H E I hf st hg
    subst hP hw hK
    obtain ⟨hd, hi⟩ := hg
    obtain ⟨f0, f1, f2, f3, f4, f5⟩ := hf it (by simp)
    obtain ⟨hs, hgd, hx, es', ep', hdt, hsz, ent⟩ := frz_items I hd
    obtain ⟨rfl, rfl⟩ := dict_ep hod hdt
    obtain ⟨ok, ov, he⟩ := st
    rw [← hsz] at he
    exact DT.endI (I.ok.hd hc) he ⟨o, hgd, hx, hod⟩ (by omega) fun h' eb => ⟨rfl, I.turned (t' := s.toks) (fun b ob hb e => eb b ob hb e) f0 f1 f3 f4 f5⟩
  self := fun A i s Q E st h => let ⟨_, _, e⟩ := st; PySem.W.kcp_self e h
def iItemsT (td : TE) : TI := fun σ H R => td σ H fun x H1 => ∃ d o kvs, x = .ref d ∧ H1 d = some (.frz o (.dT kvs)) ∧ R (ItiT d o kvs) H1
theorem pi_itemsT {X : Cx} {e : Expr} {td : TE} {apos cpos : Pos} {elts : List Expr} {kk : Nat} {tpos : Pos} (he : PE X e td) (hbase : attributeBase e "items" X.env (eval e X.env) = eval e X.env := by rfl) (hline : (apos.endLine == cpos.line) = true := by rfl) :
    PI X (.Tuple elts kk tpos) (.Call (.Attribute e "items" apos) [] [] cpos) (iItemsT td) := by
  refine ⟨fun pins s σ H R I h => ?_⟩
  refine wpAny_Call_method (T := "dict") (id := "dict.items") hbase rfl hline F.plainAttrs_dict F.slot_dict_items F.type_dict_items (thn (he.run pins s σ H _ I h) fun u s1 ⟨x, H1, I1, rx, d, o, kvs, ex, hd, q⟩ => ?_)
  subst ex
  obtain rfl : u = Value.ref d := rx
  obtain ⟨hs, hgd, hx, es, ep, hdt, hsz, ent⟩ := frz_items I1 hd
  have raw : DT.Raw s1.heap d es ep := ⟨o, hgd, hx, hdt⟩
  refine ⟨raw.typeIs, fun b e => by cases e; exact ⟨o, hgd, hx.2.1⟩, ?_⟩
  have I2 : Inv X pins σ H1 { s1 with heap := s1.heap.push { cls := .type "dict_items", data := .fields #[.ref d] } } := I1.kept (t' := s1.toks) fun b ob q => Heap.get?_push_of_some _ q
  have fin : wpAny (model X.prog X.w) X.A (pyIter (.ref s1.heap.objs.size)) (PIE X pins σ (.Tuple elts kk tpos) R) X.xe { s1 with heap := s1.heap.push { cls := .type "dict_items", data := .fields #[.ref d] } } := by
    refine DT.iterI (d := d) (es := es) (ep := ep) ⟨_, Heap.get?_push_size _ rfl, rfl, rfl⟩ (raw.push _) (pi_one (tk := s1.toks) I2 _ (turn_itemsT _ hdt) ⟨.none, .none, ?_⟩ q)
    rw [← hsz]
    exact Heap.get?_push_size _ rfl
  show wpAny _ _ (callWith cpos (.builtin "dict.items") [.ref d] [] []) _ X.xe s1
  exact method_meetsIn F.slot_dict_items F.entry_dict_items rfl (PySem.evalArgs_none ⟨rfl, raw.typeIs, F.args_dict_items_1 _, _, DT.meetsItems hs, raw, fin⟩)
theorem walk_itiT {d : Addr} {o : Obj} {kvs : List (List Key × V)} : Walk (ItiT d o kvs) kvs.length (fun H => H d = some (.frz o (.dT kvs))) (fun i H x H' => ∃ T k v q, kvs[i]? = some (k, v) ∧ x = .ref T ∧ H T = none ∧ H q = some (.tup (k.map kV)) ∧ H' = upd H T (.tup [.ref q, v])) :=
  ⟨fun i _ hi q => ⟨q, hi⟩, fun _ q => ⟨q, Nat.le_refl _⟩, fun i H v H' _ q y => y⟩
/-! ### d.clear() -/
def rClearT : V → List V → Hp → VK → Prop := fun x vs H Q => ∃ (a : Addr) (kvs : List (List Key × V)), x = .ref a ∧ vs = [] ∧ H a = some (.dT kvs) ∧ Q .non (upd H a (.dT []))
theorem mt_clearT {X : Cx} : MtR X "dict.clear" rClearT := by
  intro pins s σ H x vs v us Q I rx rv h
  obtain ⟨a, kvs, ex, ev, e, q⟩ := h
  subst ex
  subst ev
  obtain rfl : v = Value.ref a := rx
  have hus := rv.zero
  subst hus
  obtain ⟨z, hd, xs, rel, o, es, ep, ho, hx, hdt, he, _⟩ := dt_of I.hok e
  have raw : s.heap.DictRaw a es ep := ⟨o, ho, hx, hdt⟩
  have hsz : es.size ≤ sizeLine := by
    have l1 : es.size = xs.length := size_of_entries he
    have l2 : kvs.length = xs.length := Paired.length rel
    omega
  refine call_meetsIn PySem.F.slot_dict_clear raw.typeIs PySem.F.entry_dict_clear (PySem.F.args_dict_clear_1 _) (meets_dict_clear_raw a) ⟨es, ep, raw, hsz, fun h' dd' hs => ?_⟩
  obtain ⟨o', ho', hx', hdt'⟩ := dd'
  have new : ObjOk X.prog X.w (upd H a (.dT [])) h' a (.dT []) := ⟨Nat.zero_le _, hd, [], .nil, o', #[], ep + 1, ho', hx', hdt', rfl, .nil⟩
  exact ⟨.non, _, d_write (t' := s.toks) I (by rw [e]; exact True.intro) hs ⟨o', ho'⟩ new, rfl, q⟩
theorem pe_clearT {X : Cx} {o : Expr} {to : TE} {apos cpos : Pos} (ho : PE X o to) (hbase : attributeBase o "clear" X.env (eval o X.env) = eval o X.env := by rfl) (hline : (apos.endLine == cpos.line) = true := by rfl) : PE X (.Call (.Attribute o "clear" apos) [] [] cpos) (tBM0 X.K "dict" rClearT to) :=
  pe_bm0 PySem.F.plainAttrs_dict PySem.F.slot_dict_clear PySem.F.type_dict_clear mt_clearT ho hbase hline
/-! ### two dicts that are keyed by tuples and hold the same -/
section
variable {prog : Program} {w : World} {Ky : Type} [DecidableEq Ky] {knd : HeapKind prog w Ky} {A : Around} {E : Value → Shared → Prop} {s : Shared}
theorem same_keyed {nm : String} {a b : Addr} {xs ys : List (Ky × Addr × Value)} {Q : Bool → Shared → Prop} (ha : (a == sysModules) = false) (hb : (b == sysModules) = false) (hu : knd.room A)
    (da : s.heap.DictOfH knd a xs) (db : s.heap.DictOfH knd b ys) (hl : xs.length = ys.length) (hits : ∀ x ∈ xs, ∃ (j : Nat) (p : Addr × Value), ys[j]? = some (x.1, p) ∧ SeqAt.EqAt A s x.2.2 p.2 true) (h : Q true s) :
    wpAny (model prog w) A (Builtin.Dict.samePairs nm a b) Q E s := by
  obtain ⟨oa, es, ep, hoa, _, hda, hea, hia, _⟩ := da
  obtain ⟨ob, es', ep', hob, _, hdb, heb, hib, hnb⟩ := db
  have la : es.size = xs.length := size_of_entries hea
  have lb : es'.size = ys.length := size_of_entries heb
  have hsz : es.size = es'.size := by omega
  unfold Builtin.Dict.samePairs Builtin.Dict.showsAll
  rw [if_neg (show ¬ (a == sysModules) = true by rw [ha]; exact Bool.false_ne_true), if_neg (show ¬ (b == sysModules) = true by rw [hb]; exact Bool.false_ne_true)]
  refine wpAny_bind (wpAny_pure (wpAny_bind (wpAny_pure ?_)))
  refine wpAny_bind (wpAny_dictEntries hoa hda ?_)
  dsimp only
  refine wpAny_bind (wpAny_dictEntries hob hdb ?_)
  rw [if_neg (by rw [hsz]; simp)]
  refine wpAny_bind (wpAny_dictEpoch hoa hda ?_)
  refine wpAny_bind ?_
  rw [Std.Legacy.Range.forIn_eq_forIn_range']
  simp only [Std.Legacy.Range.size, Nat.sub_zero, Nat.add_sub_cancel, Nat.div_one]
  refine wpAny_forIn_list _ (fun rest q s' => s' = s ∧ q = (none, ()) ∧ ∃ i, rest = List.range' i (es.size - i) ∧ i ≤ es.size) _ ?_ ?_ _ _ ⟨rfl, rfl, 0, by simp, Nat.zero_le _⟩
  · rintro x rest q s' ⟨rfl, rfl, i, hr, hi⟩
    have hlt : i < es.size := by
      rcases Nat.lt_or_ge i es.size with h | h
      · exact h
      · rw [Nat.sub_eq_zero_of_le h] at hr
        simp at hr
    obtain ⟨rfl, hrest⟩ : x = i ∧ rest = List.range' (i + 1) (es.size - (i + 1)) := by
      have e : es.size - i = (es.size - (i + 1)) + 1 := by omega
      rw [e, List.range'_succ] at hr
      injection hr with h1 h2
      exact ⟨h1, h2⟩
    refine wpAny_bind (wpAny_dictEntries hoa hda ?_)
    rw [Array.getElem?_eq_getElem hlt]
    have hlx : x < xs.length := by omega
    have een : es[x] = entryOfKey knd xs[x] := by
      have q := entry_at hea x
      rw [Array.getElem?_eq_getElem hlt, List.getElem?_eq_getElem hlx] at q
      exact Option.some.inj q
    obtain ⟨j, p, hj, eq⟩ := hits xs[x] (List.getElem_mem hlx)
    have kx := hia xs[x] (List.getElem_mem hlx)
    rw [een]
    show wpAny _ _ (holding [_, _] _ >>= _) _ _ _
    refine wpAny_bind (wpAny_holding (wpAny_bind (wpAny_dictFind_heap hu kx hob hdb heb hib hnb (fun no => absurd hj (no j p)) fun j2 p2 hj2 => ?_)))
    have hjl : j2 < es'.size := by
      have := (List.getElem?_eq_some_iff.mp hj2).1
      omega
    have ep2 : p2 = p := by
      have l1 := (List.getElem?_eq_some_iff.mp hj).1
      have l2 := (List.getElem?_eq_some_iff.mp hj2).1
      have e1 := (List.getElem?_eq_some_iff.mp hj).2
      have e2 := (List.getElem?_eq_some_iff.mp hj2).2
      have ee : j2 = j := by
        have pw := List.pairwise_iff_getElem.mp (show (ys.map (·.1)).Pairwise (· ≠ ·) from hnb)
        have m1 : j < (ys.map (·.1)).length := by rw [List.length_map]; exact l1
        have m2 : j2 < (ys.map (·.1)).length := by rw [List.length_map]; exact l2
        have v1 : (ys.map (·.1))[j] = xs[x].1 := by rw [List.getElem_map, e1]
        have v2 : (ys.map (·.1))[j2] = xs[x].1 := by rw [List.getElem_map, e2]
        rcases Nat.lt_trichotomy j2 j with c | c | c
        · exact absurd (v2.trans v1.symm) (pw j2 j m2 m1 c)
        · exact c
        · exact absurd (v1.trans v2.symm) (pw j j2 m1 m2 c)
      subst ee
      have := e1.symm.trans e2
      injection this with _ h2
      exact h2.symm
    subst ep2
    refine wpAny_bind (wpAny_dictEntries hob hdb ?_)
    rw [Array.getElem?_eq_getElem hjl]
    have een' : es'[j2] = entryOfKey knd (xs[x].1, p2) := by
      have q := entry_at heb j2
      rw [Array.getElem?_eq_getElem hjl, hj2] at q
      exact Option.some.inj q
    rw [een']
    refine wpAny_holding (eq prog w _ _ ?_)
    show wpAny _ _ (if (!true) = true then _ else _) _ _ _
    rw [if_neg (by decide)]
    refine wpAny_bind (wpAny_dictEpoch hoa hda ?_)
    rw [if_neg (by simp)]
    exact wpAny_pure ⟨rfl, rfl, x + 1, hrest, hlt⟩
  · rintro q s' ⟨rfl, rfl, i, hr, hi⟩
    exact wpAny_pure h
theorem ne_keyed {a b : Addr} {xs ys : List (Ky × Addr × Value)} {Q : Value → Shared → Prop} (ha : (a == sysModules) = false) (hb : (b == sysModules) = false) (hk : knd.room A.in1)
    (da : s.heap.DictOfH knd a xs) (db : s.heap.DictOfH knd b ys) (hu : A.units < cLine) (hl : xs.length = ys.length) (hits : ∀ x ∈ xs, ∃ (j : Nat) (p : Addr × Value), ys[j]? = some (x.1, p) ∧ SeqAt.EqAt A.in1 s x.2.2 p.2 true) (h : Q (.bool false) s) :
    wpAny (model prog w) A (compareOp .NotEq (.ref a) (.ref b)) Q E s := by
  have ta : s.TypeIs (.ref a) "dict" := let ⟨o, _, _, ho, hx, _⟩ := da; ⟨o, ho, hx.1⟩
  have tb : s.TypeIs (.ref b) "dict" := let ⟨o, _, _, ho, hx, _⟩ := db; ⟨o, ho, hx.1⟩
  refine wpAny_richCompare_same_room (op := .NotEq) ta tb PySem.F.slot_dict_ne (wpAny_call_entry PySem.F.slot_dict_ne ta PySem.F.entry_dict_ne ?_ (PySem.F.args_dict_ne_2 _ _)) hu
  show wpAny _ _ (Builtin.Dict.dictSlotArgs "__ne__" ⟨[.ref a, .ref b], []⟩ >>= _) _ _ s
  refine wpAny_bind ?_
  unfold Builtin.Dict.dictSlotArgs
  refine wpAny_bind (wpAny_notOrdered_dict ta ?_)
  show wpAny _ _ (pure (Value.ref a, Value.ref b)) _ _ s
  refine wpAny_pure ?_
  refine wpAny_bind (wpAny_isInstance (T := "dict") tb PySem.F.sub_dict_dict ?_)
  simp only [Bool.not_true, Bool.false_eq_true, if_false]
  refine wpAny_bind (wpAny_pure (wpAny_bind (wpAny_pure ?_)))
  refine wpAny_bind (same_keyed ha hb hk da db hl hits ?_)
  refine wpAny_pure ⟨_, rfl, ?_, ?_⟩
  · exact fun x => nomatch x
  · simpa using h
end
def rNeT : R2 := fun x y H Q => ∃ a b ks ls, x = .ref a ∧ y = .ref b ∧ H a = some (.dT ks) ∧ H b = some (.dT ls) ∧ ks.length = ls.length ∧ (∀ p ∈ ks, valV ls p.1 = some p.2 ∧ flatB p.2 = true) ∧ Q (.bl false) H
theorem val_at {κ : Type} [DecidableEq κ] : ∀ {kvs : List (κ × V)} {k : κ} {v : V}, valV kvs k = some v → ∃ j : Nat, kvs[j]? = some (k, v)
  | [], _, _, h => by cases h
  | (k', v') :: kvs, k, v, h => by
    by_cases c : k' = k
    · rw [valV_pos (show (k', v').1 = k from c)] at h
      cases h
      exact ⟨0, by rw [c]; rfl⟩
    · rw [valV_neg (show ¬ (k', v').1 = k from c)] at h
      obtain ⟨j, hj⟩ := val_at h
      exact ⟨j + 1, hj⟩
theorem op_neT {X : Cx} (hu : X.A.units + 1 < cLine) : OpR X (compareOp .NotEq) rNeT := by
  intro pins s σ H x y v u Q I rx ry h
  obtain ⟨a, b, ks, ls, rfl, rfl, ea, eb, hlen, hp, q⟩ := h
  obtain rfl : v = Value.ref a := rx
  obtain rfl : u = Value.ref b := ry
  obtain ⟨_, ya, xs, ra, da⟩ := dt_of I.hok ea
  obtain ⟨_, yb, zs, rb, db⟩ := dt_of I.hok eb
  have l1 : ks.length = xs.length := Paired.length ra
  have l2 : ls.length = zs.length := Paired.length rb
  refine ne_keyed ya yb (tupleKind_room_in1 hu) da db (Nat.lt_of_succ_lt hu) (by omega) (fun x hx => ?_) (fin_bl I q rfl)
  obtain ⟨i, hi⟩ := List.getElem?_of_mem hx
  have lt : i < ks.length := by
    have := (List.getElem?_eq_some_iff.mp hi).1
    omega
  have hk : ks[i]? = some ks[i] := List.getElem?_eq_getElem lt
  obtain ⟨x', hx', e1, _, r1⟩ := L2.paired_get ra hk
  have ex : x' = x := Option.some.inj (hx'.symm.trans hi)
  subst ex
  obtain ⟨e, f⟩ := hp _ (List.mem_of_getElem? hk)
  obtain ⟨j, hj⟩ := val_at e
  obtain ⟨z, hz, e2, _, r2⟩ := L2.paired_get rb hj
  refine ⟨j, z.2, ?_, eqAt_same r1 r2 f⟩
  rw [hz, ← e1]
  exact congrArg some (Prod.ext e2.symm rfl)
/-- an empty dict that was to be keyed by tuples is {} -/
def rEqE : R2 := fun x y H Q => ∃ a b, x = .ref a ∧ y = .ref b ∧ H a = some (.dT []) ∧ H b = some (.dK []) ∧ Q (.bl true) H
theorem op_eqE {X : Cx} (hu : X.A.units < cLine) : OpR X (compareOp .Eq) rEqE := by
  intro pins s σ H x y v u Q I rx ry h
  obtain ⟨a, b, rfl, rfl, ea, eb, q⟩ := h
  obtain rfl : v = Value.ref a := rx
  obtain rfl : u = Value.ref b := ry
  obtain ⟨_, ya, xs, ra, o, es, ep, ho, hx, hdt, he, _⟩ := dt_of I.hok ea
  obtain ⟨_, yb, vb, rb, db⟩ := (show ObjOk X.prog X.w H s.heap b (.dK []) from I.hok b _ eb)
  cases ra
  have e0 : es.toList = [] := he
  have ea0 : es = #[] := Array.toList_eq_nil_iff.mp e0
  subst ea0
  have da : s.heap.DictOf (mixKind X.prog X.w) a [] := ⟨o, #[], ep, ho, hx, hdt, fun e hm => absurd hm (by simp), .nil, .nil⟩
  have hb : vb = [] := by
    cases rb
    rfl
  subst hb
  exact PySem.W.keq_eq (knd := mixKind X.prog X.w) (r := true) ya yb da db hu (fun _ => .nil) (fin_bl I q rfl)
end Nm
namespace Nm
open PySem PySem.Spec PyProof.Rows L2 HT
/-! ### t[::-1], t a tuple -/
theorem adjust_rev0 (n : Nat) : Builtin.Slice.sliceAdjust none none (-1) (n : Int) = ((n : Int) - 1, -1) := by
  unfold Builtin.Slice.sliceAdjust
  simp
theorem places_rev0 (n : Nat) : Builtin.Slice.slicePlaces ((n : Int) - 1) (-1) (-1) = n := by
  unfold Builtin.Slice.slicePlaces
  have h1 : ¬ ((-1 : Int) > 0) := by omega
  simp only [h1, if_false]
  split
  · rw [show (- -1 : Int) = 1 by decide, Int.ediv_one]
    omega
  · omega
theorem fmap_some0 {α β : Type} {f : α → Option β} {g : α → β} : ∀ {l : List α}, (∀ m ∈ l, f m = some (g m)) → l.filterMap f = l.map g
  | [], _ => rfl
  | m :: l, h => by
    rw [List.filterMap_cons, h m List.mem_cons_self, List.map_cons]
    show g m :: List.filterMap f l = _
    rw [fmap_some0 fun z hz => h z (List.mem_cons_of_mem _ hz)]
theorem pick_rev0 (xs : Array Value) : ((List.range xs.size).filterMap fun (m : Nat) => xs[(((xs.size : Nat) : Int) - 1 + (m : Int) * -1).toNat]?).toArray = xs.toList.reverse.toArray := by
  congr 1
  apply List.ext_getElem?
  have e : (List.range xs.size).filterMap (fun (m : Nat) => xs[(((xs.size : Nat) : Int) - 1 + (m : Int) * -1).toNat]?) = (List.range xs.size).map fun m => xs.toList.reverse.getD m default := by
    refine fmap_some0 fun m hm => ?_
    have hm := List.mem_range.mp hm
    rw [show (((xs.size : Nat) : Int) - 1 + (m : Int) * -1).toNat = xs.size - 1 - m by omega]
    rw [List.getD_eq_getElem?_getD, List.getElem?_reverse (by rw [Array.length_toList]; exact hm), Array.length_toList, Array.getElem?_toList, Array.getElem?_eq_getElem (by omega)]
    rfl
  intro i
  rw [e, List.getElem?_map]
  by_cases c : i < xs.size
  · rw [List.getElem?_range c, List.getElem?_eq_getElem (by rw [List.length_reverse, Array.length_toList]; exact c)]
    show some (xs.toList.reverse.getD i default) = _
    rw [List.getD_eq_getElem?_getD, List.getElem?_eq_getElem (by rw [List.length_reverse, Array.length_toList]; exact c)]
    rfl
  · rw [List.getElem?_eq_none (by rw [List.length_range]; omega), List.getElem?_eq_none (by rw [List.length_reverse, Array.length_toList]; omega)]
    rfl
section
variable {prog : Program} {w : World} {A : Around} {E : Value → Shared → Prop} {s : Shared}
theorem sliceApplied_rev0 {sl : Addr} {vs : Value} {n : Nat} {Q : Int × Int × Nat → Shared → Prop} (hs : s.heap.IsSliceOf sl .none .none vs) (ps : IsPart vs (some (-1)))
    (h : Q ((n : Int) - 1, -1, n) s) : wpAny (model prog w) A (Builtin.Slice.sliceApplied (.ref sl) (pure (n : Int))) Q E s := by
  obtain ⟨os, hos, hcs, hds⟩ := id hs
  unfold Builtin.Slice.sliceApplied Builtin.Slice.sliceFields
  refine wpAny_bind (wpAny_bind (wpAny_field hos hds (x := .none) rfl (wpAny_bind (wpAny_field hos hds (x := .none) rfl (wpAny_bind (wpAny_field hos hds (x := vs) rfl (wpAny_pure ?_)))))))
  refine wpAny_bind (slicePart_ ps ?_)
  show wpAny _ _ (if ((-1 : Int) == 0) = true then _ else _) _ _ s
  rw [if_neg (by decide)]
  refine wpAny_bind (slicePart_ .none (wpAny_bind (slicePart_ .none (wpAny_bind (wpAny_pure ?_)))))
  show wpAny _ _ (match Builtin.Slice.sliceAdjust none none (-1) (n : Int) with | (lo, hi) => pure (lo, (-1 : Int), Builtin.Slice.slicePlaces lo hi (-1))) _ _ s
  rw [adjust_rev0 n]
  show wpAny _ _ (pure ((n : Int) - 1, (-1 : Int), Builtin.Slice.slicePlaces ((n : Int) - 1) (-1) (-1))) _ _ s
  rw [places_rev0 n]
  exact wpAny_pure h
theorem getItem_tuple_rev0 {t sl : Addr} {items : Array Value} {vs : Value} {Q : Value → Shared → Prop} (ht : IsTup s.heap t items) (hs : s.heap.IsSliceOf sl .none .none vs) (ps : IsPart vs (some (-1)))
    (h : Q (.ref s.heap.objs.size) { s with heap := s.heap.push { cls := .type "tuple", data := .seq items.toList.reverse.toArray } })
    (hsz : items.size ≤ sizeLine) : wpAny (model prog w) A (getItem (.ref t) (.ref sl)) Q E s := by
  have htake : sizeOk (.seq items.toList.reverse.toArray) := by
    show items.toList.reverse.toArray.size ≤ sizeLine
    rw [List.size_toArray, List.length_reverse, Array.length_toList]
    exact hsz
  obtain ⟨os, hos, hcs, hds⟩ := id hs
  have hTs : s.TypeIs (.ref sl) "slice" := ⟨os, hos, hcs⟩
  unfold getItem
  try with_reducible refine wpAny_holding ?_
  first | refine wpAny_bind (wpAny_pure ?_) | skip
  refine wpAny_bind (wpAny_sequenceKey ht.typeIs (by decide) ?_)
  refine wpAny_bind (wpAny_callSpecial?_slot (name := Str.ofString "__getitem__") ht.typeIs PyProof.Rows.slot_tuple_getitem
    (wpAny_call_entry PyProof.Rows.slot_tuple_getitem ht.typeIs entry_tuple_getitem ?_ (args_tuple_getitem _ _)))
  show wpAny _ _ (Builtin.Tuple.tupleItemsOf (.ref t) >>= _) _ _ s
  refine wpAny_bind (tupleItemsOf_ ht ?_)
  refine wpAny_bind (wpAny_typeOf hTs ?_)
  rw [if_pos (by decide)]
  refine wpAny_bind (sliceApplied_rev0 (n := items.size) hs ps ?_)
  have hno : ¬ (((((items.size : Nat) : Int) - 1) == 0 && (-1 : Int) == 1 && items.size == items.size) = true) := by
    intro q
    rw [Bool.and_eq_true, Bool.and_eq_true] at q
    exact absurd q.1.2 (by decide)
  show wpAny _ _ (if ((((items.size : Nat) : Int) - 1) == 0 && (-1 : Int) == 1 && items.size == items.size) = true then _ else _) _ _ s
  rw [if_neg hno, pick_rev0]
  first
    | exact wpAny_bind (m := Builtin.Tuple.tupleExact _) (wpAny_newObj_type (wpAny_pure ⟨_, rfl, wpAny_pure h⟩) htake)
    | exact wpAny_bind (m := Builtin.Tuple.tupleExact _) (wpAny_newObj_type (wpAny_bind (wpAny_pure (wpAny_pure ⟨_, rfl, wpAny_pure h⟩))) htake)
    | exact wpAny_bind (wpAny_bind (m := Builtin.Tuple.tupleExact _) (wpAny_newObj_type (wpAny_pure (wpAny_pure ⟨_, rfl, wpAny_pure h⟩)) htake))
    | exact wpAny_bind (wpAny_bind (m := Builtin.Tuple.tupleExact _) (wpAny_newObj_type (wpAny_pure ⟨_, rfl, wpAny_pure h⟩) htake))
end
variable {X : Cx}
def tRevT0 (K : PySem.W.Frag) (te : TE) : TE := fun σ H Q => te σ H fun x H1 => ∃ a xs, x = .ref a ∧ SqT K H1 a xs ∧ ∀ p, H1 p = none → Q (.ref p) (upd H1 p (.tup xs.reverse))
theorem pe_revT0 {e : Expr} {te : TE} {k : Nat} {p1 p2 p3 pos : Pos} (he : PE X e te) : PE X (.Subscript e (.Slice none none (some (.UnaryOp .USub (.Constant (.int 1) k p1) p2)) p3) pos) (tRevT0 X.K te) := by
  refine ⟨fun pins s σ H Q I h => ?_⟩
  refine Subscript_ (thn (he.run pins s σ H _ I h) fun v s1 ⟨x, H1, I1, r1, q1⟩ => ?_)
  obtain ⟨a, xs, ex, hx, q⟩ := q1
  subst ex
  cases r1
  have hst : PO X (some (.UnaryOp .USub (.Constant (.int 1) k p1) p2)) (tPart (tUn (rU fun i => .int (-i)) (tC (.int 1)))) := po_some (pe_un un_neg pe_int)
  refine wpAny_Slice (thn (po_none.run pins s1 σ H1 (fun o H2 => o = none ∧ H2 = H1) I1 ⟨rfl, rfl⟩) fun vl s2 ⟨l, H2, I2, pl, el, e2⟩ => ?_)
  subst el e2
  refine thn (po_none.run pins s2 σ H2 (fun o H3 => o = none ∧ H3 = H2) I2 ⟨rfl, rfl⟩) fun vu s3 ⟨u, H3, I3, pu, eu, e3⟩ => ?_
  subst eu e3
  refine thn (hst.run pins s3 σ H3 (fun o H4 => o = some (-1) ∧ H4 = H3) I3 ⟨1, rfl, -1, rfl, rfl, rfl⟩) fun vs s4 ⟨o, H4, I4, ps, eo, e4⟩ => ?_
  subst eo e4
  cases pl
  cases pu
  have I5 : Inv X pins σ H4 { s4 with heap := s4.heap.push { cls := .type "slice", data := .fields #[.none, .none, vs] } } := I4.kept (t' := s4.toks) fun b ob q => Heap.get?_push_of_some _ q
  obtain ⟨its, r, ht, hz⟩ := I5.tuple hx
  have hlen := r.length
  show wpAny (model X.prog X.w) X.A (subscriptTail e (.Slice none none (some (.UnaryOp .USub (.Constant (.int 1) k p1) p2)) p3) (.ref a) (.ref s4.heap.objs.size)) (EP X pins σ Q) X.xe { s4 with heap := s4.heap.push { cls := .type "slice", data := .fields #[.none, .none, vs] } }
  refine tail_any (ops := [.ref a, .ref s4.heap.objs.size]) ht.typeIs (PyProof.Rows.slot_tuple_getitem.lookup) ?_ (by with_unfolding_all rfl)
  refine getItem_tuple_rev0 ht (Heap.IsSliceOf.new _ .none .none vs) ps ?_ (by rw [List.size_toArray]; omega)
  refine ⟨.ref _, _, I5.laid (t' := s4.toks) (o := .tup xs.reverse) (fun b ob q => Heap.get?_push_of_some _ q) (Nat.le_refl _) ?_, rfl, q _ (I5.hok.fresh (Nat.le_refl _))⟩
  exact ⟨by rw [List.length_reverse]; exact hz, _, r.reverse, IsTup.new _ _⟩
end Nm
/-! repr(x) in the law's own def: nothing is being shown when the law is asked -/
namespace Nm
open PySem PySem.Spec PyProof.Rows L2
/-- a def that is only asked where nothing is being shown -/
structure FnG (P : Program) (w : World) (K : PySem.W.Frag) (mg : Str → Option Value) (base : Heap) (k : Nat) (f : Addr) (fd : FuncData) (ps : List Str) (sp : Sp) : Prop where
  len : ∀ vs H Q E, sp vs H Q E → vs.length = ps.length
  run : ∀ (A : Around) (outer : List Env) (s : Shared) (H : Hp) (args : Args) (us : List Value) (vs : List V) (Q : VK) (E : XK), A.guards = some [] → Room k A → Env0 P w K mg base A outer s H → BindsTo s fd args (ps.zip us) → Vals vs us → sp vs H Q E → codeAny (model P w) A (.call (.ref f) args) (CR CX0 outer P w H s Q E) s
section
variable {P : Program} {w : World} {K : PySem.W.Frag} {mg : Str → Option Value} {base : Heap}
theorem okG {x qual : Str} {st : Stmt} {f : Addr} {fd : FuncData} {N ps : List Str} {k : Nat} {sp : Sp} (F : Fun K x qual st f fd) (S : FnScope N ps (defScope st)) (len : ∀ vs H Q E, sp vs H Q E → vs.length = ps.length)
    (hbody : ∀ (cdv : Value) (A : Around) (outer : List Env) (s : Shared) (H : Hp) (vs : List V) (Q : VK) (E : XK), A.guards = some [] → Room k (A.deeper (envOfC qual (defScope st) s.heap.objs.size f cdv)) → sp vs H Q E →
      ∃ t, PSs (cxOf CX0 P w K mg base N qual (defScope st) f cdv A outer s H E).nox (defBody st) t ∧ t { nx := fun _ H' => Q .non H', rt := Q } (start N vs) H) : FnG P w K mg base (k + 1) f fd ps sp := by
  obtain ⟨oc, od, kV, doc, pm, an, cdv, ct, osl, rfl, lk, hcd⟩ := F.ex
  refine ⟨len, fun A outer s H args us vs Q E hg hr e0 hb r hsp => ?_⟩
  obtain ⟨t, h, hq⟩ := hbody cdv A outer s H vs Q E hg (hr.deeper _) hsp
  have ht := h.nox
  have hl := len _ _ _ _ hsp
  have old : ∀ b o, base.get? b = some o → s.heap.get? b = some o := fun b o e => (e0.bs b o e).1
  have KX := e0.mod.kin.keeps old
  have lim := e0.mod.nolimit.keeps old
  refine codeAny_call_function hr.depth (KX _ _ lk) rfl S.co S.gen rfl (PySem.W.codeRec_of KX hcd) (hb _ _ _ _ ?_)
  refine wpAny_newFunctionEnv_cells S.kind (fun ⟨n, v⟩ hy => (S.par n (List.of_mem_zip hy).1).imp id fun q => ⟨q, PySem.W.cellsFrom_some _ _ _ (.inl q)⟩) fun env he s1 x1 => ?_
  subst he
  refine ⟨lim.keeps x1.toInCall.keep, codeAny_func ?_⟩
  have I := inv_start (CX := CX0) (P := P) (w := w) (K := K) (mg := mg) (base := base) (E := E) S hr.hd e0 hl r x1
  refine wpAny_mono (ht.run [] s1 (start N vs) H _ I hq) (fun fl s' hs => ?_) fun e s' hs => hs
  cases fl with
  | ret u =>
    obtain ⟨v, σ', H', J, rv, q⟩ := hs
    exact ⟨v, H', J.os, J.bare, J.base, J.hok, rv, q⟩
  | next =>
    obtain ⟨σ', H', J, q⟩ := hs
    exact ⟨V.non, H', J.os, J.bare, J.base, J.hok, rfl, q⟩
  | brk => exact hs.elim fun _ z => z.elim fun _ z => z.2.elim
  | cont => exact hs.elim fun _ z => z.elim fun _ z => z.2.elim
end
section
variable {P : Program} {w : World} {K : PySem.W.Frag} {mg mb : Str → Option Value} {k : Nat} {fa a : Addr} {fd : FuncData} {x : Str} {sp : Sp} {s1 : Shared} {vs : List Value} {ns : List Int}
/-- the law asked at a script, from an abstract heap that tracks the script at most -/
theorem law_fromG {H : Hp} (KX : K.In s1.heap) (hns : s1.heap.Ns mainGlobals mg) (hb : s1.heap.Ns builtinsNs mb) (hbb : ∀ x : Str, x ≠ "__name__" → mb x = bootBuiltins x) (hlim : s1.heap.NoLimit) (hg : s1.gens = #[])
    (ha : s1.heap.get? a = some { cls := .type "list", data := .seq vs.toArray }) (hr : Room k callerA)
    (F : ∀ base : Heap, K.In base → base.Ns mainGlobals mg → FnG P w K mg base k fa fd [x] sp) (hbind : ∀ (s : Shared) (u : Value), BindsTo s fd ⟨[u], []⟩ [(x, u)])
    (hsp : sp [.ref a] H (fun v _ => v = .bl true) fun _ _ _ => False)
    (hO : Only H) (hok : HOk P w H s1.heap) (hA : ∀ b u, H b = some u → b = a) (hK : ∀ u, H a = some u → K.lookup a = none) :
    codeAny (model P w) callerA (.call (.ref fa) ⟨[.ref a], []⟩) (fun r s' => r = .ok (.ret (.bool true)) ∧ OldK s1.heap s'.heap ∧ s'.os = s1.os ∧ AllBare s'.gens) s1 := by
  have hid : ∀ {b : Addr} {o : Obj}, s1.heap.get? b = some o → (b = a → H a = none) → (hidT s1.heap H).get? b = some o := fun {b o} e n => hidT_get e (by
    cases q : H b with
    | none => rfl
    | some u =>
      have e' := hA b u q
      rw [e', n e'] at q
      cases q)
  have space : ∀ {b : Addr} {m : Str → Option Value}, s1.heap.Ns b m → (hidT s1.heap H).Ns b m := fun {b m} ⟨o, es, ep, e, d, r⟩ => ⟨o, es, ep, hid e (fun z => by
    rw [z, ha] at e
    cases e
    exact absurd d (fun w => by cases (show Data.seq vs.toArray _ = Data.dict es ep from w))), d, r⟩
  have kin : K.In (hidT s1.heap H) := fun b o e => hid (KX b o e) (fun z => by
    cases q : H a with
    | none => rfl
    | some u =>
      rw [z, hK u q] at e
      cases e)
  have mod : Mod K mg (hidT s1.heap H) := ⟨kin, space hns, ⟨mb, space hb, hbb⟩, hlim.imp fun _ h => ⟨space h.1, h.2⟩⟩
  have env : Env0 P w K mg (hidT s1.heap H) callerA [] s1 H := ⟨rfl, mod, fun b o e => of_hidT e, Nat.le_of_eq (hidT_size _ _), trivial, fun b z => absurd (show b ∈ ([] : List Addr) from z) (List.not_mem_nil), hok, .of_eq hg⟩
  refine codeAny_mono ((F _ kin (space hns)).run callerA [] s1 H ⟨[.ref a], []⟩ [.ref a] [.ref a] _ _ rfl hr env (hbind s1 (.ref a)) (.cons rfl .nil) hsp) fun r s' h => ?_
  cases r with
  | error e => exact (show False from h).elim
  | ok fl =>
    cases fl with
    | ret u =>
      obtain ⟨v, H', os, bare, un, hok', rv, q⟩ := h
      cases (show v = .bl true from q)
      cases (show u = Value.bool true from rv)
      refine ⟨rfl, OldK.of_keep fun b o e => ?_, os, bare⟩
      rcases hO b with z | ⟨ob, xs, z⟩
      · exact un.keep b o e z (fun w => absurd (show b ∈ ([] : List Addr) from w) (List.not_mem_nil)) (by simp)
      · have e1 := (hok b _ z).1
        have e2 := (hok' b _ (un.frzs b ob _ z)).1
        rw [e] at e1
        cases e1
        exact e2
    | _ => exact False.elim h
theorem law_callG (KX : K.In s1.heap) (hns : s1.heap.Ns mainGlobals mg) (hb : s1.heap.Ns builtinsNs mb) (hbb : ∀ x : Str, x ≠ "__name__" → mb x = bootBuiltins x) (hlim : s1.heap.NoLimit) (hg : s1.gens = #[])
    (ha : s1.heap.get? a = some { cls := .type "list", data := .seq vs.toArray }) (hi : IntsAre vs ns) (hl : ns.length ≤ sizeLine) (hr : Room k callerA)
    (F : ∀ base : Heap, K.In base → base.Ns mainGlobals mg → FnG P w K mg base k fa fd [x] sp) (hbind : ∀ (s : Shared) (u : Value), BindsTo s fd ⟨[u], []⟩ [(x, u)])
    (hsp : ∀ H : Hp, SqL K H a (ns.map V.int) → sp [.ref a] H (fun v _ => v = .bl true) fun _ _ _ => False) :
    codeAny (model P w) callerA (.call (.ref fa) ⟨[.ref a], []⟩) (fun r s' => r = .ok (.ret (.bool true)) ∧ OldK s1.heap s'.heap ∧ s'.os = s1.os ∧ AllBare s'.gens) s1 := by
  have rv := vals_ints hi
  have lv := hi.length
  cases hk : K.lookup a with
  | some o =>
    have e := KX a o hk
    rw [ha] at e
    cases e
    exact law_fromG (H := fun _ => none) KX hns hb hbb hlim hg ha hr F hbind (hsp _ (.inr ⟨_, vs.toArray, _, hk, rfl, rfl, rfl, by rw [List.size_toArray, lv]; exact hl, by simpa using rv⟩)) (fun _ => .inl rfl) (fun b u z => nomatch (show (none : Option HO) = some u from z)) (fun b u z => nomatch (show (none : Option HO) = some u from z)) fun u z => nomatch (show (none : Option HO) = some u from z)
  | none =>
    refine law_fromG (H := upd (fun _ => none) a (.frz { cls := .type "list", data := .seq vs.toArray } (.lst (ns.map V.int)))) KX hns hb hbb hlim hg ha hr F hbind (hsp _ (.inl (.inr ⟨_, upd_same⟩))) (fun b => ?_) (fun b u z => ?_) (fun b u z => ?_) fun _ _ => hk
    · by_cases c : b = a
      · rw [c]
        exact .inr ⟨_, _, upd_same⟩
      · exact .inl (upd_ne c)
    · by_cases c : b = a
      · subst c
        rw [upd_same] at z
        cases z
        exact ⟨ha, by rw [List.length_map]; exact hl, vs, _, rv, ha⟩
      · rw [upd_ne c] at z
        cases z
    · by_cases c : b = a
      · exact c
      · rw [upd_ne c] at z
        cases z
end
theorem walk_ofG {l : PySem.W.OpenLaw} {n k : Nat} {q : Program} {loose : List Str} {XP : (Str → Option Value) → Heap → Prop} {YP : World → Heap → Prop} {d : DefRec} {K : Params → PySem.W.Frag} {sp : World → Sp} {x : Str}
    (hn : l.most = some n) (hn2 : n ≤ sizeLine) (hdf : d.params.defaults = []) (hr : Room k callerA)
    (hY : ∀ (w : World) (h : Heap), YP w h → (K w.params).In h)
    (F : ∀ (w : World) (mg : Str → Option Value) (fa : Addr) (h : Heap), (K w.params).In h → h.Ns mainGlobals mg → mg d.name = some (.ref fa) →
      ∃ fd : FuncData, (∀ (s : Shared) (u : Value), BindsTo s fd ⟨[u], []⟩ [(x, u)]) ∧
        ∀ base : Heap, (K w.params).In base → base.Ns mainGlobals mg → FnG l.prog w (K w.params) mg base k fa fd [x] (sp w))
    (hsp : ∀ (w : World) (H : Hp) (a : Addr) (ns : List Int), SqL (K w.params) H a (ns.map V.int) → sp w [.ref a] H (fun v _ => v = .bl true) fun _ _ _ => False) :
    PySem.W.WalkO q loose XP YP l.row.toRowW d [] (fun f vs => PySem.call f vs) := by
  refine Att.attach_call hn hdf fun w s0 s1 mg mb fa o pm cd doc a vs ns G Y ho hd hcd hmg hobj hints hlen hg => ?_
  have KX := hY w _ Y
  obtain ⟨fd, hb, hF⟩ := F w mg fa _ KX G.T.g hmg
  exact law_callG KX G.T.g G.T.b G.T.builtins G.T.nolimit hg hobj hints (Nat.le_trans hlen hn2) hr hF hb fun H hS => hsp w H a ns hS
/-! ### what is shown -/
def keyD : Key → PyData
  | .inl i => .int i
  | .inr z => .str z
mutual
/-- data at any depth, dicts among them -/
inductive Sh (K : PySem.W.Frag) (H : Hp) : V → PyData → Prop where
  | non : Sh K H .non .none
  | bl (b : Bool) : Sh K H (.bl b) (.bool b)
  | int (i : Int) : Sh K H (.int i) (.int i)
  | str (z : Str) : Sh K H (.str z) (.str z)
  | lst {a : Addr} {xs : List V} {ds : List PyData} : (a == sysModules) = false → SqL K H a xs → ShAll K H xs ds → Sh K H (.ref a) (.list ds)
  | tup {a : Addr} {xs : List V} {ds : List PyData} : SqT K H a xs → ShAll K H xs ds → Sh K H (.ref a) (.tuple ds)
  | dct {a : Addr} {kvs : List (Key × V)} {ps : List (PyData × PyData)} : H a = some (.dK kvs) → ShKv K H kvs ps → Sh K H (.ref a) (.dict ps)
inductive ShAll (K : PySem.W.Frag) (H : Hp) : List V → List PyData → Prop where
  | nil : ShAll K H [] []
  | cons {v : V} {vs : List V} {d : PyData} {ds : List PyData} : Sh K H v d → ShAll K H vs ds → ShAll K H (v :: vs) (d :: ds)
inductive ShKv (K : PySem.W.Frag) (H : Hp) : List (Key × V) → List (PyData × PyData) → Prop where
  | nil : ShKv K H [] []
  | cons {k : Key} {v : V} {kvs : List (Key × V)} {d : PyData} {ps : List (PyData × PyData)} : Sh K H v d → ShKv K H kvs ps → ShKv K H ((k, v) :: kvs) ((keyD k, d) :: ps)
end
section
variable {X : Cx} {pins : List (Addr × Obj)} {σ : L2.St} {H : Hp} {s : Shared}
theorem key_reads {k : Key} {u : Value} (h : keyIs k u = true) : Reads s.heap u (keyD k) [] := by
  rcases keyIs_shape h with ⟨i, tk, ek, eu⟩ | ⟨z, tk, ek, eu⟩
  · rw [ek, eu]
    exact Reads.int i tk
  · rw [ek, eu]
    exact Reads.str z tk
mutual
theorem Sh.reads (I : Inv X pins σ H s) : ∀ (d : PyData) (v : V) (u : Value), Sh X.K H v d → RelV v u → ∃ as, Reads s.heap u d as ∧ sysModules ∉ as
  | .none, _, _, h, r => by
    cases h
    cases r
    exact ⟨_, Reads.none, List.not_mem_nil⟩
  | .bool b, _, _, h, r => by
    cases h
    cases r
    exact ⟨_, Reads.bool b, List.not_mem_nil⟩
  | .int i, _, _, h, r => by
    cases h
    obtain ⟨t, rfl⟩ := r
    exact ⟨_, Reads.int i t, List.not_mem_nil⟩
  | .str z, _, _, h, r => by
    cases h
    obtain ⟨t, rfl⟩ := r
    exact ⟨_, Reads.str z t, List.not_mem_nil⟩
  | .list ds, _, _, h, r => by
    cases h with
    | lst ns hs ha =>
      cases r
      obtain ⟨its, rv, ⟨o, n, ho, hc, _, hd⟩, _⟩ := I.list hs
      obtain ⟨as, hr, na⟩ := ShAll.reads I ds _ its ha rv
      refine ⟨_, Reads.list ho hc hd hr, fun m => ?_⟩
      rcases List.mem_cons.mp m with e | m
      · rw [← e, beq_self_eq_true] at ns
        cases ns
      · exact na m
  | .tuple ds, _, _, h, r => by
    cases h with
    | tup hs ha =>
      cases r
      obtain ⟨its, rv, ⟨o, ho, hc, n, hd⟩, _⟩ := I.tuple hs
      obtain ⟨as, hr, na⟩ := ShAll.reads I ds _ its ha rv
      exact ⟨_, Reads.tuple ho hc hd hr, na⟩
  | .dict ps, _, _, h, r => by
    cases h with
    | dct hd hk =>
      cases r
      obtain ⟨_, ns, vs, rel, o, es, ep, ho, hx, hdt, _, prs, _⟩ := dk_of I.hok hd
      obtain ⟨as, bs, q1, q2, n1, n2⟩ := ShKv.reads I ps _ _ _ hk rel prs
      refine ⟨_, Reads.dict ho hx.1 hdt q1 q2, fun m => ?_⟩
      rcases List.mem_append.mp m with m | m
      · rcases List.mem_cons.mp m with e | m
        · rw [← e, beq_self_eq_true] at ns
          cases ns
        · exact n1 m
      · exact n2 m
theorem ShAll.reads (I : Inv X pins σ H s) : ∀ (ds : List PyData) (vs : List V) (us : List Value), ShAll X.K H vs ds → Vals vs us → ∃ as, ReadsAll s.heap us ds as ∧ sysModules ∉ as
  | [], _, _, h, r => by
    cases h
    cases r
    exact ⟨_, ReadsAll.nil, List.not_mem_nil⟩
  | d :: ds, _, _, h, r => by
    cases h with
    | cons h1 h2 =>
      cases r with
      | cons r1 r2 =>
        obtain ⟨as, q1, n1⟩ := Sh.reads I d _ _ h1 r1
        obtain ⟨bs, q2, n2⟩ := ShAll.reads I ds _ _ h2 r2
        exact ⟨_, ReadsAll.cons q1 q2, fun m => (List.mem_append.mp m).elim n1 n2⟩
theorem ShKv.reads (I : Inv X pins σ H s) : ∀ (ps : List (PyData × PyData)) (kvs : List (Key × V)) (vs : List (Key × Value)) (es : List DictEntry), ShKv X.K H kvs ps → KV kvs vs → Pairs (mixKind X.prog X.w) es vs → ∃ as bs, ReadsAll s.heap (es.map (·.key)) (ps.map (·.1)) as ∧ ReadsAll s.heap (es.map (·.val)) (ps.map (·.2)) bs ∧ sysModules ∉ as ∧ sysModules ∉ bs
  | [], _, _, _, h, r, p => by
    cases h
    cases r
    cases p
    exact ⟨_, _, ReadsAll.nil, ReadsAll.nil, List.not_mem_nil, List.not_mem_nil⟩
  | q :: ps, _, _, _, h, r, p => by
    cases h with
    | cons h1 h2 =>
      cases r with
      | cons r1 r2 =>
        cases p with
        | cons hk hv p2 =>
          obtain ⟨e1, e2⟩ := r1
          rw [← e1] at hk
          obtain ⟨as, q1, n1⟩ := Sh.reads I _ _ _ h1 e2
          obtain ⟨bs, cs, q2, q3, n2, n3⟩ := ShKv.reads I ps _ _ _ h2 r2 p2
          rw [← hv] at q1
          refine ⟨_, _, ReadsAll.cons (key_reads hk) q2, ReadsAll.cons q1 q3, n2, fun m => (List.mem_append.mp m).elim n1 n3⟩
end
end
def rRepr (K : PySem.W.Frag) : List V → Hp → VK → Prop := fun xs H Q => ∃ (a : Addr) (d : PyData), xs = [.ref a] ∧ Sh K H (.ref a) d ∧ d.showable = true ∧ d.shown.length ≤ sizeLine ∧ d.depth ≤ 40 ∧ Q (.str d.shown) H
theorem call_repr {X : Cx} (hg : X.A.guards = some []) (hu : X.A.units + 64 < cLine) : CallR X (.builtin "repr") (rRepr X.K) := by
  intro pins s σ H xs us Q I r h
  obtain ⟨a, d, rfl, hsh, hs, hz, hd, q⟩ := h
  cases r with
  | cons r1 r2 =>
    cases r2
    cases r1
    obtain ⟨as, rd, ns⟩ := Sh.reads I d _ _ hsh rfl
    exact repr_of_reads' rd hs (fun _ => ns) hg (by omega) (fun _ _ e => e) (fun h' u tk hk => ⟨.str d.shown, H, I.kept (t' := tk) hk, ⟨u, rfl⟩, q⟩) hz
end Nm
/-! repr(x) of whatever x is: data of any kind -/
namespace Nm
open PySem PySem.Spec PyProof.Rows L2
/-- small enough to be shown -/
structure Shd (d : PyData) (w dep : Nat) : Prop where
  sh : d.showable = true
  lv : d.leavesShort 13 = true
  wt : d.weight ≤ w
  dp : d.depth ≤ dep
theorem Shd.more {d : PyData} {w dep w' dep' : Nat} (h : Shd d w dep) (hw : w ≤ w') (hd : dep ≤ dep') : Shd d w' dep' := ⟨h.sh, h.lv, Nat.le_trans h.wt hw, Nat.le_trans h.dp hd⟩
theorem shd_non (w dep : Nat) : Shd .none w dep := ⟨rfl, rfl, Nat.zero_le _, by simp [PyData.depth]⟩
theorem shd_bl (b : Bool) (w dep : Nat) : Shd (.bool b) w dep := ⟨rfl, rfl, Nat.zero_le _, by simp [PyData.depth]⟩
theorem shd_int {i : Int} (h : i.natAbs < 10 ^ 12) (dep : Nat) : Shd (.int i) 40 dep := by
  have lg : i.natAbs.log2 < 40 := by
    by_cases z : i.natAbs = 0
    · rw [z]; decide
    · exact (Nat.log2_lt z).mpr (Nat.lt_trans h (by decide))
  refine ⟨?_, ?_, ?_, by simp [PyData.depth]⟩
  · show decide (i.natAbs.log2 < 1920) = true
    exact decide_eq_true (by omega)
  · show decide ((PyData.shown (.int i)).length ≤ 13) = true
    exact decide_eq_true (PyData.shown_int_le h)
  · show (if i == 0 then 0 else i.natAbs.log2 + 1) ≤ 40
    split <;> omega
theorem shd_str {z : Str} {m : Nat} (h : z.cps.toList.all (fun c => decide (c < 16 ^ 8)) = true) (l : z.length ≤ m) (dep : Nat) : Shd (.str z) m dep := ⟨rfl, h, l, by simp [PyData.depth]⟩
theorem shd_all {w dep : Nat} : ∀ {ds : List PyData}, (∀ x ∈ ds, Shd x w dep) → PyData.showableAll ds = true ∧ PyData.leavesShortAll 13 ds = true ∧ PyData.weightAll ds ≤ ds.length * (w + 1) ∧ PyData.depthAll ds ≤ dep
  | [], _ => ⟨rfl, rfl, Nat.zero_le _, by simp [PyData.depthAll]⟩
  | d :: ds, h => by
    obtain ⟨a1, a2, a3, a4⟩ := h d List.mem_cons_self
    obtain ⟨b1, b2, b3, b4⟩ := shd_all (ds := ds) fun x hx => h x (List.mem_cons_of_mem _ hx)
    refine ⟨?_, ?_, ?_, ?_⟩
    · rw [PyData.showableAll, a1, b1]; rfl
    · rw [PyData.leavesShortAll, a2, b2]; rfl
    · rw [PyData.weightAll, List.length_cons, Nat.succ_mul]; omega
    · rw [PyData.depthAll]; omega
theorem shd_tup {w dep : Nat} {ds : List PyData} (h : ∀ x ∈ ds, Shd x w dep) : Shd (.tuple ds) (ds.length * (w + 1)) (dep + 1) := by
  obtain ⟨b1, b2, b3, b4⟩ := shd_all h
  exact ⟨by rw [PyData.showable, b1], by rw [PyData.leavesShort, b2], by rw [PyData.weight]; exact b3, by rw [PyData.depth]; omega⟩
theorem shd_lst {w dep : Nat} {ds : List PyData} (h : ∀ x ∈ ds, Shd x w dep) : Shd (.list ds) (ds.length * (w + 1)) (dep + 1) := by
  obtain ⟨b1, b2, b3, b4⟩ := shd_all h
  exact ⟨by rw [PyData.showable, b1], by rw [PyData.leavesShort, b2], by rw [PyData.weight]; exact b3, by rw [PyData.depth]; omega⟩
theorem shd_dct (w : Nat) (dep : Nat) : Shd (.dict []) w (dep + 1) := ⟨by simp [PyData.showable, PyData.showableKv], by simp [PyData.leavesShort, PyData.leavesShortKv], by simp [PyData.weight, PyData.weightKv], by simp [PyData.depth, PyData.depthKv]⟩
theorem Shd.fits {d : PyData} {w dep : Nat} (h : Shd d w dep) (hw : w ≤ 1000000) : d.shown.length ≤ sizeLine := PyData.shown_fits (by decide) (Nat.le_refl 13) h.lv (Nat.le_trans h.wt (Nat.le_trans hw (by decide)))
/-- the text that repr tells -/
def textOf : PyData → Str
  | .none => "None"
  | .bool b => if b then "True" else "False"
  | .int i => (toString i : String)
  | .str x => reprText x
  | d => d.shown
def rReprA (K : PySem.W.Frag) : List V → Hp → VK → Prop := fun xs H Q => ∃ (v : V) (d : PyData) (w : Nat), xs = [v] ∧ (Sh K H v d ∨ Dp K H v d ∧ d.hasDict = false) ∧ Shd d w 40 ∧ w ≤ 1000000 ∧ Q (.str (textOf d)) H
theorem call_reprA {X : Cx} (hg : X.A.guards = some []) (hu : X.A.units + 64 < cLine) : CallR X (.builtin "repr") (rReprA X.K) := by
  intro pins s σ H xs us Q I r h
  obtain ⟨v, d, w, rfl, hsh, hs, hw, q⟩ := h
  have fit := hs.fits hw
  have lim : X.A.units + (d.depth + 1) < cLine := by have := hs.dp; omega
  cases r with
  | cons r1 r2 =>
    rename_i u us
    cases r2
    have big : ∀ {a : Addr} {as : List Addr}, v = .ref a → Reads s.heap u d as → (d.hasDict = true → sysModules ∉ as) → textOf d = d.shown → wpAny (model X.prog X.w) X.A (call (.builtin "repr") [u]) (EP X pins σ Q) X.xe s := by
      intro a as ev rd ns et
      subst ev
      obtain rfl : u = .ref a := r1
      refine repr_of_reads' rd hs.sh ns hg lim (fun _ _ e => e) (fun h' u tk hk => ⟨.str d.shown, H, I.kept (t' := tk) hk, ⟨u, rfl⟩, by rw [← et]; exact q⟩) fit
    have small : (v = .non ∧ d = .none) ∨ (∃ b, v = .bl b ∧ d = .bool b) ∨ (∃ i, v = .int i ∧ d = .int i) ∨ (∃ z, v = .str z ∧ d = .str z) ∨ (∃ a, v = .ref a ∧ textOf d = d.shown) := by
      rcases hsh with h | ⟨h, _⟩
      · cases h with
        | non => exact .inl ⟨rfl, rfl⟩
        | bl b => exact .inr (.inl ⟨b, rfl, rfl⟩)
        | int i => exact .inr (.inr (.inl ⟨i, rfl, rfl⟩))
        | str z => exact .inr (.inr (.inr (.inl ⟨z, rfl, rfl⟩)))
        | _ => exact .inr (.inr (.inr (.inr ⟨_, rfl, rfl⟩)))
      · cases h with
        | non => exact .inl ⟨rfl, rfl⟩
        | bl b => exact .inr (.inl ⟨b, rfl, rfl⟩)
        | int i => exact .inr (.inr (.inl ⟨i, rfl, rfl⟩))
        | str z => exact .inr (.inr (.inr (.inl ⟨z, rfl, rfl⟩)))
        | _ => exact .inr (.inr (.inr (.inr ⟨_, rfl, rfl⟩)))
    rcases small with ⟨rfl, rfl⟩ | ⟨b, rfl, rfl⟩ | ⟨i, rfl, rfl⟩ | ⟨z, rfl, rfl⟩ | ⟨a, rfl, et⟩
    · cases r1
      exact PySem.P.repr_of_none ⟨.str "None", H, I.tok _, ⟨_, rfl⟩, q⟩
    · cases r1
      refine PySem.P.repr_of_bool ⟨.str (if b then "True" else "False"), H, I.tok _, ⟨s.toks, ?_⟩, q⟩
      cases b <;> rfl
    · obtain ⟨t, rfl⟩ := r1
      exact PySem.P.repr_of_int (of_decide_eq_true hs.sh) ⟨.str (toString i : String), H, I.tok _, ⟨_, rfl⟩, q⟩
    · obtain ⟨t, rfl⟩ := r1
      exact PySem.P.repr_of_str ⟨.str (reprText z), H, I.tok _, ⟨_, rfl⟩, q⟩ (by simpa only [PyData.shown] using fit)
    · rcases hsh with h | ⟨h, nd⟩
      · obtain ⟨as, rd, ns⟩ := Sh.reads I _ _ _ h r1
        exact big rfl rd (fun _ => ns) et
      · obtain ⟨as, rd⟩ := Dp.reads I _ _ _ h r1
        exact big rfl rd (PyData.noDict_hsm nd) et
theorem rd_same {H H' : Hp} (g : Same H H') {a : Addr} {u : HO} (h : Rd H a u) : Rd H' a u := by
  rcases h with h | ⟨o, h⟩
  · exact .inl (g _ _ h)
  · exact .inr ⟨o, g _ _ h⟩
theorem sql_same {K : PySem.W.Frag} {H H' : Hp} (g : Same H H') {a : Addr} {xs : List V} (h : SqL K H a xs) : SqL K H' a xs := h.imp (rd_same g) id
theorem sqt_same {K : PySem.W.Frag} {H H' : Hp} (g : Same H H') {a : Addr} {xs : List V} (h : SqT K H a xs) : SqT K H' a xs := h.imp (rd_same g) id
mutual
theorem Sh.mono {K : PySem.W.Frag} {H H' : Hp} (g : Same H H') : ∀ (d : PyData) (v : V), Sh K H v d → Sh K H' v d
  | .none, _, h => by cases h; exact .non
  | .bool b, _, h => by cases h; exact .bl b
  | .int i, _, h => by cases h; exact .int i
  | .str z, _, h => by cases h; exact .str z
  | .list ds, _, h => by
    cases h with
    | lst n h1 h2 => exact .lst n (sql_same g h1) (ShAll.mono g ds _ h2)
  | .tuple ds, _, h => by
    cases h with
    | tup h1 h2 => exact .tup (sqt_same g h1) (ShAll.mono g ds _ h2)
  | .dict ps, _, h => by
    cases h with
    | dct h1 h2 => exact .dct (g _ _ h1) (ShKv.mono g ps _ h2)
theorem ShAll.mono {K : PySem.W.Frag} {H H' : Hp} (g : Same H H') : ∀ (ds : List PyData) (vs : List V), ShAll K H vs ds → ShAll K H' vs ds
  | [], _, h => by cases h; exact .nil
  | d :: ds, _, h => by
    cases h with
    | cons h1 h2 => exact .cons (Sh.mono g d _ h1) (ShAll.mono g ds _ h2)
theorem ShKv.mono {K : PySem.W.Frag} {H H' : Hp} (g : Same H H') : ∀ (ps : List (PyData × PyData)) (kvs : List (Key × V)), ShKv K H kvs ps → ShKv K H' kvs ps
  | [], _, h => by cases h; exact .nil
  | p :: ps, _, h => by
    cases h with
    | cons h1 h2 => exact .cons (Sh.mono g _ _ h1) (ShKv.mono g ps _ h2)
end
mutual
theorem dp_mono {K : PySem.W.Frag} {H H' : Hp} (g : Same H H') : ∀ (d : PyData) (v : V), Dp K H v d → Dp K H' v d
  | .none, _, h => by cases h; exact .non
  | .bool b, _, h => by cases h; exact .bl b
  | .int i, _, h => by cases h; exact .int i
  | .str z, _, h => by cases h; exact .str z
  | .list ds, _, h => by
    cases h with
    | lst h1 h2 => exact .lst (sql_same g h1) (dpAll_mono g ds _ h2)
  | .tuple ds, _, h => by
    cases h with
    | tup h1 h2 => exact .tup (sqt_same g h1) (dpAll_mono g ds _ h2)
  | .dict ps, _, h => by cases h
theorem dpAll_mono {K : PySem.W.Frag} {H H' : Hp} (g : Same H H') : ∀ (ds : List PyData) (vs : List V), DpAll K H vs ds → DpAll K H' vs ds
  | [], _, h => by cases h; exact .nil
  | d :: ds, _, h => by
    cases h with
    | cons h1 h2 => exact .cons (dp_mono g d _ h1) (dpAll_mono g ds _ h2)
end
/-- what is shown as it stands -/
def Seen (K : PySem.W.Frag) (H : Hp) (v : V) (d : PyData) : Prop := (Sh K H v d ∨ Dp K H v d ∧ d.hasDict = false) ∧ ∃ w, Shd d w 40 ∧ w ≤ 1000000
theorem Seen.same {K : PySem.W.Frag} {H H' : Hp} {v : V} {d : PyData} (h : Seen K H v d) (g : Same H H') : Seen K H' v d := ⟨h.1.imp (Sh.mono g d v) (fun z => ⟨dp_mono g d v z.1, z.2⟩), h.2⟩
end Nm
namespace Nm
open PySem PySem.Spec PyProof.Rows L2 NmD
/-! ### a thing of any kind: what stands at a value, whatever it is -/
/-- what the text says of a class whose things are no tuple, no text, no number -/
structure HallC (K : PySem.W.Frag) (C : Addr) : Prop where
  cl : Cls K C
  ha : PySem.W.findIn K (.ref C) "__class__" = some (some (.builtin "object.__class__"))
  hn : PySem.W.specialIn K (.builtin "object.__class__") "__get__" = some (some (.builtin "getset_descriptor.__get__"))
  htk : PySem.W.takesIn K (.builtin "object.__class__") = some true
  hm : PySem.W.mroIn K C (.type "object") = some true
  kt : PySem.W.kitOne K (.ref C) (.type "tuple") = some false
  ks : PySem.W.kitOne K (.ref C) (.type "str") = some false
  ki : PySem.W.kitOne K (.ref C) (.type "int") = some false
  kb : PySem.W.kitOne K (.ref C) (.type "bool") = some false
mutual
inductive At (K : PySem.W.Frag) (tp : Addr) (H : Hp) : V → PyData → Prop
  | non : At K tp H .non .none
  | bl (b : Bool) : At K tp H (.bl b) (.bool b)
  | int (i : Int) : At K tp H (.int i) (.int i)
  | str (z : Str) (l : z.length ≤ 1000) : At K tp H (.str z) (.str z)
  | tup {a : Addr} {xs : List V} {ds : List PyData} : H a = some (.tup xs) → AtAll K tp H xs ds → At K tp H (.ref a) (.tuple ds)
  | lst {a : Addr} {xs : List V} {ds : List PyData} : a ≠ tp → H a = some (.lst xs) → AtAll K tp H xs ds → At K tp H (.ref a) (.list ds)
  | dct {a : Addr} {kvs : List (Key × V)} : H a = some (.dK kvs) → At K tp H (.ref a) (.dict [])
  | own {a C dx : Addr} {fs : List (Str × V)} : HallC K C → H a = some (.ins C dx fs) → At K tp H (.ref a) (.dict [])
inductive AtAll (K : PySem.W.Frag) (tp : Addr) (H : Hp) : List V → List PyData → Prop
  | nil : AtAll K tp H [] []
  | cons {v : V} {vs : List V} {d : PyData} {ds : List PyData} : At K tp H v d → AtAll K tp H vs ds → AtAll K tp H (v :: vs) (d :: ds)
end
mutual
theorem At.same {K : PySem.W.Frag} {tp : Addr} {H H' : Hp} (g : Same H H') : ∀ (d : PyData) (v : V), At K tp H v d → At K tp H' v d
  | .none, _, h => by
    cases h
    exact .non
  | .bool b, _, h => by
    cases h
    exact .bl b
  | .int i, _, h => by
    cases h
    exact .int i
  | .str z, _, h => by
    cases h with
    | str _ l => exact .str z l
  | .tuple ds, _, h => by
    cases h with
    | tup h1 h2 => exact .tup (g _ _ h1) (AtAll.same g ds _ h2)
  | .list ds, _, h => by
    cases h with
    | lst n h1 h2 => exact .lst n (g _ _ h1) (AtAll.same g ds _ h2)
  | .dict ks, _, h => by
    cases h with
    | dct h1 => exact .dct (g _ _ h1)
    | own k h1 => exact .own k (g _ _ h1)
theorem AtAll.same {K : PySem.W.Frag} {tp : Addr} {H H' : Hp} (g : Same H H') : ∀ (ds : List PyData) (vs : List V), AtAll K tp H vs ds → AtAll K tp H' vs ds
  | [], _, h => by
    cases h
    exact .nil
  | d :: ds, _, h => by
    cases h with
    | cons h1 h2 => exact .cons (At.same g d _ h1) (AtAll.same g ds _ h2)
end
mutual
theorem At.mov {K : PySem.W.Frag} {tp : Addr} {H H' : Hp} (g : Mov tp H H') (ok : ∀ xs, H tp ≠ some (.tup xs)) (ok2 : ∀ ks, H tp ≠ some (.dK ks)) (ok3 : ∀ C dx fs, H tp ≠ some (.ins C dx fs)) : ∀ (d : PyData) (v : V), At K tp H v d → At K tp H' v d
  | .none, _, h => by
    cases h
    exact .non
  | .bool b, _, h => by
    cases h
    exact .bl b
  | .int i, _, h => by
    cases h
    exact .int i
  | .str z, _, h => by
    cases h with
    | str _ l => exact .str z l
  | .tuple ds, _, h => by
    cases h with
    | tup h1 h2 => exact .tup (g _ _ h1 fun e => ok _ (e ▸ h1)) (AtAll.mov g ok ok2 ok3 ds _ h2)
  | .list ds, _, h => by
    cases h with
    | lst n h1 h2 => exact .lst n (g _ _ h1 n) (AtAll.mov g ok ok2 ok3 ds _ h2)
  | .dict ks, _, h => by
    cases h with
    | dct h1 => exact .dct (g _ _ h1 fun e => ok2 _ (e ▸ h1))
    | own k h1 => exact .own k (g _ _ h1 fun e => ok3 _ _ _ (e ▸ h1))
theorem AtAll.mov {K : PySem.W.Frag} {tp : Addr} {H H' : Hp} (g : Mov tp H H') (ok : ∀ xs, H tp ≠ some (.tup xs)) (ok2 : ∀ ks, H tp ≠ some (.dK ks)) (ok3 : ∀ C dx fs, H tp ≠ some (.ins C dx fs)) : ∀ (ds : List PyData) (vs : List V), AtAll K tp H vs ds → AtAll K tp H' vs ds
  | [], _, h => by
    cases h
    exact .nil
  | d :: ds, _, h => by
    cases h with
    | cons h1 h2 => exact .cons (At.mov g ok ok2 ok3 d _ h1) (AtAll.mov g ok ok2 ok3 ds _ h2)
end
/-- a thing apart from the tape stays when the tape is turned on -/
theorem At.tape {K : PySem.W.Frag} {tp l : Addr} {H H' : Hp} {d : PyData} {v : V} (h : At K tp H v d) (t : TapeAt H tp l) (g : Mov tp H H') : At K tp H' v d := by
  obtain ⟨ns, i, c, m, n, hT, _⟩ := t
  exact At.mov g (fun xs e => by rw [hT] at e; cases e) (fun ks e => by rw [hT] at e; cases e) (fun C dx fs e => by rw [hT] at e; cases e) d v h
theorem atAll_paired {K : PySem.W.Frag} {tp : Addr} {H : Hp} : ∀ {vs : List V} {ds : List PyData}, AtAll K tp H vs ds → Paired (At K tp H) vs ds
  | [], _, h => by
    cases h
    exact .nil
  | v :: vs, _, h => by
    cases h with
    | cons h1 h2 => exact .cons h1 (atAll_paired h2)
theorem paired_atAll {K : PySem.W.Frag} {tp : Addr} {H : Hp} : ∀ {vs : List V} {ds : List PyData}, Paired (At K tp H) vs ds → AtAll K tp H vs ds
  | _, _, .nil => .nil
  | _, _, .cons h t => .cons h (paired_atAll t)
/-- an int that is no flag -/
def intD : PyData → Bool
  | .int _ => true
  | _ => false
theorem At.tyi {K : PySem.W.Frag} {tp : Addr} {H : Hp} {v : V} {d : PyData} (h : At K tp H v d) : TyI K H v := by
  cases h with
  | non => exact ⟨false, false, ⟨_, .base .non, kit_ty (by decide +kernel)⟩, ⟨_, .base .non, kit_ty (by decide +kernel)⟩, rfl⟩
  | bl b => exact ⟨true, true, ⟨_, .base (.bl b), kit_ty (by decide +kernel)⟩, ⟨_, .base (.bl b), kit_ty (by decide +kernel)⟩, rfl⟩
  | int i => exact tyi_int i
  | str z _ => exact tyi_str z
  | tup h _ => exact tyi_tup h
  | lst _ h _ => exact ⟨false, false, ⟨_, .base (.lst h), kit_ty (by decide +kernel)⟩, ⟨_, .base (.lst h), kit_ty (by decide +kernel)⟩, rfl⟩
  | dct h => exact ⟨false, false, ⟨_, .base (.dK h), kit_ty (by decide +kernel)⟩, ⟨_, .base (.dK h), kit_ty (by decide +kernel)⟩, rfl⟩
  | own k h => exact ⟨false, false, ⟨_, .base (.ins h k.cl k.ha k.hn k.htk k.hm), k.ki⟩, ⟨_, .base (.ins h k.cl k.ha k.hn k.htk k.hm), k.kb⟩, rfl⟩
/-! ### the judgements -/
def letD (d : PyData) (most : Int) : Bool := match d with
  | .str z => letB z most
  | _ => false
def intIn (d : PyData) (lo hi : Int) : Bool := match d with
  | .int n => decide (lo ≤ n) && decide (n ≤ hi)
  | _ => false
def rowsD (d : PyData) (most : Int) : Bool := match d with
  | .tuple ds => decide ((ds.length : Int) ≤ most) && ds.all (fun e => letD e 20)
  | _ => false
def boardD (d : PyData) : Bool := match d with
  | .tuple [n, s, r] => letD n 8 && (intIn s 0 1 && rowsD r 20)
  | _ => false
theorem At.within {K : PySem.W.Frag} {tp : Addr} {H : Hp} {v : V} {d : PyData} (h : At K tp H v d) (lo hi : Int) : Nm.within v lo hi = intIn d lo hi := by
  cases h <;> rfl
theorem strOr {K : PySem.W.Frag} {tp : Addr} {H : Hp} {v : V} {d : PyData} (h : At K tp H v d) : (∃ z, v = .str z ∧ d = .str z ∧ z.length ≤ 1000) ∨ ((∃ t, TyX K H v t ∧ PySem.W.kitOne K t (.type "str") = some false) ∧ ∀ m, letD d m = false) := by
  cases h with
  | str z l => exact .inl ⟨z, rfl, rfl, l⟩
  | non => exact .inr ⟨⟨_, .base .non, kit_ty (a := "NoneType") (b := "str") (by decide +kernel)⟩, fun _ => rfl⟩
  | bl b => exact .inr ⟨⟨_, .base (.bl b), kit_ty (a := "bool") (b := "str") (by decide +kernel)⟩, fun _ => rfl⟩
  | int i => exact .inr ⟨⟨_, .base (.int i), kit_ty (a := "int") (b := "str") (by decide +kernel)⟩, fun _ => rfl⟩
  | tup h _ => exact .inr ⟨⟨_, .base (.tup h), kit_ty (a := "tuple") (b := "str") (by decide +kernel)⟩, fun _ => rfl⟩
  | lst _ h _ => exact .inr ⟨⟨_, .base (.lst h), kit_ty (a := "list") (b := "str") (by decide +kernel)⟩, fun _ => rfl⟩
  | dct h => exact .inr ⟨⟨_, .base (.dK h), kit_ty (a := "dict") (b := "str") (by decide +kernel)⟩, fun _ => rfl⟩
  | own k h => exact .inr ⟨⟨_, .base (.ins h k.cl k.ha k.hn k.htk k.hm), k.ks⟩, fun _ => rfl⟩
theorem tupOr {K : PySem.W.Frag} {tp : Addr} {H : Hp} {v : V} {d : PyData} (h : At K tp H v d) : (∃ a xs ds, v = .ref a ∧ d = .tuple ds ∧ H a = some (.tup xs) ∧ Paired (At K tp H) xs ds) ∨ ((∃ t, TyX K H v t ∧ PySem.W.kitOne K t (.type "tuple") = some false) ∧ ∀ ds, d ≠ .tuple ds) := by
  cases h with
  | tup h1 h2 => exact .inl ⟨_, _, _, rfl, rfl, h1, atAll_paired h2⟩
  | str z l => exact .inr ⟨⟨_, .base (.str z), kit_ty (a := "str") (b := "tuple") (by decide +kernel)⟩, fun _ e => nomatch e⟩
  | non => exact .inr ⟨⟨_, .base .non, kit_ty (a := "NoneType") (b := "tuple") (by decide +kernel)⟩, fun _ e => nomatch e⟩
  | bl b => exact .inr ⟨⟨_, .base (.bl b), kit_ty (a := "bool") (b := "tuple") (by decide +kernel)⟩, fun _ e => nomatch e⟩
  | int i => exact .inr ⟨⟨_, .base (.int i), kit_ty (a := "int") (b := "tuple") (by decide +kernel)⟩, fun _ e => nomatch e⟩
  | lst _ h _ => exact .inr ⟨⟨_, .base (.lst h), kit_ty (a := "list") (b := "tuple") (by decide +kernel)⟩, fun _ e => nomatch e⟩
  | dct h => exact .inr ⟨⟨_, .base (.dK h), kit_ty (a := "dict") (b := "tuple") (by decide +kernel)⟩, fun _ e => nomatch e⟩
  | own k h => exact .inr ⟨⟨_, .base (.ins h k.cl k.ha k.hn k.htk k.hm), k.kt⟩, fun _ e => nomatch e⟩
theorem rowsD_no {d : PyData} (h : ∀ ds, d ≠ .tuple ds) (m : Int) : rowsD d m = false := by
  cases d with
  | tuple ds => exact absurd rfl (h ds)
  | _ => rfl
theorem boardD_no {d : PyData} (h : ∀ ds, d ≠ .tuple ds) : boardD d = false := by
  cases d with
  | tuple ds => exact absurd rfl (h ds)
  | _ => rfl
theorem boardD_len {ds : List PyData} (h : ds.length ≠ 3) : boardD (.tuple ds) = false := by
  match ds, h with
  | [], _ => rfl
  | [_], _ => rfl
  | [_, _], _ => rfl
  | [_, _, _], h => exact absurd rfl h
  | _ :: _ :: _ :: _ :: _, _ => rfl
/-- how many things stand in it at most -/
def small (d : PyData) : Bool := match d with
  | .tuple ds => decide (ds.length ≤ 1000)
  | _ => true
/-! ### right boards, read off -/
def strOfD (d : PyData) : Str := match d with
  | .str z => z
  | _ => Str.empty
def intOfD (d : PyData) : Int := match d with
  | .int i => i
  | _ => 0
def wsOfD (d : PyData) : List Str := match d with
  | .tuple ds => ds.map strOfD
  | _ => []
def bdOfD (d : PyData) : Bd := match d with
  | .tuple [n, s, r] => (strOfD n, intOfD s, wsOfD r)
  | _ => (Str.empty, 0, [])
def bdsOfD (d : PyData) : List Bd := match d with
  | .tuple ds => ds.map bdOfD
  | _ => []
theorem let_at {K : PySem.W.Frag} {tp : Addr} {H : Hp} {v : V} {d : PyData} {m : Int} (h : At K tp H v d) (l : letD d m = true) : v = .str (strOfD d) ∧ letB (strOfD d) m = true ∧ (strOfD d).length ≤ 1000 := by
  rcases strOr h with ⟨z, rfl, rfl, hz⟩ | ⟨_, no⟩
  · exact ⟨rfl, l, hz⟩
  · rw [no m] at l
    cases l
theorem row_at {K : PySem.W.Frag} {tp : Addr} {H : Hp} : ∀ {xs : List V} {ds : List PyData}, Paired (At K tp H) xs ds → ds.all (fun e => letD e 20) = true → xs = (ds.map strOfD).map V.str ∧ (ds.map strOfD).all (fun z => letB z 20) = true ∧ ∀ z ∈ ds.map strOfD, z.length ≤ 1000
  | _, _, .nil, _ => ⟨rfl, rfl, fun z hz => absurd hz (List.not_mem_nil)⟩
  | _, _, .cons (a := x) (b := d) h t, l => by
    rw [List.all_cons, Bool.and_eq_true] at l
    obtain ⟨e, l1, l2⟩ := let_at h l.1
    obtain ⟨e2, l3, l4⟩ := row_at t l.2
    refine ⟨by rw [List.map_cons, List.map_cons, ← e2, ← e], by rw [List.map_cons, List.all_cons, l1, l3]; rfl, fun z hz => ?_⟩
    rw [List.map_cons] at hz
    rcases List.mem_cons.mp hz with rfl | hz
    · exact l2
    · exact l4 z hz
theorem board_at {K : PySem.W.Frag} {tp : Addr} {H : Hp} {v : V} {d : PyData} (h : At K tp H v d) (b : boardD d = true) : BoardAt H v (bdOfD d) ∧ okB (bdOfD d) := by
  rcases tupOr h with ⟨a, xs, ds, rfl, rfl, ha, pr⟩ | ⟨_, no⟩
  rotate_left
  · rw [boardD_no no] at b
    cases b
  by_cases c : ds.length = 3
  rotate_left
  · rw [boardD_len c] at b
    cases b
  obtain ⟨d1, d2, d3, rfl⟩ : ∃ d1 d2 d3, ds = [d1, d2, d3] := by
    match ds, c with
    | [d1, d2, d3], _ => exact ⟨d1, d2, d3, rfl⟩
  cases pr with
  | @cons x1 _ _ _ h1 t1 =>
  cases t1 with
  | @cons x2 _ _ _ h2 t2 =>
  cases t2 with
  | @cons x3 _ _ _ h3 t3 =>
  cases t3 with
  | nil =>
    have b' : (letD d1 8 && (intIn d2 0 1 && rowsD d3 20)) = true := b
    rw [Bool.and_eq_true, Bool.and_eq_true] at b'
    obtain ⟨b1, b2, b3⟩ := b'
    obtain ⟨e1, n1, n2⟩ := let_at h1 b1
    have e2 : x2 = .int (intOfD d2) := by
      cases h2 with
      | int i => rfl
      | _ => exact absurd b2 (by simp [intIn])
    rcases tupOr h3 with ⟨r, zs, ws, rfl, rfl, hr, pz⟩ | ⟨_, no⟩
    rotate_left
    · rw [rowsD_no no] at b3
      cases b3
    have b3' : (decide ((ws.length : Int) ≤ 20) && ws.all (fun e => letD e 20)) = true := b3
    rw [Bool.and_eq_true] at b3'
    have l20 := of_decide_eq_true b3'.1
    obtain ⟨e3, r1, r2⟩ := row_at pz b3'.2
    subst e1 e2 e3
    refine ⟨⟨a, r, rfl, ha, hr⟩, ?_, n2, by show (ws.map strOfD).length ≤ 1000; rw [List.length_map]; omega, r2⟩
    show (letB (strOfD d1) 8 && (Nm.within (.int (intOfD d2)) 0 1 && rowB (ws.map strOfD) 20)) = true
    rw [n1, h2.within, b2]
    unfold rowB
    rw [r1, List.length_map, decide_eq_true (show ((ws.length : Nat) : Int) ≤ 20 by omega)]
    rfl
/-- the number of the first that is no board -/
def firstBad : List PyData → Nat → Option Int
  | [], _ => none
  | d :: ds, i => if boardD d = true then firstBad ds (i + 1) else some (i : Int)
def dueD (d : PyData) : Option Int := match d with
  | .tuple ds => if 1 ≤ ds.length ∧ ds.length ≤ 12 then firstBad ds 0 else some (-1)
  | _ => some (-1)
theorem dueD_no {d : PyData} (h : ∀ ds, d ≠ .tuple ds) : dueD d = some (-1) := by
  cases d with
  | tuple ds => exact absurd rfl (h ds)
  | _ => rfl
theorem firstBad_at : ∀ (ds : List PyData) (k i : Nat) (d : PyData), ds[i]? = some d → (∀ j e, j < i → ds[j]? = some e → boardD e = true) → boardD d = false → firstBad ds k = some (((k + i : Nat)) : Int)
  | [], _, _, _, h, _, _ => by simp at h
  | e :: ds, k, 0, d, h, _, b => by
    have e' : e = d := by simpa using h
    subst e'
    show (if boardD e = true then _ else some (k : Int)) = _
    rw [b, if_neg Bool.false_ne_true]
    rfl
  | e :: ds, k, i + 1, d, h, all, b => by
    show (if boardD e = true then firstBad ds (k + 1) else some (k : Int)) = _
    rw [all 0 e (Nat.succ_pos i) rfl, if_pos rfl, firstBad_at ds (k + 1) i d (by simpa using h) (fun j f hj hf => all (j + 1) f (Nat.succ_lt_succ hj) (by simpa using hf)) b]
    congr 1
    omega
theorem firstBad_none : ∀ (ds : List PyData) (k : Nat), (∀ e ∈ ds, boardD e = true) → firstBad ds k = none
  | [], _, _ => rfl
  | e :: ds, k, h => by
    show (if boardD e = true then firstBad ds (k + 1) else some (k : Int)) = _
    rw [h e List.mem_cons_self, if_pos rfl]
    exact firstBad_none ds (k + 1) fun f hf => h f (List.mem_cons_of_mem _ hf)
/-- right boards in a tuple -/
theorem boards_at {K : PySem.W.Frag} {tp : Addr} {H : Hp} : ∀ {xs : List V} {ds : List PyData}, Paired (At K tp H) xs ds → (∀ e ∈ ds, boardD e = true) → Paired (BoardAt H) xs (ds.map bdOfD) ∧ ∀ b ∈ ds.map bdOfD, okB b
  | _, _, .nil, _ => ⟨.nil, fun b hb => absurd hb (List.not_mem_nil)⟩
  | _, _, .cons h t, l => by
    obtain ⟨b1, b2⟩ := board_at h (l _ List.mem_cons_self)
    obtain ⟨r1, r2⟩ := boards_at t fun e he => l e (List.mem_cons_of_mem _ he)
    refine ⟨.cons b1 r1, fun b hb => ?_⟩
    rw [List.map_cons] at hb
    rcases List.mem_cons.mp hb with rfl | hb
    · exact b2
    · exact r2 b hb
/-- a hall whose boards stand at a -/
def HallIs (K : PySem.W.Frag) (H : Hp) (p a : Addr) (bs : List Bd) : Prop := ∃ C dx fs n ys, Cls K C ∧ NoAttr K C "boards" ∧ NoAttr K C "names" ∧ H p = some (.ins C dx fs) ∧ fs.lookup ("boards" : Str) = some (.ref a) ∧ fs.lookup ("names" : Str) = some (.ref n) ∧
  BoardsAt H a bs ∧ H n = some (.tup (ys.map V.str)) ∧ Names (bs.map (·.1)) ys
theorem HallIs.at {K : PySem.W.Frag} {H : Hp} {p a : Addr} {bs : List Bd} (h : HallIs K H p a bs) : HallAt K H p bs := by
  obtain ⟨C, dx, fs, n, ys, h1, h2, h3, h4, h5, h6, h7, h8, h9⟩ := h
  exact ⟨C, dx, fs, a, n, ys, h1, h2, h3, h4, h5, h6, h7, h8, h9⟩
end Nm
namespace K24
open PySem L2
def top (i : Nat) : Stmt := PySem.Challenge.pw_untoldgames_k24_pairings_judged.main.body.getD i (.Pass ⟨0, 0, 0, 0⟩)
abbrev s_is_integer : Stmt := top 5
abbrev s_is_within : Stmt := top 6
abbrev s_is_side : Stmt := top 7
abbrev s_is_lettered : Stmt := top 8
abbrev s_is_name : Stmt := top 10
abbrev s_is_word : Stmt := top 9
abbrev s_is_words : Stmt := top 11
abbrev s_is_board : Stmt := top 31
abbrev s_names_of : Stmt := top 32
abbrev s_Hall___init__ : Stmt := inClass (top 33) 0
abbrev s__law_tape : Stmt := top 35
abbrev s__law_pick : Stmt := top 36
abbrev s_are_pair : Stmt := top 16
abbrev s_pairs_of : Stmt := top 17
abbrev s_pairs : Stmt := top 18
abbrev s__law_some : Stmt := top 38
abbrev s__law_word : Stmt := top 39
abbrev s__law_line : Stmt := top 41
abbrev s__law_boards : Stmt := top 42
abbrev s__law_are_pair : Stmt := top 43
abbrev s__law_pairs : Stmt := top 44
abbrev s_clashes_of : Stmt := top 23
abbrev s_filled : Stmt := top 24
abbrev s_greatest_pairings : Stmt := top 25
abbrev s_is_ascending : Stmt := top 12
abbrev s_are_apart : Stmt := top 19
abbrev s_is_couple : Stmt := top 20
abbrev s_is_pairing_of : Stmt := top 21
abbrev s_is_pairing : Stmt := top 22
abbrev s_check_boards : Stmt := top 26
abbrev s_pairings : Stmt := top 27
abbrev s__law_flag : Stmt := top 37
abbrev s__law_int : Stmt := top 40
abbrev s__law_is_pairing : Stmt := top 45
abbrev s__law_deep : Stmt := top 47
abbrev s__law_bent : Stmt := top 46
abbrev s_law : Stmt := top 48
theorem sc_is_integer : FnScope ["thing"] ["thing"] (defScope s_is_integer) := ⟨rfl, rfl, rfl, by decide +kernel, rfl, by decide +kernel, by decide +kernel⟩
theorem sc_is_within : FnScope ["thing", "low", "high"] ["thing", "low", "high"] (defScope s_is_within) := ⟨rfl, rfl, rfl, by decide +kernel, rfl, by decide +kernel, by decide +kernel⟩
theorem sc_is_side : FnScope ["thing"] ["thing"] (defScope s_is_side) := ⟨rfl, rfl, rfl, by decide +kernel, rfl, by decide +kernel, by decide +kernel⟩
theorem sc_is_lettered : FnScope ["thing", "most", "sign"] ["thing", "most"] (defScope s_is_lettered) := ⟨rfl, rfl, rfl, by decide +kernel, rfl, by decide +kernel, by decide +kernel⟩
theorem sc_is_name : FnScope ["thing"] ["thing"] (defScope s_is_name) := ⟨rfl, rfl, rfl, by decide +kernel, rfl, by decide +kernel, by decide +kernel⟩
theorem sc_is_word : FnScope ["thing"] ["thing"] (defScope s_is_word) := ⟨rfl, rfl, rfl, by decide +kernel, rfl, by decide +kernel, by decide +kernel⟩
theorem sc_is_words : FnScope ["thing", "most", "word"] ["thing", "most"] (defScope s_is_words) := ⟨rfl, rfl, rfl, by decide +kernel, rfl, by decide +kernel, by decide +kernel⟩
theorem sc_is_board : FnScope ["thing", "name", "side", "begun"] ["thing"] (defScope s_is_board) := ⟨rfl, rfl, rfl, by decide +kernel, rfl, by decide +kernel, by decide +kernel⟩
theorem sc_names_of : FnScope ["boards", "board"] ["boards"] (defScope s_names_of) := ⟨rfl, rfl, rfl, by decide +kernel, rfl, by decide +kernel, by decide +kernel⟩
theorem sc_Hall___init__ : FnScope ["self", "boards", "at", "board"] ["self", "boards"] (defScope s_Hall___init__) := ⟨rfl, rfl, rfl, by decide +kernel, rfl, by decide +kernel, by decide +kernel⟩
theorem sc__law_tape : FnScope ["script"] ["script"] (defScope s__law_tape) := ⟨rfl, rfl, rfl, by decide +kernel, rfl, by decide +kernel, by decide +kernel⟩
theorem sc__law_pick : FnScope ["tape", "size", "digit", "cell", "mixed"] ["tape", "size"] (defScope s__law_pick) := ⟨rfl, rfl, rfl, by decide +kernel, rfl, by decide +kernel, by decide +kernel⟩
theorem sc_are_pair : FnScope ["one", "other", "shorter", "longer"] ["one", "other"] (defScope s_are_pair) := ⟨rfl, rfl, rfl, by decide +kernel, rfl, by decide +kernel, by decide +kernel⟩
theorem sc_pairs_of : FnScope ["boards", "found", "one", "other"] ["boards"] (defScope s_pairs_of) := ⟨rfl, rfl, rfl, by decide +kernel, rfl, by decide +kernel, by decide +kernel⟩
theorem sc_pairs : FnScope ["hall"] ["hall"] (defScope s_pairs) := ⟨rfl, rfl, rfl, by decide +kernel, rfl, by decide +kernel, by decide +kernel⟩
theorem sc__law_some : FnScope ["tape", "things"] ["tape", "things"] (defScope s__law_some) := ⟨rfl, rfl, rfl, by decide +kernel, rfl, by decide +kernel, by decide +kernel⟩
theorem sc__law_word : FnScope ["tape", "few"] ["tape"] (defScope s__law_word) := ⟨rfl, rfl, rfl, by decide +kernel, rfl, by decide +kernel, by decide +kernel⟩
theorem sc__law_line : FnScope ["tape", "many", "k"] ["tape", "many"] (defScope s__law_line) := ⟨rfl, rfl, rfl, by decide +kernel, rfl, by decide +kernel, by decide +kernel⟩
theorem sc__law_boards : FnScope ["tape", "most", "begun", "many", "names", "line", "other", "found", "k", "row"] ["tape", "most", "begun"] (defScope s__law_boards) := ⟨rfl, rfl, rfl, by decide +kernel, rfl, by decide +kernel, by decide +kernel⟩
theorem sc__law_are_pair : FnScope ["one", "other", "longer", "shorter"] ["one", "other"] (defScope s__law_are_pair) := ⟨rfl, rfl, rfl, by decide +kernel, rfl, by decide +kernel, by decide +kernel⟩
theorem sc__law_pairs : FnScope ["boards", "found", "one", "other"] ["boards"] (defScope s__law_pairs) := ⟨rfl, rfl, rfl, by decide +kernel, rfl, by decide +kernel, by decide +kernel⟩
theorem sc_clashes_of : FnScope ["couples", "clashes", "one", "at", "other"] ["couples"] (defScope s_clashes_of) := ⟨rfl, rfl, rfl, by decide +kernel, rfl, by decide +kernel, by decide +kernel⟩
theorem sc_filled : FnScope ["chosen", "clashes", "at", "clash"] ["chosen", "clashes"] (defScope s_filled) := ⟨rfl, rfl, rfl, by decide +kernel, rfl, by decide +kernel, by decide +kernel⟩
theorem sc_greatest_pairings : FnScope ["couples", "clashes", "first", "found", "waiting", "chosen", "at", "clash", "ahead", "other", "bits", "couple"] ["couples"] (defScope s_greatest_pairings) := ⟨rfl, rfl, rfl, by decide +kernel, rfl, by decide +kernel, by decide +kernel⟩
theorem sc_is_ascending : FnScope ["things", "one", "other"] ["things"] (defScope s_is_ascending) := ⟨rfl, rfl, rfl, by decide +kernel, rfl, by decide +kernel, by decide +kernel⟩
theorem sc_are_apart : FnScope ["couples", "boards", "couple", "board"] ["couples"] (defScope s_are_apart) := ⟨rfl, rfl, rfl, by decide +kernel, rfl, by decide +kernel, by decide +kernel⟩
theorem sc_is_couple : FnScope ["thing", "couples"] ["thing", "couples"] (defScope s_is_couple) := ⟨rfl, rfl, rfl, by decide +kernel, rfl, by decide +kernel, by decide +kernel⟩
theorem sc_is_pairing_of : FnScope ["couples", "thing", "known", "couple", "item"] ["couples", "thing"] (defScope s_is_pairing_of) := ⟨rfl, rfl, rfl, by decide +kernel, rfl, by decide +kernel, by decide +kernel⟩
theorem sc_is_pairing : FnScope ["hall", "thing"] ["hall", "thing"] (defScope s_is_pairing) := ⟨rfl, rfl, rfl, by decide +kernel, rfl, by decide +kernel, by decide +kernel⟩
theorem sc_check_boards : FnScope ["hall"] ["hall"] (defScope s_check_boards) := ⟨rfl, rfl, rfl, by decide +kernel, rfl, by decide +kernel, by decide +kernel⟩
theorem sc_pairings : FnScope ["hall"] ["hall"] (defScope s_pairings) := ⟨rfl, rfl, rfl, by decide +kernel, rfl, by decide +kernel, by decide +kernel⟩
theorem sc__law_flag : FnScope ["told", "due"] ["told", "due"] (defScope s__law_flag) := ⟨rfl, rfl, rfl, by decide +kernel, rfl, by decide +kernel, by decide +kernel⟩
theorem sc__law_int : FnScope ["thing", "least", "most"] ["thing", "least", "most"] (defScope s__law_int) := ⟨rfl, rfl, rfl, by decide +kernel, rfl, by decide +kernel, by decide +kernel⟩
theorem sc__law_is_pairing : FnScope ["boards", "thing", "every", "taken", "pair", "one", "other"] ["boards", "thing"] (defScope s__law_is_pairing) := ⟨rfl, rfl, rfl, by decide +kernel, rfl, by decide +kernel, by decide +kernel⟩
theorem sc__law_deep : FnScope ["kind", "found", "turn"] ["kind"] (defScope s__law_deep) := ⟨rfl, rfl, rfl, by decide +kernel, rfl, by decide +kernel, by decide +kernel⟩
theorem sc__law_bent : FnScope ["tape", "boards", "pairing", "kind", "many", "pair", "at", "odd"] ["tape", "boards", "pairing"] (defScope s__law_bent) := ⟨rfl, rfl, rfl, by decide +kernel, rfl, by decide +kernel, by decide +kernel⟩
theorem sc_law : FnScope ["script", "tape", "turn", "boards", "hall", "every", "thing", "k", "text", "pair"] ["script"] (defScope s_law) := ⟨rfl, rfl, rfl, by decide +kernel, rfl, by decide +kernel, by decide +kernel⟩
abbrev cs_greatest_pairings_89_18 : Scope := { kind := .function, names := [(".0", .local), ("bits", .cell), ("tuple", .globalImplicit), ("enumerate", .globalImplicit), ("couples", .free)], isGenerator := false, isCoroutine := false }
structure Txt (K : PySem.W.Frag) (mg : Str → Option Value) : Prop where
  d_is_integer : Nm.Top K mg "is_integer" s_is_integer
  d_is_within : Nm.Top K mg "is_within" s_is_within
  d_is_side : Nm.Top K mg "is_side" s_is_side
  d_is_lettered : Nm.Top K mg "is_lettered" s_is_lettered
  d_is_name : Nm.Top K mg "is_name" s_is_name
  d_is_word : Nm.Top K mg "is_word" s_is_word
  d_is_words : Nm.Top K mg "is_words" s_is_words
  d_is_board : Nm.Top K mg "is_board" s_is_board
  d_names_of : Nm.Top K mg "names_of" s_names_of
  d__law_tape : Nm.Top K mg "_law_tape" s__law_tape
  d__law_pick : Nm.Top K mg "_law_pick" s__law_pick
  d_are_pair : Nm.Top K mg "are_pair" s_are_pair
  d_pairs_of : Nm.Top K mg "pairs_of" s_pairs_of
  d_pairs : Nm.Top K mg "pairs" s_pairs
  d__law_some : Nm.Top K mg "_law_some" s__law_some
  d__law_word : Nm.Top K mg "_law_word" s__law_word
  d__law_line : Nm.Top K mg "_law_line" s__law_line
  d__law_boards : Nm.Top K mg "_law_boards" s__law_boards
  d__law_are_pair : Nm.Top K mg "_law_are_pair" s__law_are_pair
  d__law_pairs : Nm.Top K mg "_law_pairs" s__law_pairs
  d_clashes_of : Nm.Top K mg "clashes_of" s_clashes_of
  d_filled : Nm.Top K mg "filled" s_filled
  d_greatest_pairings : Nm.Top K mg "greatest_pairings" s_greatest_pairings
  d_is_ascending : Nm.Top K mg "is_ascending" s_is_ascending
  d_are_apart : Nm.Top K mg "are_apart" s_are_apart
  d_is_couple : Nm.Top K mg "is_couple" s_is_couple
  d_is_pairing_of : Nm.Top K mg "is_pairing_of" s_is_pairing_of
  d_is_pairing : Nm.Top K mg "is_pairing" s_is_pairing
  d_check_boards : Nm.Top K mg "check_boards" s_check_boards
  d_pairings : Nm.Top K mg "pairings" s_pairings
  d__law_flag : Nm.Top K mg "_law_flag" s__law_flag
  d__law_int : Nm.Top K mg "_law_int" s__law_int
  d__law_is_pairing : Nm.Top K mg "_law_is_pairing" s__law_is_pairing
  d__law_deep : Nm.Top K mg "_law_deep" s__law_deep
  d__law_bent : Nm.Top K mg "_law_bent" s__law_bent
  d_law : Nm.Top K mg "law" s_law
  m_all : mg "all" = none
  m_bool : mg "bool" = none
  m_enumerate : mg "enumerate" = none
  m_int : mg "int" = none
  m_isinstance : mg "isinstance" = none
  m_len : mg "len" = none
  m_list : mg "list" = none
  m_max : mg "max" = none
  m_range : mg "range" = none
  m_repr : mg "repr" = none
  m_set : mg "set" = none
  m_sorted : mg "sorted" = none
  m_str : mg "str" = none
  m_sum : mg "sum" = none
  m_tuple : mg "tuple" = none
  m_zip : mg "zip" = none
  g_MOST_BEGUN : ∃ u, mg "MOST_BEGUN" = some u ∧ RelV (.int 20) u
  g_MOST_BOARDS_halls : ∃ u, mg "MOST_BOARDS_halls" = some u ∧ RelV (.int 12) u
  g_MOST_BOARDS_pairs : ∃ u, mg "MOST_BOARDS_pairs" = some u ∧ RelV (.int 24) u
  g_MOST_PAIRINGS : ∃ u, mg "MOST_PAIRINGS" = some u ∧ RelV (.int 2000) u
  cls_Hall : ∃ C f fd, Cls K C ∧ Mk K C f ∧ mg "Hall" = some (.ref C) ∧ Fun K "__init__" "Hall.__init__" s_Hall___init__ f fd ∧ NoAttr K C "boards" ∧ NoAttr K C "names"
  hall_K : ∀ C, mg "Hall" = some (.ref C) → Nm.HallC K C
end K24
namespace K24
open PySem L2 Nm
open C8 (Cal Mak pe_c pe_mk pe_gc)
open RZ (ItzT pi_zipA)
section
variable {P : Program} {w : World} {K : PySem.W.Frag} {mg : Str → Option Value} {base : Heap}
def sp_is_integer (K : PySem.W.Frag) : Sp := fun vs H Q _ => ∃ (x : V), vs = [x] ∧ TyI K H x ∧ Q (.bl (isInt x)) H
theorem c_is_integer (T : Txt K mg) : Cal P w K mg base 1 "is_integer" (sp_is_integer K) [] := by
  have sc := sc_is_integer
  refine cal_of T.d_is_integer sc (fun _ _ _ _ _ _ us hl => match us, hl with | [_], _ => rfl) (fun vs H Q E h => ?_) (fun f cdv A outer s H vs Q E hr h => ?_)
  · obtain ⟨x, rfl, _⟩ := h
    rfl
  · obtain ⟨x, rfl, h⟩ := h
    refine ⟨_, (pss_one (ps_ret (pe_and (pe_callB call_isi rfl T.m_isinstance (by decide +kernel) (pa_cons (pv 0) (pa_cons (pe_bltn (v := .ty "int") (u := .type "int") rfl T.m_int (by decide +kernel) rfl) pa_nil))) (pe_one (pe_not (pe_callB call_isi rfl T.m_isinstance (by decide +kernel) (pa_cons (pv 0) (pa_cons (pe_bltn (v := .ty "bool") (u := .type "bool") rfl T.m_bool (by decide +kernel) rfl) pa_nil)))))))), ?_⟩
    obtain ⟨⟨b, c, ⟨t, h1, h2⟩, ⟨u, h3, h4⟩, e⟩, q⟩ := h
    refine ⟨_, rfl, _, _, t, _, b, rfl, .ty _, h1, h2, b, rfl, ?_⟩
    cases b with
    | false =>
      refine iteF ?_
      rw [← e] at q
      exact q
    | true =>
      refine iteT ⟨_, rfl, _, _, u, _, c, rfl, .ty _, h3, h4, c, rfl, ?_⟩
      rw [← e] at q
      exact q
end
end K24
namespace K24
open PySem L2 Nm
open C8 (Cal Mak pe_c pe_mk pe_gc)
open RZ (ItzT pi_zipA)
section
variable {P : Program} {w : World} {K : PySem.W.Frag} {mg : Str → Option Value} {base : Heap}
def sp_is_within (K : PySem.W.Frag) : Sp := fun vs H Q _ => ∃ (x : V) (lo hi : Int), vs = [x, .int lo, .int hi] ∧ TyI K H x ∧ Q (.bl (within x lo hi)) H
theorem c_is_within (T : Txt K mg) : Cal P w K mg base 2 "is_within" (sp_is_within K) [] := by
  have C_is_integer := c_is_integer (P := P) (w := w) (base := base) T
  have sc := sc_is_within
  refine cal_of T.d_is_within sc (fun _ _ _ _ _ _ us hl => match us, hl with | [_, _, _], _ => rfl) (fun vs H Q E h => ?_) (fun f cdv A outer s H vs Q E hr h => ?_)
  · obtain ⟨x, lo, hi, rfl, _⟩ := h
    rfl
  · obtain ⟨x, lo, hi, rfl, h⟩ := h
    refine ⟨_, (pss_one (ps_ret (pe_and (pe_c C_is_integer hr (by omega) rfl (pa_cons (pv 0) pa_nil)) (pe_one (pe_chain op_le op_le (pv 1) (pv 0) (pv 2)))))), ?_⟩
    obtain ⟨ty, q⟩ := h
    refine ⟨_, rfl, x, rfl, ty, isInt x, rfl, ?_⟩
    cases x with
    | int n =>
      refine iteT ⟨_, rfl, _, rfl, lo, n, rfl, rfl, decide (lo ≤ n), rfl, ?_⟩
      by_cases c : lo ≤ n
      · rw [if_pos (decide_eq_true c)]
        refine ⟨_, rfl, n, hi, rfl, rfl, ?_⟩
        have e : within (.int n) lo hi = decide (n ≤ hi) := by
          show (decide (lo ≤ n) && decide (n ≤ hi)) = _
          rw [decide_eq_true c, Bool.true_and]
        rw [e] at q
        exact q
      · rw [if_neg (by rw [decide_eq_false c]; exact Bool.false_ne_true)]
        have e : within (.int n) lo hi = false := by
          show (decide (lo ≤ n) && decide (n ≤ hi)) = _
          rw [decide_eq_false c, Bool.false_and]
        rw [e] at q
        exact q
    | _ => exact iteF q
end
end K24
namespace K24
open PySem L2 Nm
open C8 (Cal Mak pe_c pe_mk pe_gc)
open RZ (ItzT pi_zipA)
section
variable {P : Program} {w : World} {K : PySem.W.Frag} {mg : Str → Option Value} {base : Heap}
def sp_is_side (K : PySem.W.Frag) : Sp := fun vs H Q _ => ∃ (x : V), vs = [x] ∧ TyI K H x ∧ Q (.bl (within x 0 1)) H
theorem c_is_side (T : Txt K mg) : Cal P w K mg base 3 "is_side" (sp_is_side K) [] := by
  have C_is_within := c_is_within (P := P) (w := w) (base := base) T
  have sc := sc_is_side
  refine cal_of T.d_is_side sc (fun _ _ _ _ _ _ us hl => match us, hl with | [_], _ => rfl) (fun vs H Q E h => ?_) (fun f cdv A outer s H vs Q E hr h => ?_)
  · obtain ⟨x, rfl, _⟩ := h
    rfl
  · obtain ⟨x, rfl, h⟩ := h
    refine ⟨_, (pss_one (ps_ret (pe_c C_is_within hr (by omega) rfl (pa_cons (pv 0) (pa_cons pe_int (pa_cons pe_int pa_nil)))))), ?_⟩
    obtain ⟨ty, q⟩ := h
    exact ⟨_, rfl, x, 0, 1, rfl, ty, q⟩
end
end K24
namespace K24
open PySem L2 Nm
open C8 (Cal Mak pe_c pe_mk pe_gc)
open RZ (ItzT pi_zipA)
section
variable {P : Program} {w : World} {K : PySem.W.Frag} {mg : Str → Option Value} {base : Heap}
def sp_is_lettered (K : PySem.W.Frag) : Sp := fun vs H Q _ => ∃ (z : Str) (most : Int), vs = [.str z, .int most] ∧ z.length ≤ 1000 ∧ ∀ H', Same H H' → Q (.bl (letB z most)) H'
theorem c_is_lettered (T : Txt K mg) : Cal P w K mg base 1 "is_lettered" (sp_is_lettered K) [] := by
  have sc := sc_is_lettered
  refine cal_of T.d_is_lettered sc (fun _ _ _ _ _ _ us hl => match us, hl with | [_, _], _ => rfl) (fun vs H Q E h => ?_) (fun f cdv A outer s H vs Q E hr h => ?_)
  · obtain ⟨z, most, rfl, _⟩ := h
    rfl
  · obtain ⟨z, most, rfl, h⟩ := h
    refine ⟨_, (pss_cons (ps_if (PW.pt (pw_or (pt_not (pt_val (pe_callB call_isi rfl T.m_isinstance (by decide +kernel) (pa_cons (pv 0) (pa_cons (pe_bltn (v := .ty "str") (u := .type "str") rfl T.m_str (by decide +kernel) rfl) pa_nil))))) (pw_or1 (pt_not (pt_chain op_le op_le pe_int (pe_callB call_len_str rfl T.m_len (by decide +kernel) (pa_cons (pv 0) pa_nil)) (pv 1)))))) (pss_one (ps_ret pe_bl)) pss_nil)
  (pss_one (ps_ret (pe_callB (cr_all rfl) rfl T.m_all (by decide +kernel) (pa_cons (pe_lc (own := [("sign", 2)]) (g := gName 2) rfl sc.nd (pi_str (pv 0)) (blkOk_by (own := [("sign", 2)]) (N := ["thing", "most", "sign"]) (sc := defScope s_is_lettered) (by decide +kernel)) (fun _ _ _ _ _ => (pg_name (i := 2) sc.nd rfl (Or.inl rfl))) (fun _ _ _ _ _ => pts_nil) (fun _ _ _ _ _ => (pe_chain op_le_str op_le_str pe_str (pv 2) pe_str))) pa_nil))))), ?_⟩
    obtain ⟨hz, q⟩ := h
    obtain ⟨t, h1, h2⟩ := tyc_str (K := K) (H := H) z
    have fit : z.length ≤ sizeLine := Nat.le_trans hz (by decide)
    refine ⟨_, rfl, _, _, t, _, true, rfl, .ty _, h1, h2, true, rfl, ?_⟩
    refine iteF ?_
    refine ⟨_, rfl, z, rfl, fit, 1, (z.length : Int), rfl, rfl, decide (1 ≤ (z.length : Int)), rfl, ?_⟩
    by_cases c1 : 1 ≤ (z.length : Int)
    · rw [if_pos (decide_eq_true c1)]
      refine ⟨_, rfl, (z.length : Int), most, rfl, rfl, decide ((z.length : Int) ≤ most), rfl, ?_⟩
      by_cases c2 : (z.length : Int) ≤ most
      · rw [decide_eq_true c2]
        refine iteF ?_
        refine ⟨_, rfl, z, rfl, fun D hD => ?_⟩
        refine lc_it walk_str (fun i H1 => H1 D = some (.lst ((z.cps.toList.take i).map fun c => V.bl (decide (97 ≤ c) && decide (c ≤ 122)))) ∧ Same H H1) ⟨upd_same, same_new hD⟩ (fun _ _ _ _ => trivial) ?_ ?_
        · rintro i x H0 H1 hi ⟨hl, g⟩ ⟨rfl, c, hc, rfl⟩
          refine ⟨rfl, ?_⟩
          have hc' : z.cps.toList[i]? = some c := by rw [Array.getElem?_toList]; exact hc
          have tk : (z.cps.toList.take (i + 1)).map (fun c => V.bl (decide (97 ≤ c) && decide (c ≤ 122))) = (z.cps.toList.take i).map (fun c => V.bl (decide (97 ≤ c) && decide (c ≤ 122))) ++ [V.bl (decide (97 ≤ c) && decide (c ≤ 122))] := by
            rw [List.take_add_one, hc', List.map_append]
            rfl
          have small : ((z.cps.toList.take i).map fun c => V.bl (decide (97 ≤ c) && decide (c ≤ 122))).length < sizeLine := by
            rw [List.length_map, List.length_take]
            have a : z.cps.toList.length = z.length := by rw [Array.length_toList]; rfl
            have b : (1000 : Nat) < sizeLine := by decide
            omega
          have fin : ∀ v : Bool, v = (decide (97 ≤ c) && decide (c ≤ 122)) → ∃ acc, H1 D = some (.lst acc) ∧ acc.length < sizeLine ∧
              (upd H1 D (.lst (acc ++ [V.bl v])) D = some (.lst ((z.cps.toList.take (i + 1)).map fun c => V.bl (decide (97 ≤ c) && decide (c ≤ 122)))) ∧ Same H (upd H1 D (.lst (acc ++ [V.bl v])))) := fun v e => by
            refine ⟨_, hl, small, ?_, same_mut g hD⟩
            rw [upd_same, tk, e]
          refine ⟨_, rfl, _, _, rfl, rfl, !decide (([c] : List Nat) < [97]), rfl, ?_⟩
          rw [sign_lt]
          by_cases d : 97 ≤ c
          · rw [if_pos (by rw [decide_eq_false (by omega)]; rfl)]
            refine ⟨_, _, rfl, rfl, ?_⟩
            refine fin (!decide (([122] : List Nat) < [c])) ?_
            rw [sign_lt, decide_eq_true d, Bool.true_and]
            by_cases d2 : c ≤ 122
            · rw [decide_eq_true d2, decide_eq_false (by omega)]
              rfl
            · rw [decide_eq_false d2, decide_eq_true (by omega)]
              rfl
          · rw [if_neg (by rw [decide_eq_true (by omega)]; exact Bool.false_ne_true)]
            refine fin false ?_
            rw [decide_eq_false d]
            rfl
        · rintro H1 ⟨hl, g⟩
          have hn : z.cps.toList.take z.cps.size = z.cps.toList := List.take_of_length_le (by rw [Array.length_toList]; exact Nat.le_refl _)
          rw [hn] at hl
          refine ⟨D, z.cps.toList.map (fun c => decide (97 ≤ c) && decide (c ≤ 122)), rfl, SqL.of (by rw [hl, List.map_map]; rfl), ?_⟩
          have e : letB z most = ((z.cps.toList.map (fun c => decide (97 ≤ c) && decide (c ≤ 122))).all id) := by
            unfold letB
            rw [decide_eq_true c1, decide_eq_true c2, List.all_map]
            rfl
          have q' := q H1 g
          rw [e] at q'
          exact q'
      · rw [decide_eq_false c2]
        refine iteT ?_
        have e : letB z most = false := by unfold letB; rw [decide_eq_false c2, Bool.and_false, Bool.false_and]
        have q' := q H (Same.refl H)
        rw [e] at q'
        exact q'
    · rw [if_neg (by rw [decide_eq_false c1]; exact Bool.false_ne_true)]
      refine ⟨false, rfl, iteT ?_⟩
      have e : letB z most = false := by unfold letB; rw [decide_eq_false c1, Bool.false_and, Bool.false_and]
      have q' := q H (Same.refl H)
      rw [e] at q'
      exact q'
end
end K24
namespace K24
open PySem L2 Nm
open C8 (Cal Mak pe_c pe_mk pe_gc)
open RZ (ItzT pi_zipA)
section
variable {P : Program} {w : World} {K : PySem.W.Frag} {mg : Str → Option Value} {base : Heap}
def sp_is_name (K : PySem.W.Frag) : Sp := fun vs H Q _ => ∃ (z : Str), vs = [.str z] ∧ z.length ≤ 1000 ∧ ∀ H', Same H H' → Q (.bl (letB z 8)) H'
theorem c_is_name (T : Txt K mg) : Cal P w K mg base 2 "is_name" (sp_is_name K) [] := by
  have C_is_lettered := c_is_lettered (P := P) (w := w) (base := base) T
  have sc := sc_is_name
  refine cal_of T.d_is_name sc (fun _ _ _ _ _ _ us hl => match us, hl with | [_], _ => rfl) (fun vs H Q E h => ?_) (fun f cdv A outer s H vs Q E hr h => ?_)
  · obtain ⟨z, rfl, _⟩ := h
    rfl
  · obtain ⟨z, rfl, h⟩ := h
    refine ⟨_, (pss_one (ps_ret (pe_c C_is_lettered hr (by omega) rfl (pa_cons (pv 0) (pa_cons pe_int pa_nil))))), ?_⟩
    exact ⟨_, rfl, z, 8, rfl, h.1, h.2⟩
end
end K24
namespace K24
open PySem L2 Nm
open C8 (Cal Mak pe_c pe_mk pe_gc)
open RZ (ItzT pi_zipA)
section
variable {P : Program} {w : World} {K : PySem.W.Frag} {mg : Str → Option Value} {base : Heap}
def sp_is_word (K : PySem.W.Frag) : Sp := fun vs H Q _ => ∃ (z : Str), vs = [.str z] ∧ z.length ≤ 1000 ∧ ∀ H', Same H H' → Q (.bl (letB z 20)) H'
theorem c_is_word (T : Txt K mg) : Cal P w K mg base 2 "is_word" (sp_is_word K) [] := by
  have C_is_lettered := c_is_lettered (P := P) (w := w) (base := base) T
  have sc := sc_is_word
  refine cal_of T.d_is_word sc (fun _ _ _ _ _ _ us hl => match us, hl with | [_], _ => rfl) (fun vs H Q E h => ?_) (fun f cdv A outer s H vs Q E hr h => ?_)
  · obtain ⟨z, rfl, _⟩ := h
    rfl
  · obtain ⟨z, rfl, h⟩ := h
    refine ⟨_, (pss_one (ps_ret (pe_c C_is_lettered hr (by omega) rfl (pa_cons (pv 0) (pa_cons pe_int pa_nil))))), ?_⟩
    exact ⟨_, rfl, z, 20, rfl, h.1, h.2⟩
end
end K24
namespace K24
open PySem L2 Nm
open C8 (Cal Mak pe_c pe_mk pe_gc)
open RZ (ItzT pi_zipA)
section
variable {P : Program} {w : World} {K : PySem.W.Frag} {mg : Str → Option Value} {base : Heap}
def sp_is_words (K : PySem.W.Frag) : Sp := fun vs H Q _ => ∃ (a : Addr) (zs : List Str) (most : Int), vs = [.ref a, .int most] ∧ H a = some (.tup (zs.map V.str)) ∧ zs.length ≤ 1000 ∧ (∀ z ∈ zs, z.length ≤ 1000) ∧ ∀ H', Same H H' → Q (.bl (rowB zs most)) H'
theorem c_is_words (T : Txt K mg) : Cal P w K mg base 3 "is_words" (sp_is_words K) [] := by
  have C_is_word := c_is_word (P := P) (w := w) (base := base) T
  have sc := sc_is_words
  refine cal_of T.d_is_words sc (fun _ _ _ _ _ _ us hl => match us, hl with | [_, _], _ => rfl) (fun vs H Q E h => ?_) (fun f cdv A outer s H vs Q E hr h => ?_)
  · obtain ⟨a, zs, most, rfl, _⟩ := h
    rfl
  · obtain ⟨a, zs, most, rfl, h⟩ := h
    refine ⟨_, (pss_one (ps_ret (pe_and (pe_callB call_isi rfl T.m_isinstance (by decide +kernel) (pa_cons (pv 0) (pa_cons (pe_bltn (v := .ty "tuple") (u := .type "tuple") rfl T.m_tuple (by decide +kernel) rfl) pa_nil))) (pe_and (pe_cmpR op_le (pe_callB call_len_seq rfl T.m_len (by decide +kernel) (pa_cons (pv 0) pa_nil)) (pv 1) (nomark _)) (pe_one (pe_callB (cr_all rfl) rfl T.m_all (by decide +kernel) (pa_cons (pe_lc (own := [("word", 2)]) (g := gName 2) rfl sc.nd (pi_tup (pv 0)) (blkOk_by (own := [("word", 2)]) (N := ["thing", "most", "word"]) (sc := defScope s_is_words) (by decide +kernel)) (fun _ _ _ _ _ => (pg_name (i := 2) sc.nd rfl (Or.inl rfl))) (fun _ _ _ _ _ => pts_nil) (fun _ _ _ _ _ => (pe_c C_is_word hr (by omega) rfl (pa_cons (pv 2) pa_nil)))) pa_nil))))))), ?_⟩
    obtain ⟨ha, hl, hz, q⟩ := h
    obtain ⟨t, h1, h2⟩ := tyc_tup (K := K) ha
    refine ⟨_, rfl, _, _, t, _, true, rfl, .ty _, h1, h2, true, rfl, ?_⟩
    refine iteT ⟨_, rfl, a, _, rfl, .inr (SqT.of ha), _, rfl, _, _, rfl, rfl, decide (((zs.map V.str).length : Int) ≤ most), rfl, ?_⟩
    rw [List.length_map]
    by_cases c : (zs.length : Int) ≤ most
    · rw [decide_eq_true c]
      refine iteT ⟨_, rfl, a, rfl, ⟨_, SqT.of ha⟩, fun D hD => ?_⟩
      refine lc_tup (K := K) (a := a) (xs := zs.map V.str) (fun i H1 => H1 D = some (.lst ((zs.take i).map fun z => V.bl (letB z 20))) ∧ Same H H1) ⟨upd_same, same_new hD⟩ (fun i H1 _ p => SqT.of (p.2 _ _ ha)) ?_ ?_
      · rintro i x H1 hx ⟨hl1, g⟩
        obtain ⟨z, hz1, rfl⟩ : ∃ z, zs[i]? = some z ∧ x = V.str z := by
          rw [List.getElem?_map] at hx
          cases e : zs[i]? with
          | none =>
            rw [e] at hx
            cases hx
          | some z =>
            rw [e] at hx
            exact ⟨z, rfl, (Option.some.inj hx).symm⟩
        refine ⟨rfl, ?_⟩
        refine ⟨_, rfl, z, rfl, hz z (List.mem_of_getElem? hz1), fun H2 g2 => ?_⟩
        refine ⟨_, g2 _ _ hl1, ?_, ?_, ?_⟩
        · rw [List.length_map, List.length_take]
          have b : (1000 : Nat) < sizeLine := by decide
          omega
        · rw [upd_same, take_one hz1, List.map_append]
          rfl
        · exact same_mut (g.trans g2) hD
      · rintro H1 ⟨hl1, g⟩
        rw [List.length_map, List.take_length] at hl1
        refine ⟨D, zs.map (fun z => letB z 20), rfl, SqL.of (by rw [hl1, List.map_map]; rfl), ?_⟩
        have e : rowB zs most = (zs.map (fun z => letB z 20)).all id := by
          unfold rowB
          rw [decide_eq_true c, Bool.true_and, List.all_map]
          rfl
        have q' := q H1 g
        rw [e] at q'
        exact q'
    · rw [decide_eq_false c]
      refine iteF ?_
      have e : rowB zs most = false := by unfold rowB; rw [decide_eq_false c, Bool.false_and]
      have q' := q H (Same.refl H)
      rw [e] at q'
      exact q'
end
end K24
namespace K24
open PySem L2 Nm
open C8 (Cal Mak pe_c pe_mk pe_gc)
open RZ (ItzT pi_zipA)
section
variable {P : Program} {w : World} {K : PySem.W.Frag} {mg : Str → Option Value} {base : Heap}
def sp_is_board (K : PySem.W.Frag) : Sp := fun vs H Q _ => ∃ (v : V) (b : Bd), vs = [v] ∧ BoardAt H v b ∧ smallBd b ∧ ∀ H', Same H H' → Q (.bl (boardB b)) H'
theorem c_is_board (T : Txt K mg) : Cal P w K mg base 4 "is_board" (sp_is_board K) [] := by
  have C_is_name := c_is_name (P := P) (w := w) (base := base) T
  have C_is_side := c_is_side (P := P) (w := w) (base := base) T
  have C_is_words := c_is_words (P := P) (w := w) (base := base) T
  have sc := sc_is_board
  refine cal_of T.d_is_board sc (fun _ _ _ _ _ _ us hl => match us, hl with | [_], _ => rfl) (fun vs H Q E h => ?_) (fun f cdv A outer s H vs Q E hr h => ?_)
  · obtain ⟨v, b, rfl, _⟩ := h
    rfl
  · obtain ⟨v, b, rfl, h⟩ := h
    refine ⟨_, (pss_cons (ps_if (PW.pt (pw_or (pt_not (pt_val (pe_callB call_isi rfl T.m_isinstance (by decide +kernel) (pa_cons (pv 0) (pa_cons (pe_bltn (v := .ty "tuple") (u := .type "tuple") rfl T.m_tuple (by decide +kernel) rfl) pa_nil))))) (pw_or1 (pt_cmpR op_ne (pe_callB call_len_seq rfl T.m_len (by decide +kernel) (pa_cons (pv 0) pa_nil)) pe_int (nomark _))))) (pss_one (ps_ret pe_bl)) pss_nil)
  (pss_cons (ps_asg (pv 0) (pg_tup rfl (pgs_cons (pg_name (i := 1) sc.nd rfl (Or.inl rfl)) (pgs_cons (pg_name (i := 2) sc.nd rfl (Or.inl rfl)) (pgs_cons (pg_name (i := 3) sc.nd rfl (Or.inl rfl)) pgs_nil)))))
  (pss_one (ps_ret (pe_and (pe_c C_is_name hr (by omega) rfl (pa_cons (pv 1) pa_nil)) (pe_and (pe_c C_is_side hr (by omega) rfl (pa_cons (pv 2) pa_nil)) (pe_one (pe_c C_is_words hr (by omega) rfl (pa_cons (pv 3) (pa_cons (pe_gc rfl T.g_MOST_BEGUN) pa_nil)))))))))), ?_⟩
    obtain ⟨⟨a, r, rfl, h1, h2⟩, ⟨z1, z2, z3⟩, q⟩ := h
    obtain ⟨t, t1, t2⟩ := tyc_tup (K := K) h1
    refine ⟨_, rfl, _, _, t, _, true, rfl, .ty _, t1, t2, true, rfl, ?_⟩
    refine iteF ⟨_, rfl, a, _, rfl, .inr (SqT.of h1), rfl, _, rfl, ?_⟩
    refine iteF ⟨_, rfl, a, _, rfl, SqT.of h1, rfl, _, _, rfl, _, _, rfl, _, _, rfl, rfl, ?_⟩
    refine ⟨_, rfl, b.1, rfl, z1, fun H1 g1 => ⟨letB b.1 8, rfl, ?_⟩⟩
    have e : boardB b = (letB b.1 8 && (within (.int b.2.1) 0 1 && rowB b.2.2 20)) := rfl
    cases e1 : letB b.1 8 with
    | false =>
      refine iteF ?_
      rw [e1, Bool.false_and] at e
      have q' := q H1 g1
      rw [e] at q'
      exact q'
    | true =>
      rw [e1, Bool.true_and] at e
      refine iteT ⟨_, rfl, _, rfl, tyi_int _, within (.int b.2.1) 0 1, rfl, ?_⟩
      cases e2 : within (.int b.2.1) 0 1 with
      | false =>
        refine iteF ?_
        rw [e2, Bool.false_and] at e
        have q' := q H1 g1
        rw [e] at q'
        exact q'
      | true =>
        rw [e2, Bool.true_and] at e
        refine iteT ⟨_, rfl, r, b.2.2, 20, rfl, g1 _ _ h2, z2, z3, fun H2 g2 => ?_⟩
        have q' := q H2 (g1.trans g2)
        rw [e] at q'
        exact q'
end
end K24
namespace K24
open PySem L2 Nm
open C8 (Cal Mak pe_c pe_mk pe_gc)
open RZ (ItzT pi_zipA)
section
variable {P : Program} {w : World} {K : PySem.W.Frag} {mg : Str → Option Value} {base : Heap}
def sp_names_of (K : PySem.W.Frag) : Sp := fun vs H Q _ => ∃ (a : Addr) (bs : List Bd), vs = [.ref a] ∧ BoardsAt H a bs ∧ bs.length < 64 ∧ ∀ H' p ys, Same H H' → H p = none → H' p = some (.tup (ys.map V.str)) → Names (bs.map (·.1)) ys → Q (.ref p) H'
theorem c_names_of (T : Txt K mg) : Cal P w K mg base 1 "names_of" (sp_names_of K) [] := by
  have sc := sc_names_of
  refine cal_of T.d_names_of sc (fun _ _ _ _ _ _ us hl => match us, hl with | [_], _ => rfl) (fun vs H Q E h => ?_) (fun f cdv A outer s H vs Q E hr h => ?_)
  · obtain ⟨a, bs, rfl, _⟩ := h
    rfl
  · obtain ⟨a, bs, rfl, h⟩ := h
    refine ⟨_, (pss_one (ps_ret (pe_callTy call_tuple_of rfl T.m_tuple (by decide +kernel) (pa_cons (pe_callB (Nm.cr_sortTx rfl) rfl T.m_sorted (by decide +kernel) (pa_cons (Nm.pe_nm (own := [("board", 1)]) (g := gName 1) rfl sc.nd (pi_tup (pv 0)) (blkOk_by (own := [("board", 1)]) (N := ["boards", "board"]) (sc := defScope s_names_of) (by decide +kernel)) (fun _ _ _ _ _ => (pg_name (i := 1) sc.nd rfl (Or.inl rfl))) (fun _ _ _ _ _ => (pe_ix (r := rIxT K) ix_tup (pv 1) pe_int (fun _ _ => rfl)))) pa_nil)) pa_nil)))), ?_⟩
    obtain ⟨⟨xs, ha, pr⟩, hl, q⟩ := h
    refine ⟨_, rfl, a, rfl, ⟨_, SqT.of ha⟩, fun D hD => ?_⟩
    refine nm_tup (K := K) (a := a) (xs := xs) (fun i H1 => H1 D = some (TxO w D (gathered ((bs.take i).map (·.1)))) ∧ Same H H1) ⟨upd_same, same_new hD⟩ (fun i H1 _ p => SqT.of (p.2 _ _ ha)) ?_ ?_
    · rintro i x H1 hx ⟨hl1, g⟩
      obtain ⟨b, hb, c, r, rfl, h1, h2⟩ := paired_at pr i x hx
      refine ⟨rfl, ?_⟩
      refine ⟨_, rfl, c, _, 0, .str b.1, rfl, rfl, SqT.of (g _ _ h1), rfl, b.1, _, rfl, hl1, ?_, ?_, ?_⟩
      · have z := (gathered_facts ((bs.take i).map (·.1))).2.2
        rw [List.length_map, List.length_take] at z
        have : (64 : Nat) + 1 < scanBound := by decide
        omega
      · rw [upd_same, take_one hb, List.map_append]
        show some (TxO w D (plus (gathered ((bs.take i).map (·.1))) b.1)) = some (TxO w D (gathered ((bs.take i).map (·.1) ++ [b.1])))
        rw [gathered_snoc]
      · exact same_mut g hD
    · rintro H1 ⟨hl1, g⟩
      have el : xs.length = bs.length := paired_len pr
      rw [el, List.take_length] at hl1
      obtain ⟨f1, f2, f3⟩ := gathered_facts (bs.map (·.1))
      rw [List.length_map] at f3
      refine ⟨D, _, rfl, hl1, by omega, fun ys p pm up hp => ?_⟩
      have g2 : Same H (upd H1 p (.lst (ys.map V.str))) := g.trans (same_new hp)
      refine ⟨p, _, rfl, .inl ⟨SqL.of upd_same, fun l hl => ?_⟩⟩
      refine q _ l ys (g2.trans (same_new hl)) (g2.free hl) upd_same ⟨up, pm.nodup_iff.mpr f1, fun x => ?_⟩
      rw [pm.mem_iff]
      exact f2 x
end
end K24
namespace K24
open PySem L2 Nm
open C8 (Cal Mak pe_c pe_mk pe_gc)
open RZ (ItzT pi_zipA)
section
variable {P : Program} {w : World} {K : PySem.W.Frag} {mg : Str → Option Value} {base : Heap}
def sp_Hall (K : PySem.W.Frag) (C : Addr) : Sp := fun vs H Q _ => ∃ (p dx a : Addr) (bs : List Bd), vs = [.ref p, .ref a] ∧ H p = some (.ins C dx []) ∧ BoardsAt H a bs ∧ (∀ b ∈ bs, boardB b = true ∧ smallBd b) ∧ 1 ≤ bs.length ∧ bs.length ≤ 12 ∧
  ∀ H' fs, H' p = some (.ins C dx fs) → fs.length ≤ 2 → HallAt K H' p bs → (∀ b o, H b = some o → b ≠ p → H' b = some o) → Q .non H'
theorem c_Hall (T : Txt K mg) : ∃ C, Mak P w K mg base 5 "Hall" C (sp_Hall K C) [] := by
  obtain ⟨C, fi, fd, cl, mk, hm, F, nB, nN⟩ := T.cls_Hall
  have C_is_board := c_is_board (P := P) (w := w) (base := base) T
  have C_names_of := c_names_of (P := P) (w := w) (base := base) T
  have sc := sc_Hall___init__
  refine ⟨C, ⟨fi, fd, ["self", "boards"], [], mk, F.ok (k := 4) sc (fun vs H Q E h => ?_) (fun cdv A outer s H vs Q E hr h => ?_), hm, F.binds fun _ _ _ _ _ _ us hl => match us, hl with | [_, _], _ => rfl, .nil⟩⟩
  · obtain ⟨p, dx, a, bs, rfl, _⟩ := h
    rfl
  · obtain ⟨p, dx, a, bs, rfl, hp, hb, ok, l1, l12, q⟩ := h
    obtain ⟨xs, ha, pr⟩ := id hb
    have el : xs.length = bs.length := paired_len pr
    obtain ⟨t, t1, t2⟩ := tyc_tup (K := K) ha
    refine ⟨_, (pss_cons (ps_if (PW.pt (pw_or (pt_not (pt_val (pe_callB call_isi rfl T.m_isinstance (by decide +kernel) (pa_cons (pv 1) (pa_cons (pe_bltn (v := .ty "tuple") (u := .type "tuple") rfl T.m_tuple (by decide +kernel) rfl) pa_nil))))) (pw_or1 (pt_not (pt_chain op_le op_le pe_int (pe_callB call_len_seq rfl T.m_len (by decide +kernel) (pa_cons (pv 1) pa_nil)) (pe_gc rfl T.g_MOST_BOARDS_halls)))))) (pss_one ps_never) pss_nil)
  (pss_cons (ps_for PassesOwn.never rfl (Nm.pi_enuT rfl T.m_enumerate (pa_cons (pv 1) pa_nil)) (pg_tup rfl (pgs_cons (pg_name (i := 2) sc.nd rfl (Or.inl rfl)) (pgs_cons (pg_name (i := 3) sc.nd rfl (Or.inl rfl)) pgs_nil))) (pss_one (ps_if (pt_not (pt_val (pe_c C_is_board hr (by omega) rfl (pa_cons (pv 3) pa_nil)))) (pss_one ps_never) pss_nil)))
  (pss_cons (ps_fld (pv 0) (pv 1) rfl)
  (pss_one (ps_fld (pv 0) (pe_c C_names_of hr (by omega) rfl (pa_cons (pv 1) pa_nil)) rfl))))), ?_⟩
    refine ⟨_, rfl, _, _, t, _, true, rfl, .ty _, t1, t2, true, rfl, ?_⟩
    refine iteF ⟨_, rfl, a, _, rfl, .inr (SqT.of ha), _, _, rfl, rfl, decide (1 ≤ (xs.length : Int)), rfl, ?_⟩
    rw [decide_eq_true (show 1 ≤ (xs.length : Int) by omega)]
    refine iteT ⟨_, _, rfl, rfl, decide ((xs.length : Int) ≤ 12), rfl, ?_⟩
    rw [decide_eq_true (show (xs.length : Int) ≤ 12 by omega)]
    refine iteF ?_
    refine ⟨_, rfl, a, xs, rfl, SqT.of ha, ?_⟩
    refine for_it walk_itu (fun i σ H1 => ∃ v2 v3, σ = [some (.ref p), some (.ref a), v2, v3] ∧ Same H H1) ⟨none, none, rfl, Same.refl H⟩ (fun i σ H1 _ ⟨_, _, _, g⟩ => SqT.of (g _ _ ha)) ?_ ?_
    · rintro i x σ H1 H2 hi ⟨v2, v3, rfl, g⟩ ⟨tp, x1, y, rfl, hn, rfl, e1, e2⟩
      obtain ⟨b, hb1, hb2⟩ := paired_at pr i y e2
      have g1 : Same H (upd H1 tp (.tup [x1, y])) := g.trans (same_new hn)
      refine ⟨tp, [x1, y], rfl, SqT.of upd_same, rfl, _, _, rfl, _, _, rfl, rfl, ?_⟩
      obtain ⟨o1, o2⟩ := ok b (List.mem_of_getElem? hb1)
      refine ⟨_, rfl, y, b, rfl, hb2.mono (same_tups g1), o2, fun H3 g3 => ⟨boardB b, rfl, ?_⟩⟩
      rw [o1]
      exact iteF ⟨_, _, rfl, g1.trans g3⟩
    · rintro σ H1 ⟨v2, v3, rfl, g⟩
      refine ⟨_, rfl, _, rfl, p, C, dx, [], rfl, g _ _ hp, cl, nB, (by show 0 < 1000; decide), ?_⟩
      have pa : a ≠ p := fun e => by
        rw [e, hp] at ha
        cases ha
      have other : ∀ {H5 : Hp} {o : HO}, Same H H5 → ∀ b u, H b = some u → b ≠ p → upd H5 p o b = some u := fun g5 b u hu hne => by
        rw [upd_ne hne]
        exact g5 b u hu
      have tups : ∀ b ys, H b = some (.tup ys) → b ≠ p := fun b ys hy e => by
        rw [e, hp] at hy
        cases hy
      refine ⟨_, rfl, a, bs, rfl, hb.mono (fun b ys hy => other g b _ hy (tups b ys hy)), by omega, fun H2 n ys g2 hn h2 nm => ?_⟩
      have hp2 : H2 p = some (.ins C dx (putF "boards" (.ref a) [])) := g2 _ _ upd_same
      refine ⟨_, rfl, p, C, dx, _, rfl, hp2, cl, nN, (by show 1 < 1000; decide), ?_⟩
      have pn : n ≠ p := fun e => by
        rw [e, hp2] at h2
        cases h2
      refine q _ _ upd_same (Nat.le_trans (putF_len _ _ _) (Nat.succ_le_succ (putF_len _ _ _))) ⟨C, dx, _, a, n, ys, cl, nB, nN, upd_same, ?_, ?_, ?_, ?_, nm⟩ ?_
      · rw [lookup_putF, if_neg nb_ne, lookup_putF, if_pos rfl]
      · rw [lookup_putF, if_pos rfl]
      · refine hb.mono fun b zs hz => ?_
        rw [upd_ne (tups b zs hz)]
        exact g2 _ _ (other g b _ hz (tups b zs hz))
      · rw [upd_ne pn]
        exact h2
      · intro b o ho hne
        rw [upd_ne hne]
        exact g2 _ _ (other g b o ho hne)
end
end K24
namespace K24
open PySem L2 Nm
open C8 (Cal Mak pe_c pe_mk pe_gc)
open RZ (ItzT pi_zipA)
section
variable {P : Program} {w : World} {K : PySem.W.Frag} {mg : Str → Option Value} {base : Heap}
def sp__law_tape (K : PySem.W.Frag) : Sp := fun vs H Q _ => ∃ (a : Addr), vs = [.ref a] ∧ ∃ ns : List Int, SqL K H a (ns.map V.int) ∧ ∀ tp l H', Same H H' → H tp = none → TapeAt H' tp l → Q (.ref tp) H'
theorem c__law_tape (T : Txt K mg) : Cal P w K mg base 1 "_law_tape" (sp__law_tape K) [] := by
  have sc := sc__law_tape
  refine cal_of T.d__law_tape sc (fun _ _ _ _ _ _ us hl => match us, hl with | [_], _ => rfl) (fun vs H Q E h => ?_) (fun f cdv A outer s H vs Q E hr h => ?_)
  · obtain ⟨a, rfl, _⟩ := h
    rfl
  · obtain ⟨a, rfl, h⟩ := h
    refine ⟨_, (pss_one (ps_ret (pe_lst (pa_cons (pe_callTy call_list_of rfl T.m_list (by decide +kernel) (pa_cons (pv 0) pa_nil)) (pa_cons pe_int (pa_cons pe_int (pa_cons pe_int (pa_cons pe_int pa_nil)))))))), ?_⟩
    obtain ⟨ns, hs, q⟩ := h
    refine ⟨_, rfl, a, _, rfl, .inl hs, fun l hl => ⟨(by show 5 ≤ PySem.sizeLine; decide), fun tp ht => ?_⟩⟩
    have g1 : Same H (upd H l (.lst (ns.map V.int))) := same_new hl
    exact q tp l _ (g1.trans (same_new ht)) (g1.free ht) ⟨ns, 0, 0, 1, 0, upd_same, same_new ht _ _ upd_same, Int.le_refl 0⟩
end
end K24
namespace K24
open PySem L2 Nm
open C8 (Cal Mak pe_c pe_mk pe_gc)
open RZ (ItzT pi_zipA)
section
variable {P : Program} {w : World} {K : PySem.W.Frag} {mg : Str → Option Value} {base : Heap}
def sp__law_pick (K : PySem.W.Frag) : Sp := fun vs H Q _ => ∃ (tp : Addr) (size : Int), vs = [.ref tp, .int size] ∧ ∃ l, TapeAt H tp l ∧ 1 ≤ size ∧ size ≤ 1000 ∧ ∀ r H', 0 ≤ r → r < size → TapeAt H' tp l → Mov tp H H' → Q (.int r) H'
theorem c__law_pick (T : Txt K mg) : Cal P w K mg base 1 "_law_pick" (sp__law_pick K) [] := by
  have sc := sc__law_pick
  refine cal_of T.d__law_pick sc (fun _ _ _ _ _ _ us hl => match us, hl with | [_, _], _ => rfl) (fun vs H Q E h => ?_) (fun f cdv A outer s H vs Q E hr h => ?_)
  · obtain ⟨tp, size, rfl, _⟩ := h
    rfl
  · obtain ⟨tp, size, rfl, h⟩ := h
    refine ⟨_, (pss_cons (ps_if (pt_cmpR op_gt (pe_ix ix_list (pv 0) pe_int (fun _ _ => rfl)) pe_int (nomark _)) (pss_cons (ps_set (i := 2) sc.nd rfl (Or.inl rfl) (pe_op op_mod (pe_callTy call_int1 rfl T.m_int (by decide +kernel) (pa_cons (pe_ix ix_list (pv 0) pe_int (fun _ _ => rfl)) pa_nil)) (pv 1)))
  (pss_cons (ps_asg (pe_op op_fdiv (pe_ix ix_list (pv 0) pe_int (fun _ _ => rfl)) (pv 1)) (pg_sub (pv 0) pe_int set_list))
  (pss_one (ps_ret (pv 2))))) pss_nil)
  (pss_cons (ps_asg (pe_op op_add (pe_ix ix_list (pv 0) pe_int (fun _ _ => rfl)) pe_int) (pg_sub (pv 0) pe_int set_list))
  (pss_cons (ps_set (i := 3) sc.nd rfl (Or.inl rfl) pe_int)
  (C8.pss_cut (ps_if (pt_cmpR op_lt (pe_ix ix_list (pv 0) pe_int (fun _ _ => rfl)) (pe_callB call_len_seq rfl T.m_len (by decide +kernel) (pa_cons (pe_ix ix_list (pv 0) pe_int (fun _ _ => rfl)) pa_nil)) (nomark _)) (pss_cons (ps_set (i := 3) sc.nd rfl (Or.inl rfl) (pe_ix ix_list (pe_ix ix_list (pv 0) pe_int (fun _ _ => rfl)) (pe_ix ix_list (pv 0) pe_int (fun _ _ => rfl)) (fun _ _ => rfl)))
  (pss_one (ps_asg (pe_op op_add (pe_ix ix_list (pv 0) pe_int (fun _ _ => rfl)) pe_int) (pg_sub (pv 0) pe_int set_list)))) pss_nil)
  (pss_cons (ps_if (pt_cmpR op_ge (pv 3) (pe_op op_pow pe_int pe_int) (nomark _)) (pss_cons (ps_asg (pe_op op_fdiv (pv 3) (pv 1)) (pg_sub (pv 0) pe_int set_list))
  (pss_one (ps_ret (pe_op op_mod (pe_callTy call_int1 rfl T.m_int (by decide +kernel) (pa_cons (pv 3) pa_nil)) (pv 1))))) pss_nil)
  (pss_cons (ps_set (i := 4) sc.nd rfl (Or.inl rfl) (pe_op op_mod (pe_callTy call_int1 rfl T.m_int (by decide +kernel) (pa_cons (pe_op op_add (pe_op op_add (pe_op op_mul (pe_ix ix_list (pv 0) pe_int (fun _ _ => rfl)) pe_int) (pe_op op_mod (pe_callTy call_int1 rfl T.m_int (by decide +kernel) (pa_cons (pv 3) pa_nil)) pe_int)) (pe_op op_mul (pe_ix ix_list (pv 0) pe_int (fun _ _ => rfl)) pe_int)) pa_nil)) pe_int))
  (pss_cons (ps_set (i := 4) sc.nd rfl (Or.inl rfl) (pe_op op_mod (pe_callTy call_int1 rfl T.m_int (by decide +kernel) (pa_cons (pe_op op_mul (pv 4) (pe_op op_add (pe_op op_fdiv (pv 4) pe_int) pe_int)) pa_nil)) pe_int))
  (pss_cons (ps_asg (pv 4) (pg_sub (pv 0) pe_int set_list))
  (pss_one (ps_ret (pe_op op_mod (pe_callTy call_int1 rfl T.m_int (by decide +kernel) (pa_cons (pe_op op_fdiv (pv 4) pe_int) pa_nil)) (pv 1)))))))))))), ?_⟩
    obtain ⟨l, ⟨ns, i, c, m, n, ht, hl, h0⟩, s1, s2, q⟩ := h
    have nl : l ≠ tp := tape_ne ht hl
    have pos : (0 : Int) < size := by omega
    refine ⟨_, rfl, tp, _, 2, .int c, rfl, rfl, SqL.of ht, rfl, _, _, rfl, rfl, _, rfl, ?_⟩
    refine ite2 (fun _ => ?_) (fun _ => ?_)
    · refine ⟨_, rfl, tp, _, 2, .int c, rfl, rfl, SqL.of ht, rfl, .inl ⟨c, rfl, _, rfl, c, size, rfl, rfl, pos, ?_⟩⟩
      refine ⟨_, rfl, tp, _, 2, .int c, rfl, rfl, SqL.of ht, rfl, _, rfl, c, size, rfl, rfl, ⟨pos, by omega⟩, ?_⟩
      refine ⟨_, rfl, tp, _, 2, 2, rfl, rfl, ht, rfl, _, rfl, ?_⟩
      exact q _ _ (Int.emod_nonneg _ (by omega)) (Int.emod_lt_of_pos _ pos) ⟨ns, i, c / size, m, n, upd_same, by rw [upd_ne nl]; exact hl, h0⟩ mov_upd
    · refine ⟨_, rfl, tp, _, 4, .int n, rfl, rfl, SqL.of ht, rfl, n, 1, rfl, rfl, _, rfl, tp, _, 4, 4, rfl, rfl, ht, rfl, ?_⟩
      have ht1 : upd H tp (.lst [.ref l, .int i, .int c, .int m, .int (n + 1)]) tp = some (.lst [.ref l, .int i, .int c, .int m, .int (n + 1)]) := upd_same
      have hl1 : upd H tp (.lst [.ref l, .int i, .int c, .int m, .int (n + 1)]) l = some (.lst (ns.map V.int)) := by
        rw [upd_ne nl]
        exact hl
      refine ⟨fun σ H1 => ∃ cell j, σ = [some (.ref tp), some (.int size), none, some (.int cell), none] ∧ 0 ≤ j ∧ H1 tp = some (.lst [.ref l, .int j, .int c, .int m, .int (n + 1)]) ∧ H1 l = some (.lst (ns.map V.int)) ∧ Mov tp H H1, ?_, ?_⟩
      · refine ⟨_, rfl, tp, _, 1, .int i, rfl, rfl, SqL.of ht1, rfl, _, rfl, tp, _, 0, .ref l, rfl, rfl, SqL.of ht1, rfl, l, _, rfl, .inl (SqL.of hl1), _, _, rfl, rfl, _, rfl, ?_⟩
        rw [List.length_map]
        refine ite2 (fun z => ?_) (fun _ => ?_)
        · have z' : i < (ns.length : Int) := of_decide_eq_true z
          have at1 : atI (ns.map V.int) i = some (V.int (ns.getD i.toNat 0)) := by
            have e : i = ((i.toNat : Nat) : Int) := by omega
            rw [e, Int.toNat_natCast]
            exact at_getD (by omega)
          refine ⟨_, rfl, tp, _, 0, .ref l, rfl, rfl, SqL.of ht1, rfl, _, rfl, tp, _, 1, .int i, rfl, rfl, SqL.of ht1, rfl, l, _, i, _, rfl, rfl, SqL.of hl1, at1, ?_⟩
          refine ⟨_, rfl, tp, _, 1, .int i, rfl, rfl, SqL.of ht1, rfl, i, 1, rfl, rfl, _, rfl, tp, _, 1, 1, rfl, rfl, ht1, rfl, ?_⟩
          exact ⟨_, i + 1, rfl, by omega, upd_same, by rw [upd_ne nl]; exact hl1, mov_upd.trans mov_upd⟩
        · exact ⟨0, i, rfl, h0, ht1, hl1, mov_upd⟩
      · rintro σ H1 ⟨cell, j, rfl, j0, ht2, hl2, mv⟩
        refine ⟨_, rfl, _, _, rfl, rfl, ⟨by decide, by decide, by decide⟩, _, _, rfl, rfl, _, rfl, ?_⟩
        refine ite2 (fun _ => ?_) (fun _ => ?_)
        · refine ⟨_, rfl, _, rfl, cell, size, rfl, rfl, ⟨pos, by omega⟩, _, rfl, tp, _, 2, 2, rfl, rfl, ht2, rfl, ?_⟩
          refine ⟨_, rfl, .inl ⟨cell, rfl, _, rfl, cell, size, rfl, rfl, pos, ?_⟩⟩
          exact q _ _ (Int.emod_nonneg _ (by omega)) (Int.emod_lt_of_pos _ pos) ⟨ns, j, cell / size, m, n + 1, upd_same, by rw [upd_ne nl]; exact hl2, j0⟩ (mv.trans mov_upd)
        · refine ⟨_, rfl, tp, _, 3, .int m, rfl, rfl, SqL.of ht2, rfl, _, _, rfl, rfl, .inr ⟨by decide, by decide⟩, _, rfl, .inl ⟨cell, rfl, cell, _, rfl, rfl, (by show (0 : Int) < _; decide), ?_⟩⟩
          refine ⟨_, _, rfl, rfl, _, rfl, tp, _, 4, .int (n + 1), rfl, rfl, SqL.of ht2, rfl, _, _, rfl, rfl, .inr ⟨by decide, by decide⟩, ?_⟩
          refine ⟨_, _, rfl, rfl, .inl ⟨_, rfl, _, _, rfl, rfl, (by show (0 : Int) < _; decide), ?_⟩⟩
          have x0 : 0 ≤ (m * 48271 + cell % 2147483629 + (n + 1) * 69621) % 2147483647 := Int.emod_nonneg _ (by decide)
          have x1 : (m * 48271 + cell % 2147483629 + (n + 1) * 69621) % 2147483647 < 2147483647 := Int.emod_lt_of_pos _ (by decide)
          refine ⟨_, rfl, _, rfl, _, _, rfl, rfl, ⟨by decide, by decide⟩, _, _, rfl, rfl, _, _, rfl, rfl, .inl ⟨by omega, by omega⟩, .inl ⟨_, rfl, _, _, rfl, rfl, (by show (0 : Int) < _; decide), ?_⟩⟩
          refine ⟨_, rfl, _, rfl, tp, _, 3, 3, rfl, rfl, ht2, rfl, ?_⟩
          refine ⟨_, rfl, _, _, rfl, rfl, ⟨by decide, by decide⟩, .inl ⟨_, rfl, _, rfl, _, size, rfl, rfl, pos, ?_⟩⟩
          exact q _ _ (Int.emod_nonneg _ (by omega)) (Int.emod_lt_of_pos _ pos) ⟨ns, j, c, _, n + 1, upd_same, by rw [upd_ne nl]; exact hl2, j0⟩ (mv.trans mov_upd)
end
end K24
namespace K24
open PySem L2 Nm
open C8 (Cal Mak pe_c pe_mk pe_gc)
open RZ (ItzT pi_zipA)
section
variable {P : Program} {w : World} {K : PySem.W.Frag} {mg : Str → Option Value} {base : Heap}
def sp_are_pair (K : PySem.W.Frag) : Sp := fun vs H Q _ => ∃ (x y : V), vs = [x, y] ∧ ∃ b c, BoardAt H x b ∧ BoardAt H y c ∧ okB b ∧ okB c ∧ ∀ H', Same H H' → Q (.bl (arePair b c)) H'
theorem c_are_pair (T : Txt K mg) : Cal P w K mg base 1 "are_pair" (sp_are_pair K) [] := by
  have sc := sc_are_pair
  refine cal_of T.d_are_pair sc (fun _ _ _ _ _ _ us hl => match us, hl with | [_, _], _ => rfl) (fun vs H Q E h => ?_) (fun f cdv A outer s H vs Q E hr h => ?_)
  · obtain ⟨x, y, rfl, _⟩ := h
    rfl
  · obtain ⟨x, y, rfl, h⟩ := h
    obtain ⟨b, c, hx, hy, ob, oc, q⟩ := h
    have hx' := hx
    have hy' := hy
    obtain ⟨a, r, rfl, ha, hr1⟩ := hx
    obtain ⟨a2, r2, rfl, ha2, hr2⟩ := hy
    have q0 := q H (Same.refl H)
    refine ⟨_, (pss_cons (ps_if (PW.pt (pw_or (pt_cmpR op_ne (pe_ix ix_tup (pv 0) pe_int (fun _ _ => rfl)) (pe_ix ix_tup (pv 1) pe_int (fun _ _ => rfl)) (nomark _)) (pw_or1 (pt_cmpR op_eq (pe_ix ix_tup (pv 0) pe_int (fun _ _ => rfl)) (pe_ix ix_tup (pv 1) pe_int (fun _ _ => rfl)) (nomark _))))) (pss_one (ps_ret pe_bl)) pss_nil)
  (C8.pss_cut (ps_asg (pe_ifExp (pt_cmpR op_le (pe_callB call_len_seq rfl T.m_len (by decide +kernel) (pa_cons (pe_ix ix_tup (pv 0) pe_int (fun _ _ => rfl)) pa_nil)) (pe_callB call_len_seq rfl T.m_len (by decide +kernel) (pa_cons (pe_ix ix_tup (pv 1) pe_int (fun _ _ => rfl)) pa_nil)) (nomark _)) (pe_tup (pa_cons (pv 0) (pa_cons (pv 1) pa_nil))) (pe_tup (pa_cons (pv 1) (pa_cons (pv 0) pa_nil)))) (pg_tup rfl (pgs_cons (pg_name (i := 2) sc.nd rfl (Or.inl rfl)) (pgs_cons (pg_name (i := 3) sc.nd rfl (Or.inl rfl)) pgs_nil))))
  (pss_cons (ps_if (pt_cmpR (op_eqD hr.units) (pe_ix ix_tup (pv 2) pe_int (fun _ _ => rfl)) (pe_ix ix_tup (pv 3) pe_int (fun _ _ => rfl)) (nomark _)) (pss_one (ps_ret pe_bl)) pss_nil)
  (pss_one (ps_ret (pe_and (pe_cmpR (op_eqD hr.units) (pe_slice sl_tupA (pe_ix ix_tup (pv 3) pe_int (fun _ _ => rfl)) po_none (po_some (pe_un un_neg pe_int))) (pe_ix ix_tup (pv 2) pe_int (fun _ _ => rfl)) (nomark _)) (pe_one (pe_cmpR op_ne (pe_op op_mod (pe_callB call_len_seq rfl T.m_len (by decide +kernel) (pa_cons (pe_ix ix_tup (pv 2) pe_int (fun _ _ => rfl)) pa_nil)) pe_int) (pe_ix ix_tup (pv 3) pe_int (fun _ _ => rfl)) (nomark _))))))))), ?_⟩
    refine ⟨_, rfl, a, _, 0, .str b.1, rfl, rfl, SqT.of ha, rfl, _, rfl, a2, _, 0, .str c.1, rfl, rfl, SqT.of ha2, rfl, rfl, _, rfl, ?_⟩
    rw [decS]
    refine ite2 (fun z => iteT ?_) (fun z => ?_)
    · have n : ¬ b.1 = c.1 := by
        intro e
        rw [decide_eq_true e] at z
        cases z
      have e : arePair b c = false := by
        unfold arePair
        rw [decide_eq_false n, Bool.false_and]
      rw [e] at q0
      exact q0
    have n : b.1 = c.1 := by
      by_cases e : b.1 = c.1
      · exact e
      · rw [decide_eq_false e] at z
        exact absurd rfl z
    refine ⟨_, rfl, a, _, 1, .int b.2.1, rfl, rfl, SqT.of ha, rfl, _, rfl, a2, _, 1, .int c.2.1, rfl, rfl, SqT.of ha2, rfl, rfl, _, rfl, ?_⟩
    rw [decI]
    refine ite2 (fun z => ?_) (fun z => ?_)
    · have e : arePair b c = false := by
        unfold arePair
        rw [z, Bool.not_true, Bool.false_and, Bool.and_false]
      rw [e] at q0
      exact q0
    have sd : ¬ b.2.1 = c.2.1 := of_decide_eq_false (Bool.eq_false_iff.mpr z)
    refine ⟨fun σ H1 => ∃ s l sb lb, σ = [some (.ref a), some (.ref a2), some s, some l] ∧ Same H H1 ∧ BoardAt H1 s sb ∧ BoardAt H1 l lb ∧ okB sb ∧ okB lb ∧ arePair b c = (decide (sb.2.2 = lb.2.2) || (decide (lb.2.2.dropLast = sb.2.2) && !decide ((sb.2.2.length : Int) % 2 = lb.2.1))), ?_, ?_⟩
    · refine ⟨_, rfl, a, _, 2, .ref r, rfl, rfl, SqT.of ha, rfl, r, _, rfl, .inr (SqT.of hr1), _, rfl, a2, _, 2, .ref r2, rfl, rfl, SqT.of ha2, rfl, r2, _, rfl, .inr (SqT.of hr2), _, _, rfl, rfl, _, rfl, ?_⟩
      rw [List.length_map, List.length_map]
      refine ite2 (fun z => ?_) (fun z => ?_)
      · have l : b.2.2.length ≤ c.2.2.length := by
          have := of_decide_eq_true z
          omega
        refine ⟨_, rfl, _, rfl, l2, fun t ht => ?_⟩
        have g := same_new (o := .tup [V.ref a, V.ref a2]) ht
        refine ⟨t, [.ref a, .ref a2], rfl, SqT.of upd_same, rfl, _, _, rfl, _, _, rfl, rfl, ?_⟩
        exact ⟨_, _, b, c, rfl, g, hx'.mono (same_tups g), hy'.mono (same_tups g), ob, oc, pair_short n sd l⟩
      · have l : c.2.2.length ≤ b.2.2.length := by
          have := of_decide_eq_false (Bool.eq_false_iff.mpr z)
          omega
        refine ⟨_, rfl, _, rfl, l2, fun t ht => ?_⟩
        have g := same_new (o := .tup [V.ref a2, V.ref a]) ht
        refine ⟨t, [.ref a2, .ref a], rfl, SqT.of upd_same, rfl, _, _, rfl, _, _, rfl, rfl, ?_⟩
        exact ⟨_, _, c, b, rfl, g, hy'.mono (same_tups g), hx'.mono (same_tups g), oc, ob, (pair_swap b c).trans (pair_short n.symm (fun e => sd e.symm) l)⟩
    · rintro σ H1 ⟨s, l, sb, lb, rfl, g, ⟨sa, sr, rfl, hsa, hsr⟩, ⟨la, lr, rfl, hla, hlr⟩, os, ol, e⟩
      rw [e] at q
      refine ⟨_, rfl, sa, _, 2, .ref sr, rfl, rfl, SqT.of hsa, rfl, _, rfl, la, _, 2, .ref lr, rfl, rfl, SqT.of hla, rfl, rowD sb.2.2, rowD lb.2.2, dp_row hsr, dp_row hlr, shaped_row os.lay, shaped_row ol.lay, _, rfl, ?_⟩
      rw [eqv_row]
      refine ite2 (fun z => ?_) (fun z => ?_)
      · rw [z, Bool.true_or] at q
        exact q H1 g
      · rw [Bool.eq_false_iff.mpr z, Bool.false_or] at q
        refine ⟨_, rfl, la, _, 2, .ref lr, rfl, rfl, SqT.of hla, rfl, 1, rfl, _, rfl, sl_last hlr fun d H2 g2 hd => ?_⟩
        rw [← List.map_dropLast] at hd
        refine ⟨_, rfl, sa, _, 2, .ref sr, rfl, rfl, SqT.of (g2 _ _ hsa), rfl, rowD lb.2.2.dropLast, rowD sb.2.2, dp_row hd, dp_row (g2 _ _ hsr), shaped_row (fun z hz => ol.lay z ((List.dropLast_sublist lb.2.2).subset hz)), shaped_row os.lay, _, rfl, ?_⟩
        rw [eqv_row]
        refine ite2 (fun z => ?_) (fun z => ?_)
        · rw [z, Bool.true_and] at q
          refine ⟨_, rfl, sa, _, 2, .ref sr, rfl, rfl, SqT.of (g2 _ _ hsa), rfl, sr, _, rfl, .inr (SqT.of (g2 _ _ hsr)), _, _, rfl, rfl, (by show (0 : Int) < 2; decide), _, rfl, la, _, 1, .int lb.2.1, rfl, rfl, SqT.of (g2 _ _ hla), rfl, rfl, ?_⟩
          show Q (V.bl (!decide (V.int (((sb.2.2.map V.str).length : Nat) % 2) = V.int lb.2.1))) H2
          rw [decI, List.length_map]
          exact q H2 (g.trans g2)
        · rw [Bool.eq_false_iff.mpr z, Bool.false_and] at q
          exact q H2 (g.trans g2)
end
end K24
namespace K24
open PySem L2 Nm
open C8 (Cal Mak pe_c pe_mk pe_gc)
open RZ (ItzT pi_zipA)
section
variable {P : Program} {w : World} {K : PySem.W.Frag} {mg : Str → Option Value} {base : Heap}
def sp_pairs_of (K : PySem.W.Frag) : Sp := fun vs H Q _ => ∃ (a : Addr), vs = [.ref a] ∧ ∃ bs, BoardsAt H a bs ∧ (∀ b ∈ bs, okB b) ∧ bs.length ≤ 60 ∧ ∀ p H', H p = none → PrsAt H' p (pairsOf (onB arePair bs) bs.length) → Same H H' → Q (.ref p) H'
theorem c_pairs_of (T : Txt K mg) : Cal P w K mg base 2 "pairs_of" (sp_pairs_of K) [] := by
  have C_are_pair := c_are_pair (P := P) (w := w) (base := base) T
  have sc := sc_pairs_of
  refine cal_of T.d_pairs_of sc (fun _ _ _ _ _ _ us hl => match us, hl with | [_], _ => rfl) (fun vs H Q E h => ?_) (fun f cdv A outer s H vs Q E hr h => ?_)
  · obtain ⟨a, rfl, _⟩ := h
    rfl
  · obtain ⟨a, rfl, h⟩ := h
    obtain ⟨bs, ⟨xs, ha, pr⟩, ok, l60, q⟩ := h
    have el : xs.length = bs.length := paired_len pr
    refine ⟨_, (pss_cons (ps_set (i := 1) sc.nd rfl (Or.inl rfl) (pe_lst pa_nil))
  (pss_cons (ps_for PassesOwn.never rfl (pi_range1 rfl T.m_range (pa_cons (pe_callB call_len_seq rfl T.m_len (by decide +kernel) (pa_cons (pv 0) pa_nil)) pa_nil)) (pg_name (i := 2) sc.nd rfl (Or.inr rfl)) (pss_one (ps_expr (pe_bm PySem.F.plainAttrs_list PySem.F.slot_list_extend PySem.F.type_list_extend mt_extend (pv 1) (pa_cons (pe_lc (own := [("other", 3)]) (g := gName 3) rfl sc.nd (pi_range2 rfl T.m_range (pa_cons (pe_op op_add (pv 2) pe_int) (pa_cons (pe_callB call_len_seq rfl T.m_len (by decide +kernel) (pa_cons (pv 0) pa_nil)) pa_nil))) (blkOk_by (own := [("other", 3)]) (N := ["boards", "found", "one", "other"]) (sc := defScope s_pairs_of) (by decide +kernel)) (fun _ _ _ _ _ => (pg_name (i := 3) sc.nd rfl (Or.inl rfl))) (fun _ _ _ _ _ => (pts_one (pt_val (pe_c C_are_pair hr (by omega) rfl (pa_cons (pe_ix (r := rIxT K) ix_tup (pv 0) (pv 2) (fun _ _ => rfl)) (pa_cons (pe_ix (r := rIxT K) ix_tup (pv 0) (pv 3) (fun _ _ => rfl)) pa_nil)))))) (fun _ _ _ _ _ => (pe_tup (pa_cons (pv 2) (pa_cons (pv 3) pa_nil))))) pa_nil)))))
  (pss_one (ps_ret (pv 1))))), ?_⟩
    refine ⟨(by show 0 ≤ PySem.sizeLine; decide), fun D hD => ?_⟩
    have g0 := same_new (o := .lst []) hD
    refine ⟨_, rfl, a, _, rfl, .inr (SqT.of (g0 _ _ ha)), _, rfl, by omega, by omega, ?_⟩
    refine for_range (lo := 0) (n := ((xs.length : Nat) : Int).toNat) (fun i σ H1 => ∃ v3 v4, σ = [some (.ref a), some (.ref D), v3, v4] ∧ PrsAt H1 D (pairsUp (onB arePair bs) bs.length i) ∧ (pairsUp (onB arePair bs) bs.length i).length ≤ i * 60 ∧ Same H H1)
      ⟨_, _, rfl, ⟨[], upd_same, .nil⟩, Nat.zero_le _, g0⟩ ?_ ?_
    · rintro i σ H1 hi ⟨v3, v4, rfl, ⟨ws, hw, pw⟩, lw, g⟩
      have hi' : i < bs.length := by omega
      obtain ⟨x, hx⟩ : ∃ x, xs[i]? = some x := ⟨xs[i]'(by omega), List.getElem?_eq_getElem (by omega)⟩
      obtain ⟨b, hb, hxb⟩ := paired_at pr i x hx
      refine ⟨_, rfl, .inl ⟨rfl, _, SqL.of hw⟩, ?_⟩
      refine ⟨_, rfl, _, _, rfl, rfl, _, rfl, a, _, rfl, .inr (SqT.of (g _ _ ha)), _, _, rfl, ⟨by omega, by omega, by omega, by omega⟩, fun D2 hD2 => ?_⟩
      have nD : D2 ≠ D := (ne_of_none hw hD2).symm
      refine lc_range (fun k H2 => ∃ zs, H2 D2 = some (.lst zs) ∧ Paired (PrAt H2) zs (rowUp (onB arePair bs) i k) ∧ zs.length ≤ k ∧ Same H1 H2) ⟨[], upd_same, .nil, Nat.zero_le _, same_new hD2⟩ ?_ ?_
      · rintro k H2 hk ⟨zs, hz, pz, lz, g2⟩
        have hk' : i + 1 + k < bs.length := by omega
        obtain ⟨y, hy⟩ : ∃ y, xs[i + 1 + k]? = some y := ⟨xs[i + 1 + k]'(by omega), List.getElem?_eq_getElem (by omega)⟩
        obtain ⟨c, hc, hyc⟩ := paired_at pr _ y hy
        have g12 := g.trans g2
        refine ⟨rfl, ?_⟩
        refine ⟨_, rfl, _, rfl, a, _, _, x, rfl, rfl, SqT.of (g12 _ _ ha), by rw [Int.zero_add]; exact atI_nat hx, _, rfl, _, rfl, a, _, _, y, rfl, rfl, SqT.of (g12 _ _ ha), by rw [show (0 + (i : Int) + 1 + (k : Int)) = ((i + 1 + k : Nat) : Int) by omega]; exact atI_nat hy, ?_⟩
        refine ⟨x, y, rfl, b, c, hxb.mono (same_tups g12), hyc.mono (same_tups g12), ok b (List.mem_of_getElem? hb), ok c (List.mem_of_getElem? hc), fun H3 g3 => ⟨_, rfl, ?_⟩⟩
        have g13 := g2.trans g3
        refine ite2 (fun z => ?_) (fun z => ?_)
        · refine ⟨_, rfl, _, rfl, l2, fun t ht => ?_⟩
          have gt := same_new (o := .tup [V.int (0 + (i : Int)), V.int (0 + (i : Int) + 1 + (k : Int))]) ht
          refine ⟨zs, gt _ _ (g3 _ _ hz), ?_, zs ++ [.ref t], upd_same, ?_, by rw [List.length_append]; exact Nat.succ_le_succ lz, same_mut (g13.trans gt) hD2⟩
          · have b1 : (1000 : Nat) < PySem.sizeLine := by decide
            omega
          · rw [rowUp_one, onB_at hb hc, if_pos z]
            have kd : ∀ e us, upd H3 t (.tup [V.int (0 + (i : Int)), V.int (0 + (i : Int) + 1 + (k : Int))]) e = some (.tup us) → upd (upd H3 t (.tup [V.int (0 + (i : Int)), V.int (0 + (i : Int) + 1 + (k : Int))])) D2 (.lst (zs ++ [.ref t])) e = some (.tup us) := fun e us he => by
              rw [upd_ne (fun w => by rw [w, gt _ _ (g3 _ _ hz)] at he; cases he)]
              exact he
            refine paired_snoc (paired_mono (fun _ _ w => (w.mono (same_tups (g3.trans gt))).mono kd) pz) ⟨t, rfl, ?_⟩
            rw [kd _ _ upd_same]
            show some (HO.tup [V.int (0 + (i : Int)), V.int (0 + (i : Int) + 1 + (k : Int))]) = some (HO.tup [V.int (i : Int), V.int ((i + 1 + k : Nat) : Int)])
            rw [show (0 + (i : Int) + 1 + (k : Int)) = ((i + 1 + k : Nat) : Int) by omega, Int.zero_add]
        · refine ⟨zs, g3 _ _ hz, ?_, by omega, g13⟩
          rw [rowUp_one, onB_at hb hc, if_neg z, List.append_nil]
          exact paired_mono (fun _ _ w => w.mono (same_tups g3)) pz
      · rintro H2 ⟨zs, hz, pz, lz, g2⟩
        have ew : ws.length = (pairsUp (onB arePair bs) bs.length i).length := paired_len pw
        have b1 : (10000 : Nat) < PySem.sizeLine := by decide
        have lz' : zs.length ≤ 60 := by omega
        have e1 : ((xs.length : Int) - (0 + (i : Int) + 1)).toNat = bs.length - (i + 1) := by omega
        rw [e1] at pz
        have ez : zs.length = (rowUp (onB arePair bs) i (bs.length - (i + 1))).length := paired_len pz
        refine ⟨D, D2, ws, zs, rfl, rfl, g2 _ _ hw, hz, by omega, ?_⟩
        have kd : ∀ e us, H2 e = some (.tup us) → upd H2 D (.lst (ws ++ zs)) e = some (.tup us) := fun e us he => by
          rw [upd_ne (fun w => by rw [w, g2 _ _ hw] at he; cases he)]
          exact he
        refine ⟨_, _, rfl, ⟨ws ++ zs, upd_same, ?_⟩, ?_, same_mut (g.trans g2) hD⟩
        · rw [pairsUp_one]
          exact paired_app (paired_mono (fun _ _ w => (w.mono (same_tups g2)).mono kd) pw) (paired_mono (fun _ _ w => w.mono kd) pz)
        · rw [pairsUp_one, List.length_append]
          omega
    · rintro σ H1 ⟨v3, v4, rfl, hw, lw, g⟩
      have e1 : ((xs.length : Nat) : Int).toNat = bs.length := by omega
      rw [e1] at hw
      exact ⟨_, rfl, q D H1 hD hw g⟩
end
end K24
namespace K24
open PySem L2 Nm
open C8 (Cal Mak pe_c pe_mk pe_gc)
open RZ (ItzT pi_zipA)
section
variable {P : Program} {w : World} {K : PySem.W.Frag} {mg : Str → Option Value} {base : Heap}
def sp_pairs (K : PySem.W.Frag) : Sp := fun vs H Q _ => ∃ (h0 : Addr), vs = [.ref h0] ∧ ∃ bs, HallAt K H h0 bs ∧ (∀ b ∈ bs, okB b) ∧ bs.length ≤ 60 ∧ ∀ p H', H p = none → PrsAt H' p (pairsOf (onB arePair bs) bs.length) → Same H H' → Q (.ref p) H'
theorem c_pairs (T : Txt K mg) : Cal P w K mg base 3 "pairs" (sp_pairs K) [] := by
  have C_pairs_of := c_pairs_of (P := P) (w := w) (base := base) T
  have sc := sc_pairs
  refine cal_of T.d_pairs sc (fun _ _ _ _ _ _ us hl => match us, hl with | [_], _ => rfl) (fun vs H Q E h => ?_) (fun f cdv A outer s H vs Q E hr h => ?_)
  · obtain ⟨h0, rfl, _⟩ := h
    rfl
  · obtain ⟨h0, rfl, h⟩ := h
    obtain ⟨bs, hH, ok, l60, q⟩ := h
    obtain ⟨C, dx, fs, a, n, ys, cl, nB, nN, hp, fb, fn, ha, hn', nm⟩ := id hH
    refine ⟨_, (pss_one (ps_ret (pe_c C_pairs_of hr (by omega) rfl (pa_cons (pe_fld (pv 0) rfl) pa_nil)))), ?_⟩
    exact ⟨_, rfl, h0, C, dx, fs, _, rfl, hp, cl, nB, fb, a, rfl, bs, ha, ok, l60, q⟩
end
end K24
namespace K24
open PySem L2 Nm
open C8 (Cal Mak pe_c pe_mk pe_gc)
open RZ (ItzT pi_zipA)
theorem at_ok {xs : List V} {r : Int} (h0 : 0 ≤ r) (h1 : r < (xs.length : Int)) : ∃ x, atI xs r = some x ∧ x ∈ xs := by
  obtain ⟨k, rfl⟩ : ∃ k : Nat, r = (k : Int) := ⟨r.toNat, by omega⟩
  have e : xs[k]? = some (xs[k]'(by omega)) := List.getElem?_eq_getElem (by omega)
  exact ⟨_, atI_nat e, List.mem_of_getElem? e⟩
section
variable {P : Program} {w : World} {K : PySem.W.Frag} {mg : Str → Option Value} {base : Heap}
def sp__law_some (K : PySem.W.Frag) : Sp := fun vs H Q _ => ∃ (tp p : Addr), vs = [.ref tp, .ref p] ∧ ∃ l xs, TapeAt H tp l ∧ H p = some (.lst xs) ∧ p ≠ tp ∧ 1 ≤ xs.length ∧ xs.length ≤ 1000 ∧ ∀ (x : V) (H' : Hp), x ∈ xs → TapeAt H' tp l → Mov tp H H' → Q x H'
theorem c__law_some (T : Txt K mg) : Cal P w K mg base 2 "_law_some" (sp__law_some K) [] := by
  have C__law_pick := c__law_pick (P := P) (w := w) (base := base) T
  have sc := sc__law_some
  refine cal_of T.d__law_some sc (fun _ _ _ _ _ _ us hl => match us, hl with | [_, _], _ => rfl) (fun vs H Q E h => ?_) (fun f cdv A outer s H vs Q E hr h => ?_)
  · obtain ⟨tp, p, rfl, _⟩ := h
    rfl
  · obtain ⟨tp, p, rfl, h⟩ := h
    refine ⟨_, (pss_one (ps_ret (pe_ix ix_list (pv 1) (pe_c C__law_pick hr (by omega) rfl (pa_cons (pv 0) (pa_cons (pe_callB call_len_seq rfl T.m_len (by decide +kernel) (pa_cons (pv 1) pa_nil)) pa_nil))) (fun _ _ => rfl)))), ?_⟩
    obtain ⟨l, xs, t, hp, np, l1, l2', q⟩ := h
    refine ⟨_, rfl, _, rfl, _, rfl, p, _, rfl, .inl (SqL.of hp), tp, _, rfl, l, t, by omega, by omega, fun r H1 r0 r1 t1 mv => ?_⟩
    obtain ⟨x, hx, mx⟩ := at_ok r0 r1
    exact ⟨p, _, r, x, rfl, rfl, SqL.of (mv _ _ hp np), hx, q x H1 mx t1 mv⟩
end
end K24
namespace K24
open PySem L2 Nm
open C8 (Cal Mak pe_c pe_mk pe_gc)
open RZ (ItzT pi_zipA)
def wordOk (z : Str) : Prop := letB z 20 = true ∧ z.length ≤ 1000
theorem few_ok : ∀ x ∈ [V.str "a", V.str "b", V.str "c", V.str "a", V.str "b", V.str "ab", V.str "zz", V.str "c", V.str "aa", V.str "qwertyuiopasdfghjklz"], ∃ z, x = .str z ∧ wordOk z := by
  intro x hx
  simp only [List.mem_cons, List.not_mem_nil, or_false] at hx
  rcases hx with rfl | rfl | rfl | rfl | rfl | rfl | rfl | rfl | rfl | rfl <;> exact ⟨_, rfl, by decide +kernel, by decide +kernel⟩
section
variable {P : Program} {w : World} {K : PySem.W.Frag} {mg : Str → Option Value} {base : Heap}
def sp__law_word (K : PySem.W.Frag) : Sp := fun vs H Q _ => ∃ (tp : Addr), vs = [.ref tp] ∧ ∃ l, TapeAt H tp l ∧ ∀ z H', wordOk z → TapeAt H' tp l → Mov tp H H' → Q (.str z) H'
theorem c__law_word (T : Txt K mg) : Cal P w K mg base 2 "_law_word" (sp__law_word K) [] := by
  have C__law_pick := c__law_pick (P := P) (w := w) (base := base) T
  have sc := sc__law_word
  refine cal_of T.d__law_word sc (fun _ _ _ _ _ _ us hl => match us, hl with | [_], _ => rfl) (fun vs H Q E h => ?_) (fun f cdv A outer s H vs Q E hr h => ?_)
  · obtain ⟨tp, rfl, _⟩ := h
    rfl
  · obtain ⟨tp, rfl, h⟩ := h
    refine ⟨_, (pss_cons (ps_set (i := 1) sc.nd rfl (Or.inl rfl) (pe_lst (pa_cons pe_str (pa_cons pe_str (pa_cons pe_str (pa_cons pe_str (pa_cons pe_str (pa_cons pe_str (pa_cons pe_str (pa_cons pe_str (pa_cons pe_str (pa_cons pe_str pa_nil))))))))))))
  (pss_one (ps_ret (pe_ix ix_list (pv 1) (pe_c C__law_pick hr (by omega) rfl (pa_cons (pv 0) (pa_cons pe_int pa_nil))) (fun _ _ => rfl))))), ?_⟩
    obtain ⟨l, t, q⟩ := h
    refine ⟨(by show 10 ≤ PySem.sizeLine; decide), fun p hp => ?_⟩
    have np := t.new hp
    have g := same_new (o := .lst [V.str "a", V.str "b", V.str "c", V.str "a", V.str "b", V.str "ab", V.str "zz", V.str "c", V.str "aa", V.str "qwertyuiopasdfghjklz"]) hp
    refine ⟨_, rfl, _, rfl, tp, 10, rfl, l, t.same g, by decide, by decide, fun r H1 r0 r1 t1 mv => ?_⟩
    obtain ⟨x, hx, mx⟩ := at_ok (xs := [V.str "a", V.str "b", V.str "c", V.str "a", V.str "b", V.str "ab", V.str "zz", V.str "c", V.str "aa", V.str "qwertyuiopasdfghjklz"]) r0 r1
    obtain ⟨z, rfl, hz⟩ := few_ok x mx
    exact ⟨p, _, r, _, rfl, rfl, SqL.of (mv _ _ upd_same np.1), hx, q z H1 hz t1 ((mov_same g).trans mv)⟩
end
end K24
namespace K24
open PySem L2 Nm
open C8 (Cal Mak pe_c pe_mk pe_gc)
open RZ (ItzT pi_zipA)
section
variable {P : Program} {w : World} {K : PySem.W.Frag} {mg : Str → Option Value} {base : Heap}
def sp__law_line (K : PySem.W.Frag) : Sp := fun vs H Q _ => ∃ (tp : Addr) (many : Int), vs = [.ref tp, .int many] ∧ ∃ l, TapeAt H tp l ∧ 0 ≤ many ∧ many ≤ 100 ∧ ∀ (r : Addr) (ws : List Str) (H' : Hp), H' r = some (.tup (ws.map V.str)) → (∀ z ∈ ws, wordOk z) → (ws.length : Int) = many → TapeAt H' tp l → Mov tp H H' → Q (.ref r) H'
theorem c__law_line (T : Txt K mg) : Cal P w K mg base 3 "_law_line" (sp__law_line K) [] := by
  have C__law_word := c__law_word (P := P) (w := w) (base := base) T
  have sc := sc__law_line
  refine cal_of T.d__law_line sc (fun _ _ _ _ _ _ us hl => match us, hl with | [_, _], _ => rfl) (fun vs H Q E h => ?_) (fun f cdv A outer s H vs Q E hr h => ?_)
  · obtain ⟨tp, many, rfl, _⟩ := h
    rfl
  · obtain ⟨tp, many, rfl, h⟩ := h
    refine ⟨_, (pss_one (ps_ret (pe_callTy call_tuple_of rfl T.m_tuple (by decide +kernel) (pa_cons (pe_lc (own := [("k", 2)]) (g := gName 2) rfl sc.nd (pi_range1 rfl T.m_range (pa_cons (pv 1) pa_nil)) (blkOk_by (own := [("k", 2)]) (N := ["tape", "many", "k"]) (sc := defScope s__law_line) (by decide +kernel)) (fun _ _ _ _ _ => (pg_name (i := 2) sc.nd rfl (Or.inl rfl))) (fun _ _ _ _ _ => pts_nil) (fun _ _ _ _ _ => (pe_c C__law_word hr (by omega) rfl (pa_cons (pv 0) pa_nil)))) pa_nil)))), ?_⟩
    obtain ⟨l, t0, m0, m1, q⟩ := h
    refine ⟨_, rfl, many, rfl, by omega, by omega, fun D hD => ?_⟩
    have nD := t0.new hD
    refine lc_range (lo := 0) (n := many.toNat) (fun i H1 => ∃ ws : List Str, H1 D = some (.lst (ws.map V.str)) ∧ (∀ z ∈ ws, wordOk z) ∧ ws.length = i ∧ TapeAt H1 tp l ∧ Mov tp H H1) ⟨[], upd_same, fun z hz => absurd hz (List.not_mem_nil), rfl, t0.upd nD, mov_mut (Mov.refl tp H) hD⟩ ?_ ?_
    · rintro i H1 hi ⟨ws, h1, ok, lw, t1, mv⟩
      refine ⟨rfl, ?_⟩
      refine ⟨_, rfl, tp, rfl, l, t1, fun z H2 hz t2 mv2 => ?_⟩
      have h2 : H2 D = some (.lst (ws.map V.str)) := mv2 _ _ h1 nD.1
      refine ⟨_, h2, ?_, ws ++ [z], ?_, ?_, by rw [List.length_append, lw]; rfl, t2.upd nD, mov_mut (mv.trans mv2) hD⟩
      · rw [List.length_map]
        have b : (1000 : Nat) < PySem.sizeLine := by decide
        omega
      · rw [upd_same, List.map_append]
        rfl
      · intro y hy
        rcases List.mem_append.mp hy with c | c
        · exact ok y c
        · rw [List.mem_singleton.mp c]
          exact hz
    · rintro H1 ⟨ws, h1, ok, lw, t1, mv⟩
      refine ⟨D, _, rfl, .inl ⟨SqL.of h1, fun p hp => ?_⟩⟩
      have g := same_new (o := .tup (ws.map V.str)) hp
      exact q p ws _ upd_same ok (by omega) (t1.same g) (mv.trans (mov_same g))
end
end K24
namespace K24
open PySem L2 Nm
open C8 (Cal Mak pe_c pe_mk pe_gc)
open RZ (ItzT pi_zipA)
/-- a drawn board -/
def drawn (b : Bd) : Prop := okB b ∧ b.2.2.length ≤ 3
theorem word_row {ws : List Str} (h : ∀ z ∈ ws, wordOk z) (l : ws.length ≤ 20) : rowB ws 20 = true := by
  unfold rowB
  rw [decide_eq_true (show ((ws.length : Nat) : Int) ≤ 20 by omega), Bool.true_and, List.all_eq_true]
  exact fun z hz => (h z hz).1
theorem drawn_ok {n : Str} {s : Int} {ws : List Str} (hn : letB n 8 = true) (ln : n.length ≤ 1000) (h0 : 0 ≤ s) (h1 : s < 2) (h : ∀ z ∈ ws, wordOk z) (l : ws.length ≤ 20) : okB (n, s, ws) := by
  refine ⟨?_, ln, by show ws.length ≤ 1000; omega, fun z hz => (h z hz).2⟩
  show (letB n 8 && ((decide (0 ≤ s) && decide (s ≤ 1)) && rowB ws 20)) = true
  rw [hn, word_row h l, decide_eq_true h0, decide_eq_true (show s ≤ 1 by omega)]
  rfl
theorem names_ok : ∀ x ∈ [V.str "p", V.str "q", V.str "pq"], ∃ z, x = .str z ∧ letB z 8 = true ∧ z.length ≤ 1000 := by
  intro x hx
  simp only [List.mem_cons, List.not_mem_nil, or_false] at hx
  rcases hx with rfl | rfl | rfl <;> exact ⟨_, rfl, by decide +kernel, by decide +kernel⟩
/-- a row stands there -/
def RowAt (H : Hp) (r : Addr) (ws : List Str) : Prop := H r = some (.tup (ws.map V.str)) ∧ ∀ z ∈ ws, wordOk z
theorem RowAt.mov {tp l : Addr} {H H' : Hp} {r : Addr} {ws : List Str} (h : RowAt H r ws) (t : TapeAt H tp l) (m : Mov tp H H') : RowAt H' r ws := ⟨(t.keep m).tups _ _ h.1, h.2⟩
section
variable {P : Program} {w : World} {K : PySem.W.Frag} {mg : Str → Option Value} {base : Heap}
def sp__law_boards (K : PySem.W.Frag) : Sp := fun vs H Q _ => ∃ (tp : Addr) (most : Int) (bg : Bool), vs = [.ref tp, .int most, .bl bg] ∧ ∃ l, TapeAt H tp l ∧ 1 ≤ most ∧ most ≤ 12 ∧
  ∀ (r : Addr) (bs : List Bd) (H' : Hp), BoardsAt H' r bs → (∀ b ∈ bs, drawn b) → 1 ≤ bs.length → (bs.length : Int) ≤ most → TapeAt H' tp l → Mov tp H H' → Q (.ref r) H'
theorem c__law_boards (T : Txt K mg) : Cal P w K mg base 4 "_law_boards" (sp__law_boards K) [] := by
  have C__law_line := c__law_line (P := P) (w := w) (base := base) T
  have C__law_pick := c__law_pick (P := P) (w := w) (base := base) T
  have C__law_some := c__law_some (P := P) (w := w) (base := base) T
  have sc := sc__law_boards
  refine cal_of T.d__law_boards sc (fun _ _ _ _ _ _ us hl => match us, hl with | [_, _, _], _ => rfl) (fun vs H Q E h => ?_) (fun f cdv A outer s H vs Q E hr h => ?_)
  · obtain ⟨tp, most, bg, rfl, _⟩ := h
    rfl
  · obtain ⟨tp, most, bg, rfl, h⟩ := h
    refine ⟨_, (pss_cons (ps_set (i := 3) sc.nd rfl (Or.inl rfl) (pe_op op_add pe_int (pe_callB (call_max2 rfl) rfl T.m_max (by decide +kernel) (pa_cons (pe_c C__law_pick hr (by omega) rfl (pa_cons (pv 0) (pa_cons (pv 1) pa_nil))) (pa_cons (pe_c C__law_pick hr (by omega) rfl (pa_cons (pv 0) (pa_cons (pv 1) pa_nil))) pa_nil)))))
  (pss_cons (ps_set (i := 4) sc.nd rfl (Or.inl rfl) (pe_slice sl_list (pe_lst (pa_cons pe_str (pa_cons pe_str (pa_cons pe_str pa_nil)))) po_none (po_some (pe_op op_add pe_int (pe_c C__law_pick hr (by omega) rfl (pa_cons (pv 0) (pa_cons pe_int pa_nil)))))))
  (pss_cons (ps_set (i := 5) sc.nd rfl (Or.inl rfl) (pe_c C__law_line hr (by omega) rfl (pa_cons (pv 0) (pa_cons pe_int pa_nil))))
  (pss_cons (ps_set (i := 6) sc.nd rfl (Or.inl rfl) (pe_op op_catA (pe_slice sl_tupA (pv 5) po_none (po_some (pe_op op_add pe_int (pe_c C__law_pick hr (by omega) rfl (pa_cons (pv 0) (pa_cons pe_int pa_nil)))))) (pe_c C__law_line hr (by omega) rfl (pa_cons (pv 0) (pa_cons pe_int pa_nil)))))
  (pss_cons (ps_set (i := 7) sc.nd rfl (Or.inl rfl) (pe_lst pa_nil))
  (pss_cons (ps_for PassesOwn.never rfl (pi_range1 rfl T.m_range (pa_cons (pv 3) pa_nil)) (pg_name (i := 8) sc.nd rfl (Or.inl rfl)) (pss_cons (ps_set (i := 9) sc.nd rfl (Or.inl rfl) (pe_tup pa_nil))
  (C8.pss_cut (ps_if (PW.pt (pw_and (pt_val (pv 2)) (pw_and1 (pt_cmpR op_gt (pe_c C__law_pick hr (by omega) rfl (pa_cons (pv 0) (pa_cons pe_int pa_nil))) pe_int (nomark _))))) (pss_one (ps_set (i := 9) sc.nd rfl (Or.inl rfl) (pe_slice sl_tupA (pe_c C__law_some hr (by omega) rfl (pa_cons (pv 0) (pa_cons (pe_lst (pa_cons (pv 5) (pa_cons (pv 5) (pa_cons (pv 6) pa_nil)))) pa_nil))) po_none (po_some (pe_c C__law_pick hr (by omega) rfl (pa_cons (pv 0) (pa_cons pe_int pa_nil))))))) pss_nil)
  (pss_one (ps_expr (pe_bm PySem.F.plainAttrs_list PySem.F.slot_list_append PySem.F.type_list_append mt_append (pv 7) (pa_cons (pe_tup (pa_cons (pe_c C__law_some hr (by omega) rfl (pa_cons (pv 0) (pa_cons (pv 4) pa_nil))) (pa_cons (pe_c C__law_pick hr (by omega) rfl (pa_cons (pv 0) (pa_cons pe_int pa_nil))) (pa_cons (pv 9) pa_nil)))) pa_nil)))))))
  (pss_one (ps_ret (pe_callTy call_tuple_of rfl T.m_tuple (by decide +kernel) (pa_cons (pv 7) pa_nil)))))))))), ?_⟩
    obtain ⟨l, t0, m0, m1, q⟩ := h
    refine ⟨_, rfl, _, rfl, tp, most, rfl, l, t0, by omega, by omega, fun r1 H1 r10 r11 t1 mv1 => ?_⟩
    refine ⟨_, rfl, _, rfl, tp, most, rfl, l, t1, by omega, by omega, fun r2 H2 r20 r21 t2 mv2 => ⟨r1, r2, rfl, 1, _, rfl, rfl, ?_⟩⟩
    obtain ⟨mm, emm, mm1, mm2⟩ : ∃ mm : Nat, 1 + (if r2 > r1 then r2 else r1) = (mm : Int) ∧ 1 ≤ mm ∧ (mm : Int) ≤ most := by
      by_cases c : r2 > r1
      · rw [if_pos c]
        exact ⟨(1 + r2).toNat, by omega, by omega, by omega⟩
      · rw [if_neg c]
        exact ⟨(1 + r1).toNat, by omega, by omega, by omega⟩
    show gName 3 (V.int (1 + (if r2 > r1 then r2 else r1))) _ _ _
    rw [emm]
    -- names
    refine ⟨(by show 3 ≤ PySem.sizeLine; decide), fun n0 hn0 => ?_⟩
    have nn0 := t2.new hn0
    have g0 := same_new (o := .lst [V.str "p", V.str "q", V.str "pq"]) hn0
    refine ⟨_, rfl, tp, 3, rfl, l, t2.same g0, by decide, by decide, fun r3 H3 r30 r31 t3 mv3 => ⟨_, _, rfl, rfl, _, rfl, n0, _, rfl, SqL.of (mv3 _ _ upd_same nn0.1), fun n1 hn1 => ?_⟩⟩
    obtain ⟨k3, ek3, k31⟩ : ∃ k : Nat, 1 + r3 = (k : Int) ∧ 1 ≤ k := ⟨(1 + r3).toNat, by omega, by omega⟩
    rw [ek3, cutV_take]
    generalize hnl : [V.str "p", V.str "q", V.str "pq"].take k3 = nl at hn1 ⊢
    have nlok : ∀ x ∈ nl, ∃ z, x = .str z ∧ letB z 8 = true ∧ z.length ≤ 1000 := fun x hx => names_ok x (List.mem_of_mem_take (by rw [hnl]; exact hx))
    have nl1 : 1 ≤ nl.length := by
      rw [← hnl, List.length_take]
      show 1 ≤ min k3 3
      omega
    have nl3 : nl.length ≤ 3 := by
      rw [← hnl, List.length_take]
      show min k3 3 ≤ 3
      omega
    have nn1 := t3.new hn1
    have g1 := same_new (o := .lst nl) hn1
    have t4 := t3.same g1
    have m04 : Mov tp H (upd H3 n1 (.lst nl)) := (((mv1.trans mv2).trans (mov_same g0)).trans mv3).trans (mov_same g1)
    have h4 : upd H3 n1 (.lst nl) n1 = some (.lst nl) := upd_same
    generalize upd H3 n1 (.lst nl) = H4 at t4 m04 h4
    clear g1 g0
    -- line
    refine ⟨_, rfl, tp, 4, rfl, l, t4, by decide, by decide, fun lr lw H5 hl5 okl lenl t5 mv5 => ?_⟩
    have R5 : RowAt H5 lr lw := ⟨hl5, okl⟩
    have h5 := mv5 _ _ h4 nn1.1
    have m05 := m04.trans mv5
    -- other
    refine ⟨_, rfl, _, rfl, tp, 3, rfl, l, t5, by decide, by decide, fun r6 H6 r60 r61 t6 mv6 => ⟨_, _, rfl, rfl, _, rfl, ?_⟩⟩
    obtain ⟨k6, ek6⟩ : ∃ k : Nat, 1 + r6 = (k : Int) := ⟨(1 + r6).toNat, by omega⟩
    rw [ek6]
    have R6 := R5.mov t5 mv6
    have h6 := mv6 _ _ h5 nn1.1
    refine sl_take (k := k6) R6.1 fun pr7 H7 g7 h7 => ?_
    have t7 := t6.same g7
    refine ⟨_, rfl, tp, 2, rfl, l, t7, by decide, by decide, fun or8 ow8 H8 ho8 oko lno t8 mv8 => ?_⟩
    have R8 := (R6.mov t6 (mov_same g7)).mov t7 mv8
    have h78 := (t7.keep mv8).tups _ _ h7
    have h8 := mv8 _ _ (g7 _ _ h6) nn1.1
    rw [← List.map_take] at h78
    refine cat_tups h78 ho8 (by rw [List.length_map, List.length_map, List.length_take]; omega) fun orr H9 g9 h9 => ?_
    rw [← List.map_append] at h9
    have O9 : RowAt H9 orr (lw.take k6 ++ ow8) := ⟨h9, fun z hz => by
      rcases List.mem_append.mp hz with c | c
      · exact okl z (List.mem_of_mem_take c)
      · exact oko z c⟩
    have t9 := t8.same g9
    have R9 := R8.mov t8 (mov_same g9)
    have h9n := g9 _ _ h8
    have m09 := (((m05.trans mv6).trans (mov_same g7)).trans mv8).trans (mov_same g9)
    generalize lw.take k6 ++ ow8 = ow at O9
    clear h9 ho8 h78 h8 R8 h7 R6 R5 hl5 h5 h4
    -- found
    refine ⟨(by show 0 ≤ PySem.sizeLine; decide), fun D hD => ?_⟩
    have nD := t9.new hD
    have gD := same_new (o := .lst []) hD
    have nDn : n1 ≠ D := ne_of_none h9n hD
    refine ⟨_, rfl, (mm : Int), rfl, by omega, by omega, ?_⟩
    refine for_range (lo := 0) (n := ((mm : Nat) : Int).toNat) (fun i σ H' => ∃ zs bs v8 v9, σ = [some (.ref tp), some (.int most), some (.bl bg), some (.int (mm : Int)), some (.ref n1), some (.ref lr), some (.ref orr), some (.ref D), v8, v9] ∧ H' D = some (.lst zs) ∧ Paired (BoardAt H') zs bs ∧ (∀ b ∈ bs, drawn b) ∧ bs.length = i ∧ TapeAt H' tp l ∧ Mov tp H H' ∧ H' n1 = some (.lst nl) ∧ RowAt H' lr lw ∧ RowAt H' orr ow)
      ⟨[], [], _, _, rfl, upd_same, .nil, fun b hb => absurd hb (List.not_mem_nil), rfl, t9.same gD, m09.trans (mov_same gD), gD _ _ h9n, R9.mov t9 (mov_same gD), O9.mov t9 (mov_same gD)⟩ ?_ ?_
    · rintro i σ H' hi ⟨zs, bs, v8, v9, rfl, hz, pz, okz, lz, t', m', hn', R', O'⟩
      refine ⟨(by show 0 ≤ PySem.sizeLine; decide), fun e0 he0 => ?_⟩
      have ge := same_new (o := .tup []) he0
      refine ⟨fun σ H2 => ∃ r rw0, σ = [some (.ref tp), some (.int most), some (.bl bg), some (.int (mm : Int)), some (.ref n1), some (.ref lr), some (.ref orr), some (.ref D), some (.int (0 + (i : Int))), some (.ref r)] ∧ RowAt H2 r rw0 ∧ rw0.length ≤ 3 ∧ TapeAt H2 tp l ∧ Mov tp H' H2, ?_, ?_⟩
      · have E0' : RowAt (upd H' e0 (.tup [])) e0 [] := ⟨upd_same, fun z hz => absurd hz (List.not_mem_nil)⟩
        have te := t'.same ge
        refine ⟨_, rfl, _, rfl, ?_⟩
        refine ite2 (fun _ => ?_) (fun _ => ?_)
        · refine ⟨_, rfl, tp, 4, rfl, l, te, by decide, by decide, fun r1 H1 _ _ t1 mv1 => ⟨_, _, rfl, rfl, _, rfl, ?_⟩⟩
          refine ite2 (fun _ => ?_) (fun _ => ?_)
          · refine ⟨_, rfl, _, rfl, _, rfl, _, rfl, (by show 3 ≤ PySem.sizeLine; decide), fun ll hll => ?_⟩
            have nll := t1.new hll
            have gl := same_new (o := .lst [V.ref lr, V.ref lr, V.ref orr]) hll
            have ml := ((mov_same ge).trans mv1).trans (mov_same gl)
            have t2' := t1.same gl
            refine ⟨tp, ll, rfl, l, _, t2', upd_same, nll.1, by show 1 ≤ 3; decide, by show 3 ≤ 1000; decide, fun x H2 hx t2 mv2 => ?_⟩
            obtain ⟨xr, xw, rfl, X2⟩ : ∃ xr xw, x = .ref xr ∧ RowAt H2 xr xw := by
              simp only [List.mem_cons, List.not_mem_nil, or_false] at hx
              rcases hx with rfl | rfl | rfl
              · exact ⟨lr, lw, rfl, R'.mov t' (ml.trans mv2)⟩
              · exact ⟨lr, lw, rfl, R'.mov t' (ml.trans mv2)⟩
              · exact ⟨orr, ow, rfl, O'.mov t' (ml.trans mv2)⟩
            refine ⟨_, rfl, tp, 4, rfl, l, t2, by decide, by decide, fun r4 H4 r40 r41 t4 mv4 => ?_⟩
            obtain ⟨k4, rfl⟩ : ∃ k : Nat, r4 = (k : Int) := ⟨r4.toNat, by omega⟩
            have X4 := X2.mov t2 mv4
            refine ⟨_, rfl, sl_take (k := k4) X4.1 fun rr H5 g5 h5 => ?_⟩
            rw [← List.map_take] at h5
            exact ⟨rr, xw.take k4, rfl, ⟨h5, fun z hz => X4.2 z (List.mem_of_mem_take hz)⟩, by rw [List.length_take]; omega, t4.same g5, ((ml.trans mv2).trans mv4).trans (mov_same g5)⟩
          · exact ⟨e0, [], rfl, E0'.mov te mv1, Nat.zero_le _, t1, (mov_same ge).trans mv1⟩
        · exact iteF ⟨e0, [], rfl, E0', Nat.zero_le _, te, mov_same ge⟩
      · rintro σ H2 ⟨r, rw0, rfl, Rr, l3, t2, m2⟩
        have hz2 := m2 _ _ hz nD.1
        have hn2 := m2 _ _ hn' nn1.1
        refine ⟨_, rfl, .inl ⟨rfl, _, SqL.of hz2⟩, ?_⟩
        refine ⟨_, rfl, _, rfl, tp, n1, rfl, l, nl, t2, hn2, nn1.1, nl1, by omega, fun x H3 hx t3 mv3 => ?_⟩
        obtain ⟨z, rfl, z8, zl⟩ := nlok x hx
        refine ⟨_, rfl, tp, 2, rfl, l, t3, by decide, by decide, fun s H4 s0 s1 t4 mv4 => ?_⟩
        refine ⟨_, rfl, (by show 3 ≤ PySem.sizeLine; decide), fun t5 h5 => ?_⟩
        have g5 := same_new (o := .tup [V.str z, V.int s, V.ref r]) h5
        have m45 := (mv3.trans mv4).trans (mov_same g5)
        have m25 := m2.trans m45
        have hz5 := m45 _ _ hz2 nD.1
        have Rr5 := Rr.mov t2 m45
        have kd : ∀ e us, upd H4 t5 (.tup [V.str z, V.int s, V.ref r]) e = some (.tup us) → upd (upd H4 t5 (.tup [V.str z, V.int s, V.ref r])) D (.lst (zs ++ [.ref t5])) e = some (.tup us) := fun e us he => by
          rw [upd_ne (fun w => by rw [w, hz5] at he; cases he)]
          exact he
        have mm5 : Mov tp H (upd (upd H4 t5 (.tup [V.str z, V.int s, V.ref r])) D (.lst (zs ++ [.ref t5]))) := mov_mut (m'.trans m25) (by
          cases e : H D with
          | none => rfl
          | some o => rw [m09 _ _ e nD.1] at hD; cases hD)
        have t5' := (t4.same g5).upd (p := D) (o := .lst (zs ++ [.ref t5])) nD
        have lzz : zs.length = bs.length := paired_len pz
        refine ⟨D, zs, .ref t5, rfl, rfl, hz5, ?_, ?_⟩
        · have b1 : (1000 : Nat) < PySem.sizeLine := by decide
          omega
        · refine ⟨zs ++ [.ref t5], bs ++ [(z, s, rw0)], _, _, rfl, upd_same, paired_snoc (paired_mono (fun _ _ w => (w.mono (t'.keep m25).tups).mono kd) pz) ⟨t5, r, rfl, kd _ _ upd_same, kd _ _ Rr5.1⟩, ?_, by rw [List.length_append, lz]; rfl, t5', mm5, by rw [upd_ne nDn]; exact m45 _ _ hn2 nn1.1, ?_, ?_⟩
          · intro b hb
            rcases List.mem_append.mp hb with c | c
            · exact okz b c
            · rw [List.mem_singleton.mp c]
              exact ⟨drawn_ok z8 zl s0 s1 Rr.2 (by omega), l3⟩
          · exact ⟨kd _ _ (R'.mov t' m25).1, R'.2⟩
          · exact ⟨kd _ _ (O'.mov t' m25).1, O'.2⟩
    · rintro σ H' ⟨zs, bs, v8, v9, rfl, hz, pz, okz, lz, t', m', _⟩
      refine ⟨_, rfl, D, zs, rfl, .inl ⟨SqL.of hz, fun p hp => ?_⟩⟩
      have g := same_new (o := .tup zs) hp
      exact q p bs _ ⟨zs, upd_same, paired_mono (fun _ _ w => w.mono (same_tups g)) pz⟩ okz (by omega) (by omega) (t'.same g) (m'.trans (mov_same g))
end
end K24
namespace K24
open PySem L2 Nm
open C8 (Cal Mak pe_c pe_mk pe_gc)
open RZ (ItzT pi_zipA)
theorem pair_long {b c : Bd} (n : b.1 = c.1) (s : ¬ b.2.1 = c.2.1) (h : rowExt c.2.2 b.2.2 = true) : arePair b c = !decide (b.2.1 = (c.2.2.length : Int) % 2) := by
  unfold arePair extOk
  rw [decide_eq_true n, decide_eq_false s, Bool.true_and, Bool.not_false, Bool.true_and, decide_eq_false (fun e => ext_ne h e.symm), Bool.false_or, h, ext_one h, Bool.false_and, Bool.false_or, Bool.true_and]
  congr 1
  exact decide_eq_decide.mpr eq_comm
theorem pair_none {b c : Bd} (r : ¬ b.2.2 = c.2.2) (h1 : rowExt b.2.2 c.2.2 = false) (h2 : rowExt c.2.2 b.2.2 = false) : arePair b c = false := by
  unfold arePair extOk
  rw [h1, h2, decide_eq_false r]
  simp
section
variable {P : Program} {w : World} {K : PySem.W.Frag} {mg : Str → Option Value} {base : Heap}
def sp__law_are_pair (K : PySem.W.Frag) : Sp := sp_are_pair K
theorem c__law_are_pair (T : Txt K mg) : Cal P w K mg base 1 "_law_are_pair" (sp__law_are_pair K) [] := by
  have sc := sc__law_are_pair
  refine cal_of T.d__law_are_pair sc (fun _ _ _ _ _ _ us hl => match us, hl with | [_, _], _ => rfl) (fun vs H Q E h => ?_) (fun f cdv A outer s H vs Q E hr h => ?_)
  · obtain ⟨x, y, rfl, _⟩ := h
    rfl
  · obtain ⟨x, y, rfl, h⟩ := h
    obtain ⟨b, c, hx, hy, ob, oc, q⟩ := h
    have hx' := hx
    have hy' := hy
    obtain ⟨a, r, rfl, ha, hr1⟩ := hx
    obtain ⟨a2, r2, rfl, ha2, hr2⟩ := hy
    have q0 := q H (Same.refl H)
    refine ⟨_, (pss_cons (ps_if (PW.pt (pw_or (pt_cmpR op_ne (pe_ix ix_tup (pv 0) pe_int (fun _ _ => rfl)) (pe_ix ix_tup (pv 1) pe_int (fun _ _ => rfl)) (nomark _)) (pw_or1 (pt_cmpR op_eq (pe_ix ix_tup (pv 0) pe_int (fun _ _ => rfl)) (pe_ix ix_tup (pv 1) pe_int (fun _ _ => rfl)) (nomark _))))) (pss_one (ps_ret pe_bl)) pss_nil)
  (pss_cons (ps_if (pt_cmpR (op_eqD hr.units) (pe_ix ix_tup (pv 0) pe_int (fun _ _ => rfl)) (pe_ix ix_tup (pv 1) pe_int (fun _ _ => rfl)) (nomark _)) (pss_one (ps_ret pe_bl)) pss_nil)
  (pss_cons (ps_for PassesOwn.never rfl (pi_list (pe_lst (pa_cons (pe_tup (pa_cons (pv 0) (pa_cons (pv 1) pa_nil))) (pa_cons (pe_tup (pa_cons (pv 1) (pa_cons (pv 0) pa_nil))) pa_nil)))) (pg_tup rfl (pgs_cons (pg_name (i := 2) sc.nd rfl (Or.inl rfl)) (pgs_cons (pg_name (i := 3) sc.nd rfl (Or.inl rfl)) pgs_nil))) (pss_one (ps_if (PW.pt (pw_and (pt_cmpR (op_eqD hr.units) (pe_slice sl_tupA (pe_ix ix_tup (pv 2) pe_int (fun _ _ => rfl)) po_none (po_some (pe_un un_neg pe_int))) (pe_ix ix_tup (pv 3) pe_int (fun _ _ => rfl)) (nomark _)) (pw_and1 (pt_cmpR op_eq (pe_callB call_len_seq rfl T.m_len (by decide +kernel) (pa_cons (pe_ix ix_tup (pv 2) pe_int (fun _ _ => rfl)) pa_nil)) (pe_op op_add (pe_callB call_len_seq rfl T.m_len (by decide +kernel) (pa_cons (pe_ix ix_tup (pv 3) pe_int (fun _ _ => rfl)) pa_nil)) pe_int) (nomark _))))) (pss_one (ps_ret (pe_cmpR op_ne (pe_ix ix_tup (pv 2) pe_int (fun _ _ => rfl)) (pe_op op_mod (pe_callB call_len_seq rfl T.m_len (by decide +kernel) (pa_cons (pe_ix ix_tup (pv 3) pe_int (fun _ _ => rfl)) pa_nil)) pe_int) (nomark _)))) pss_nil)))
  (pss_one (ps_ret pe_bl))))), ?_⟩
    refine ⟨_, rfl, a, _, 0, .str b.1, rfl, rfl, SqT.of ha, rfl, _, rfl, a2, _, 0, .str c.1, rfl, rfl, SqT.of ha2, rfl, rfl, _, rfl, ?_⟩
    rw [decS]
    refine ite2 (fun z => iteT ?_) (fun z => ?_)
    · have n : ¬ b.1 = c.1 := by
        intro e
        rw [decide_eq_true e] at z
        cases z
      have e : arePair b c = false := by
        unfold arePair
        rw [decide_eq_false n, Bool.false_and]
      rw [e] at q0
      exact q0
    have n : b.1 = c.1 := by
      by_cases e : b.1 = c.1
      · exact e
      · rw [decide_eq_false e] at z
        exact absurd rfl z
    refine ⟨_, rfl, a, _, 1, .int b.2.1, rfl, rfl, SqT.of ha, rfl, _, rfl, a2, _, 1, .int c.2.1, rfl, rfl, SqT.of ha2, rfl, rfl, _, rfl, ?_⟩
    rw [decI]
    refine ite2 (fun z => ?_) (fun z => ?_)
    · have e : arePair b c = false := by
        unfold arePair
        rw [z, Bool.not_true, Bool.false_and, Bool.and_false]
      rw [e] at q0
      exact q0
    have sd : ¬ b.2.1 = c.2.1 := of_decide_eq_false (Bool.eq_false_iff.mpr z)
    refine ⟨_, rfl, a, _, 2, .ref r, rfl, rfl, SqT.of ha, rfl, _, rfl, a2, _, 2, .ref r2, rfl, rfl, SqT.of ha2, rfl, rowD b.2.2, rowD c.2.2, dp_row hr1, dp_row hr2, shaped_row ob.lay, shaped_row oc.lay, _, rfl, ?_⟩
    rw [eqv_row]
    refine ite2 (fun z => ?_) (fun z => ?_)
    · have e : arePair b c = true := by
        unfold arePair
        rw [decide_eq_true n, decide_eq_false sd, z]
        rfl
      rw [e] at q0
      exact q0
    have rn : ¬ b.2.2 = c.2.2 := of_decide_eq_false (Bool.eq_false_iff.mpr z)
    refine ⟨_, rfl, _, rfl, l2, fun t1 ht1 => ⟨_, rfl, _, rfl, l2, fun t2 ht2 => ⟨l2, fun ls hls => ?_⟩⟩⟩
    have g1 := same_new (o := .tup [V.ref a, V.ref a2]) ht1
    have g2 := same_new (o := .tup [V.ref a2, V.ref a]) ht2
    have g3 := same_new (o := .lst [V.ref t1, V.ref t2]) hls
    have h1 := (g2.trans g3) _ _ (show upd H t1 (.tup [V.ref a, V.ref a2]) t1 = some (.tup [V.ref a, V.ref a2]) from upd_same)
    have h2 := g3 _ _ (show upd (upd H t1 (.tup [V.ref a, V.ref a2])) t2 (.tup [V.ref a2, V.ref a]) t2 = some (.tup [V.ref a2, V.ref a]) from upd_same)
    have h3 : upd (upd (upd H t1 (.tup [V.ref a, V.ref a2])) t2 (.tup [V.ref a2, V.ref a])) ls (.lst [V.ref t1, V.ref t2]) ls = some (.lst [V.ref t1, V.ref t2]) := upd_same
    have g0 := (g1.trans g2).trans g3
    generalize upd (upd (upd H t1 (.tup [V.ref a, V.ref a2])) t2 (.tup [V.ref a2, V.ref a])) ls (.lst [V.ref t1, V.ref t2]) = H0 at h1 h2 h3 g0
    refine ⟨ls, rfl, ⟨_, SqL.of h3⟩, ?_⟩
    refine for_list (K := K) (a := ls) (xs := [V.ref t1, V.ref t2]) (fun i σ H1 => ∃ v2 v3, σ = [some (.ref a), some (.ref a2), v2, v3] ∧ Same H0 H1 ∧ (1 ≤ i → rowExt c.2.2 b.2.2 = false) ∧ (2 ≤ i → rowExt b.2.2 c.2.2 = false)) ⟨_, _, rfl, Same.refl H0, fun z => absurd z (by decide), fun z => absurd z (by decide)⟩ (fun i σ H1 _ ⟨_, _, _, g, _⟩ => SqL.of (g _ _ h3)) ?_ ?_
    · rintro i x σ H1 hx ⟨v2, v3, rfl, g, i1, i2⟩
      obtain ⟨t, la, sa, lb, sb, lr, sr, rfl, ht, hla, hsa, hlr, hsr, ol, os, yes, no⟩ : ∃ (t la sa : Addr) (lb sb : Bd) (lr sr : Addr), x = .ref t ∧ H1 t = some (.tup [.ref la, .ref sa]) ∧ H1 la = some (.tup [.str lb.1, .int lb.2.1, .ref lr]) ∧ H1 sa = some (.tup [.str sb.1, .int sb.2.1, .ref sr]) ∧
          H1 lr = some (.tup (lb.2.2.map V.str)) ∧ H1 sr = some (.tup (sb.2.2.map V.str)) ∧ okB lb ∧ okB sb ∧ (rowExt sb.2.2 lb.2.2 = true → arePair b c = !decide (lb.2.1 = (sb.2.2.length : Int) % 2)) ∧
          (rowExt sb.2.2 lb.2.2 = false → (1 ≤ i + 1 → rowExt c.2.2 b.2.2 = false) ∧ (2 ≤ i + 1 → rowExt b.2.2 c.2.2 = false)) := by
        match i, hx with
        | 0, hx =>
          obtain rfl : V.ref t1 = x := Option.some.inj hx
          exact ⟨t1, a, a2, b, c, r, r2, rfl, g _ _ h1, g _ _ (g0 _ _ ha), g _ _ (g0 _ _ ha2), g _ _ (g0 _ _ hr1), g _ _ (g0 _ _ hr2), ob, oc, pair_long n sd, fun z => ⟨fun _ => z, fun w => absurd w (by decide)⟩⟩
        | 1, hx =>
          obtain rfl : V.ref t2 = x := Option.some.inj hx
          exact ⟨t2, a2, a, c, b, r2, r, rfl, g _ _ h2, g _ _ (g0 _ _ ha2), g _ _ (g0 _ _ ha), g _ _ (g0 _ _ hr2), g _ _ (g0 _ _ hr1), oc, ob, fun z => (pair_swap b c).trans (pair_long n.symm (fun e => sd e.symm) z), fun z => ⟨fun _ => i1 (Nat.le_refl 1), fun _ => z⟩⟩
        | i + 2, hx => simp at hx
      refine ⟨t, _, rfl, SqT.of ht, rfl, _, _, rfl, _, _, rfl, rfl, ?_⟩
      refine ⟨_, rfl, la, _, 2, .ref lr, rfl, rfl, SqT.of hla, rfl, 1, rfl, _, rfl, sl_last hlr fun d H2 g4 hd => ?_⟩
      rw [← List.map_dropLast] at hd
      refine ⟨_, rfl, sa, _, 2, .ref sr, rfl, rfl, SqT.of (g4 _ _ hsa), rfl, rowD lb.2.2.dropLast, rowD sb.2.2, dp_row hd, dp_row (g4 _ _ hsr), shaped_row (fun z hz => ol.lay z ((List.dropLast_sublist lb.2.2).subset hz)), shaped_row os.lay, _, rfl, ?_⟩
      rw [eqv_row]
      have nxt : rowExt sb.2.2 lb.2.2 = false → ∃ v2 v3, [some (V.ref a), some (V.ref a2), some (V.ref la), some (V.ref sa)] = [some (V.ref a), some (V.ref a2), v2, v3] ∧ Same H0 H2 ∧ (1 ≤ i + 1 → rowExt c.2.2 b.2.2 = false) ∧ (2 ≤ i + 1 → rowExt b.2.2 c.2.2 = false) := fun z => ⟨_, _, rfl, g.trans g4, (no z).1, (no z).2⟩
      refine ite2 (fun z1 => ?_) (fun z1 => ?_)
      · refine ⟨_, rfl, la, _, 2, .ref lr, rfl, rfl, SqT.of (g4 _ _ hla), rfl, lr, _, rfl, .inr (SqT.of (g4 _ _ hlr)), _, rfl, sa, _, 2, .ref sr, rfl, rfl, SqT.of (g4 _ _ hsa), rfl, sr, _, rfl, .inr (SqT.of (g4 _ _ hsr)), _, _, rfl, rfl, rfl, _, rfl, ?_⟩
        rw [decI, List.length_map, List.length_map]
        refine ite2 (fun z2 => ?_) (fun z2 => ?_)
        · have ex : rowExt sb.2.2 lb.2.2 = true := by
            unfold rowExt
            rw [z1, Bool.true_and]
            have := of_decide_eq_true z2
            exact decide_eq_true (by omega)
          rw [yes ex] at q
          refine ⟨_, rfl, la, _, 1, .int lb.2.1, rfl, rfl, SqT.of (g4 _ _ hla), rfl, _, rfl, sa, _, 2, .ref sr, rfl, rfl, SqT.of (g4 _ _ hsa), rfl, sr, _, rfl, .inr (SqT.of (g4 _ _ hsr)), _, _, rfl, rfl, (by show (0 : Int) < 2; decide), rfl, ?_⟩
          show Q (V.bl (!decide (V.int lb.2.1 = V.int (((sb.2.2.map V.str).length : Nat) % 2)))) H2
          rw [decI, List.length_map]
          exact q H2 ((g0.trans g).trans g4)
        · refine nxt ?_
          unfold rowExt
          have := of_decide_eq_false (Bool.eq_false_iff.mpr z2)
          rw [decide_eq_false (show ¬ (lb.2.2.length = sb.2.2.length + 1) by omega), Bool.and_false]
      · refine iteF (nxt ?_)
        unfold rowExt
        rw [Bool.eq_false_iff.mpr z1, Bool.false_and]
    · rintro σ H1 ⟨v2, v3, rfl, g, i1, i2⟩
      have e := pair_none rn (i2 (by show 2 ≤ 2; decide)) (i1 (by show 1 ≤ 2; decide))
      rw [e] at q
      exact q H1 (g0.trans g)
end
end K24
namespace K24
open PySem L2 Nm
open C8 (Cal Mak pe_c pe_mk pe_gc)
open RZ (ItzT pi_zipA)
section
variable {P : Program} {w : World} {K : PySem.W.Frag} {mg : Str → Option Value} {base : Heap}
def sp__law_pairs (K : PySem.W.Frag) : Sp := fun vs H Q _ => ∃ (a : Addr), vs = [.ref a] ∧ ∃ bs, BoardsAt H a bs ∧ (∀ b ∈ bs, okB b) ∧ bs.length ≤ 60 ∧ ∀ (p : Addr) (H' : Hp), H p = none → PrsAt H' p (pairsOf (onB arePair bs) bs.length) → Same H H' → Q (.ref p) H'
theorem c__law_pairs (T : Txt K mg) : Cal P w K mg base 2 "_law_pairs" (sp__law_pairs K) [] := by
  have C__law_are_pair := c__law_are_pair (P := P) (w := w) (base := base) T
  have sc := sc__law_pairs
  refine cal_of T.d__law_pairs sc (fun _ _ _ _ _ _ us hl => match us, hl with | [_], _ => rfl) (fun vs H Q E h => ?_) (fun f cdv A outer s H vs Q E hr h => ?_)
  · obtain ⟨a, rfl, _⟩ := h
    rfl
  · obtain ⟨a, rfl, h⟩ := h
    obtain ⟨bs, ⟨xs, ha, pr⟩, ok, l60, q⟩ := h
    have el : xs.length = bs.length := paired_len pr
    refine ⟨_, (pss_cons (ps_set (i := 1) sc.nd rfl (Or.inl rfl) (pe_lst pa_nil))
  (pss_cons (ps_for PassesOwn.never rfl (pi_range1 rfl T.m_range (pa_cons (pe_callB call_len_seq rfl T.m_len (by decide +kernel) (pa_cons (pv 0) pa_nil)) pa_nil)) (pg_name (i := 2) sc.nd rfl (Or.inl rfl)) (pss_one (ps_for PassesOwn.never rfl (pi_range2 rfl T.m_range (pa_cons (pe_op op_add (pv 2) pe_int) (pa_cons (pe_callB call_len_seq rfl T.m_len (by decide +kernel) (pa_cons (pv 0) pa_nil)) pa_nil))) (pg_name (i := 3) sc.nd rfl (Or.inl rfl)) (pss_one (ps_if (pt_val (pe_c C__law_are_pair hr (by omega) rfl (pa_cons (pe_ix ix_tup (pv 0) (pv 2) (fun _ _ => rfl)) (pa_cons (pe_ix ix_tup (pv 0) (pv 3) (fun _ _ => rfl)) pa_nil)))) (pss_one (ps_expr (pe_bm PySem.F.plainAttrs_list PySem.F.slot_list_append PySem.F.type_list_append mt_append (pv 1) (pa_cons (pe_tup (pa_cons (pv 2) (pa_cons (pv 3) pa_nil))) pa_nil)))) pss_nil)))))
  (pss_one (ps_ret (pv 1))))), ?_⟩
    refine ⟨(by show 0 ≤ PySem.sizeLine; decide), fun D hD => ?_⟩
    have g0 := same_new (o := .lst []) hD
    refine ⟨_, rfl, a, _, rfl, .inr (SqT.of (g0 _ _ ha)), _, rfl, by omega, by omega, ?_⟩
    refine for_range (lo := 0) (n := ((xs.length : Nat) : Int).toNat) (fun i σ H1 => ∃ v2 v3, σ = [some (.ref a), some (.ref D), v2, v3] ∧ PrsAt H1 D (pairsUp (onB arePair bs) bs.length i) ∧ (pairsUp (onB arePair bs) bs.length i).length ≤ i * 60 ∧ Same H H1)
      ⟨_, _, rfl, ⟨[], upd_same, .nil⟩, Nat.zero_le _, g0⟩ ?_ ?_
    · rintro i σ H1 hi ⟨v2, v3, rfl, ⟨ws, hw, pw⟩, lw, g⟩
      have hi' : i < bs.length := by omega
      obtain ⟨x, hx⟩ : ∃ x, xs[i]? = some x := ⟨xs[i]'(by omega), List.getElem?_eq_getElem (by omega)⟩
      obtain ⟨b, hb, hxb⟩ := paired_at pr i x hx
      refine ⟨_, rfl, _, _, rfl, rfl, _, rfl, a, _, rfl, .inr (SqT.of (g _ _ ha)), _, _, rfl, ⟨by omega, by omega, by omega, by omega⟩, ?_⟩
      refine for_range (lo := 0 + (i : Int) + 1) (n := ((xs.length : Int) - (0 + (i : Int) + 1)).toNat) (fun k σ H2 => ∃ v3, σ = [some (.ref a), some (.ref D), some (.int (0 + (i : Int))), v3] ∧ PrsAt H2 D (pairsUp (onB arePair bs) bs.length i ++ rowUp (onB arePair bs) i k) ∧ (rowUp (onB arePair bs) i k).length ≤ k ∧ Same H H2)
        ⟨_, rfl, ⟨ws, hw, by rw [show rowUp (onB arePair bs) i 0 = [] from rfl, List.append_nil]; exact pw⟩, Nat.zero_le _, g⟩ ?_ ?_
      · rintro k σ H2 hk ⟨v3, rfl, ⟨zs, hz, pz⟩, lz, g2⟩
        have hk' : i + 1 + k < bs.length := by omega
        obtain ⟨y, hy⟩ : ∃ y, xs[i + 1 + k]? = some y := ⟨xs[i + 1 + k]'(by omega), List.getElem?_eq_getElem (by omega)⟩
        obtain ⟨c, hc, hyc⟩ := paired_at pr _ y hy
        refine ⟨_, rfl, _, rfl, a, _, _, x, rfl, rfl, SqT.of (g2 _ _ ha), by rw [Int.zero_add]; exact atI_nat hx, _, rfl, _, rfl, a, _, _, y, rfl, rfl, SqT.of (g2 _ _ ha), by rw [show (0 + (i : Int) + 1 + (k : Int)) = ((i + 1 + k : Nat) : Int) by omega]; exact atI_nat hy, ?_⟩
        refine ⟨x, y, rfl, b, c, hxb.mono (same_tups g2), hyc.mono (same_tups g2), ok b (List.mem_of_getElem? hb), ok c (List.mem_of_getElem? hc), fun H3 g3 => ⟨_, rfl, ?_⟩⟩
        have g23 := g2.trans g3
        have lzz : zs.length = (pairsUp (onB arePair bs) bs.length i ++ rowUp (onB arePair bs) i k).length := paired_len pz
        rw [List.length_append] at lzz
        refine ite2 (fun z => ?_) (fun z => ?_)
        · refine ⟨_, rfl, .inl ⟨rfl, _, SqL.of (g3 _ _ hz)⟩, _, rfl, _, rfl, l2, fun t ht => ?_⟩
          have gt := same_new (o := .tup [V.int (0 + (i : Int)), V.int (0 + (i : Int) + 1 + (k : Int))]) ht
          refine ⟨D, zs, .ref t, rfl, rfl, gt _ _ (g3 _ _ hz), ?_, ?_⟩
          · have b1 : (10000 : Nat) < PySem.sizeLine := by decide
            omega
          · have kd : ∀ e us, upd H3 t (.tup [V.int (0 + (i : Int)), V.int (0 + (i : Int) + 1 + (k : Int))]) e = some (.tup us) → upd (upd H3 t (.tup [V.int (0 + (i : Int)), V.int (0 + (i : Int) + 1 + (k : Int))])) D (.lst (zs ++ [.ref t])) e = some (.tup us) := fun e us he => by
              rw [upd_ne (fun w => by rw [w, gt _ _ (g3 _ _ hz)] at he; cases he)]
              exact he
            refine ⟨_, rfl, ⟨zs ++ [.ref t], upd_same, ?_⟩, ?_, same_mut (g23.trans gt) hD⟩
            · rw [rowUp_one, onB_at hb hc, if_pos z, ← List.append_assoc]
              refine paired_snoc (paired_mono (fun _ _ w => (w.mono (same_tups (g3.trans gt))).mono kd) pz) ⟨t, rfl, ?_⟩
              rw [kd _ _ upd_same]
              show some (HO.tup [V.int (0 + (i : Int)), V.int (0 + (i : Int) + 1 + (k : Int))]) = some (HO.tup [V.int (i : Int), V.int ((i + 1 + k : Nat) : Int)])
              rw [show (0 + (i : Int) + 1 + (k : Int)) = ((i + 1 + k : Nat) : Int) by omega, Int.zero_add]
            · rw [rowUp_one, onB_at hb hc, if_pos z, List.length_append]
              exact Nat.succ_le_succ lz
        · refine ⟨_, rfl, ⟨zs, g3 _ _ hz, ?_⟩, ?_, g23⟩
          · rw [rowUp_one, onB_at hb hc, if_neg z, List.append_nil]
            exact paired_mono (fun _ _ w => w.mono (same_tups g3)) pz
          · rw [rowUp_one, onB_at hb hc, if_neg z, List.append_nil]
            omega
      · rintro σ H2 ⟨v3, rfl, hz, lz, g2⟩
        have e1 : ((xs.length : Int) - (0 + (i : Int) + 1)).toNat = bs.length - (i + 1) := by omega
        rw [e1] at hz lz
        refine ⟨_, _, rfl, ?_, ?_, g2⟩
        · rw [pairsUp_one]
          exact hz
        · rw [pairsUp_one, List.length_append]
          omega
    · rintro σ H1 ⟨v2, v3, rfl, hw, lw, g⟩
      have e1 : ((xs.length : Nat) : Int).toNat = bs.length := by omega
      rw [e1] at hw
      exact ⟨_, rfl, q D H1 hD hw g⟩
end
end K24
namespace K24
open PySem L2 Nm
open C8 (Cal Mak pe_c pe_mk pe_gc)
open RZ (ItzT pi_zipA)
theorem in_two (a b c : Int) : (if false = true then !inV (.int a) [.int b, .int c] else inV (.int a) [.int b, .int c]) = (decide (a = b) || decide (a = c)) := by
  rw [if_neg Bool.false_ne_true]
  unfold inV
  rw [List.any_cons, List.any_cons, List.any_nil, Bool.or_false]
  have e : ∀ x y : Int, eqV (.int x) (.int y) = decide (y = x) := fun x y => by
    have : eqV (.int x) (.int y) = (x == y) := rfl
    rw [this]
    by_cases h : x = y
    · subst h
      simp
    · rw [decide_eq_false (fun z => h z.symm)]
      simpa using h
  rw [e, e]
section
variable {P : Program} {w : World} {K : PySem.W.Frag} {mg : Str → Option Value} {base : Heap}
def sp_clashes_of (K : PySem.W.Frag) : Sp := fun vs H Q _ => ∃ (a : Addr), vs = [.ref a] ∧ ∃ ps, PrsAt H a ps ∧ ps.length ≤ 1000 ∧ ∀ p H', H p = none → H' p = some (.lst ((List.range ps.length).map fun i => V.int ((bitsOf (KP ps i) ps.length : Nat) : Int))) → Same H H' → Q (.ref p) H'
theorem c_clashes_of (T : Txt K mg) : Cal P w K mg base 1 "clashes_of" (sp_clashes_of K) [] := by
  have sc := sc_clashes_of
  refine cal_of T.d_clashes_of sc (fun _ _ _ _ _ _ us hl => match us, hl with | [_], _ => rfl) (fun vs H Q E h => ?_) (fun f cdv A outer s H vs Q E hr h => ?_)
  · obtain ⟨a, rfl, _⟩ := h
    rfl
  · obtain ⟨a, rfl, h⟩ := h
    refine ⟨_, (pss_cons (ps_set (i := 1) sc.nd rfl (Or.inl rfl) (pe_lst pa_nil))
  (pss_cons (ps_for PassesOwn.never rfl (pi_list (pv 0)) (pg_name (i := 2) sc.nd rfl (Or.inr rfl)) (pss_one (ps_expr (pe_bm PySem.F.plainAttrs_list PySem.F.slot_list_append PySem.F.type_list_append mt_append (pv 1) (pa_cons (pe_callB (cr_sum rfl) rfl T.m_sum (by decide +kernel) (pa_cons (pe_lc (own := [("at", 3), ("other", 4)]) (g := gTup K 2 (gCons (gName 3) (gCons (gName 4) gNil))) rfl sc.nd (pi_enum rfl T.m_enumerate (pa_cons (pv 0) pa_nil)) (blkOk_by (own := [("at", 3), ("other", 4)]) (N := ["couples", "clashes", "one", "at", "other"]) (sc := defScope s_clashes_of) (by decide +kernel)) (fun _ _ _ _ _ => (pg_tup rfl (pgs_cons (pg_name (i := 3) sc.nd rfl (Or.inl rfl)) (pgs_cons (pg_name (i := 4) sc.nd rfl (Or.inl rfl)) pgs_nil)))) (fun _ _ _ _ _ => (pts_one (PW.pt (pw_or (pt_cmpR (r := rIn K false) op_in_seq (pe_ix (r := rIxT K) ix_tup (pv 2) pe_int (fun _ _ => rfl)) (pv 4) rfl) (pw_or1 (pt_cmpR (r := rIn K false) op_in_seq (pe_ix (r := rIxT K) ix_tup (pv 2) pe_int (fun _ _ => rfl)) (pv 4) rfl)))))) (fun _ _ _ _ _ => (pe_op op_oneShl pe_int (pv 3)))) pa_nil)) pa_nil)))))
  (pss_one (ps_ret (pv 1))))), ?_⟩
    obtain ⟨ps, ⟨xs, ha, pa⟩, few, q⟩ := h
    have el := paired_len pa
    have big : (1000 : Nat) < PySem.sizeLine := by decide
    refine ⟨nought, fun D hD => ?_⟩
    have g0 := same_new (o := .lst []) hD
    have hD0 : upd H D (.lst []) D = some (.lst []) := upd_same
    refine ⟨_, rfl, a, rfl, ⟨_, SqL.of (g0 _ _ ha)⟩, ?_⟩
    refine for_it (walk_list (K := K) (a := a) (xs := xs)) (fun i σ H1 => ∃ v2, σ = [some (.ref a), some (.ref D), v2, none, none] ∧ Same H H1 ∧ H1 D = some (.lst ((List.range i).map fun i => V.int ((bitsOf (KP ps i) ps.length : Nat) : Int)))) ⟨none, rfl, g0, hD0⟩ (fun i σ H1 _ ⟨_, _, g, _⟩ => SqL.of (g _ _ ha)) ?_ ?_
    rotate_left
    · rintro σ H1 ⟨v2, rfl, g1, hD1⟩
      rw [el] at hD1
      exact ⟨_, rfl, q D H1 hD hD1 g1⟩
    rintro i y σ Hx H1 hi ⟨v2, rfl, g1, hD1⟩ ⟨rfl, hy⟩
    obtain ⟨p, hp, r, rfl, hr⟩ := paired_at pa i y hy
    refine ⟨_, rfl, .inl ⟨rfl, _, SqL.of hD1⟩, ?_⟩
    have nDa : D ≠ a := fun e => by rw [e, ha] at hD; cases hD
    refine ⟨_, rfl, a, _, rfl, SqL.of (g1 _ _ ha), fun D3 hD3 => ?_⟩
    refine lcS (walk_enum (K := K) (a := a) (xs := xs)) stays_int (List.range ps.length) (fun j => KP ps i j) (fun j => (2 : Int) ^ j) (by rw [List.length_range]; exact el) (by rw [List.length_range]; omega) (fun H2 g => SqL.of (g _ _ (g1 _ _ ha))) hD3 ?_ ?_
    · rintro j x b H2 H3 Nx hb ⟨T0, x1, x2, rfl, hT, rfl, e1, e2⟩ sm no yes
      have lj : j < ps.length := by have := (List.getElem?_eq_some_iff.mp hb).1; rwa [List.length_range] at this
      have eb : b = j := by
        rw [List.getElem?_range lj] at hb
        exact (Option.some.inj hb).symm
      subst eb
      obtain rfl : V.int ((b : Nat) : Int) = x1 := Option.some.inj e1
      obtain ⟨p2, hp2, r2, rfl, hr2⟩ := paired_at pa b x2 e2
      have gT := same_new (o := .tup [V.int ((b : Nat) : Int), V.ref r2]) hT
      have hr' := gT _ _ (sm _ _ (g1 _ _ hr))
      have hr2' := gT _ _ (sm _ _ (g1 _ _ hr2))
      refine ⟨T0, _, rfl, SqT.of upd_same, rfl, _, _, rfl, _, _, rfl, rfl, rfl, ?_⟩
      refine ⟨_, rfl, r, _, 0, .int p.1, rfl, rfl, SqT.of hr', rfl, _, rfl, r2, _, rfl, .inr (SqT.of hr2'), rfl, rfl, _, rfl, ?_⟩
      have kp : KP ps i b = shareP p p2 := kp_at hp hp2
      rw [in_two]
      refine ite2 (fun z => ?_) (fun z => ?_)
      · have k1 : KP ps i b = true := by rw [kp]; unfold shareP; rw [z]; rfl
        exact iteT ⟨_, rfl, b, rfl, rfl, by omega, yes k1 _ _ gT rfl⟩
      · refine ⟨_, rfl, r, _, 1, .int p.2, rfl, rfl, SqT.of hr', rfl, _, rfl, r2, _, rfl, .inr (SqT.of hr2'), rfl, rfl, _, rfl, ?_⟩
        have zf : (decide (p.1 = p2.1) || decide (p.1 = p2.2)) = false := by simpa using z
        rw [in_two]
        refine ite2 (fun z2 => ?_) (fun z2 => ?_)
        · have k1 : KP ps i b = true := by rw [kp]; unfold shareP; rw [zf, z2]; rfl
          exact ⟨_, rfl, b, rfl, rfl, by omega, yes k1 _ _ gT rfl⟩
        · have k0 : KP ps i b = false := by
            rw [kp]; unfold shareP; rw [zf, Bool.false_or]; simpa using z2
          exact no k0 _ gT
    intro H2 g2 l2
    obtain ⟨acc, h1, h2⟩ := l2
    rw [ints_vs h2] at h1
    refine ⟨D3, _, rfl, SqL.of h1, ?_⟩
    rw [sum_bits]
    have hD2 := g2 _ _ hD1
    have li : i < xs.length := (List.getElem?_eq_some_iff.mp hy).1
    refine ⟨D, _, _, rfl, rfl, hD2, by rw [List.length_map, List.length_range]; omega, ?_⟩
    refine ⟨_, rfl, same_mut (g1.trans g2) hD, ?_⟩
    rw [upd_same, List.range_succ, List.map_append]
    rfl
end
end K24
namespace K24
open PySem L2 Nm
open C8 (Cal Mak pe_c pe_mk pe_gc)
open RZ (ItzT pi_zipA)
theorem pow_nat (m : Nat) : ((2 : Int) ^ m) = ((2 ^ m : Nat) : Int) := (Int.natCast_pow 2 m).symm
section
variable {P : Program} {w : World} {K : PySem.W.Frag} {mg : Str → Option Value} {base : Heap}
def sp_filled (K : PySem.W.Frag) : Sp := fun vs H Q _ => ∃ (S : Nat) (a : Addr), vs = [.int (S : Int), .ref a] ∧ ∃ (C : Nat → Nat → Bool) (n : Nat), H a = some (.lst ((List.range n).map fun i => V.int ((bitsOf (C i) n : Nat) : Int))) ∧ n ≤ 1000 ∧ S < 2 ^ n ∧ ∀ H', Same H H' → Q (.int ((filledN C n S : Nat) : Int)) H'
theorem c_filled (T : Txt K mg) : Cal P w K mg base 1 "filled" (sp_filled K) [] := by
  have sc := sc_filled
  refine cal_of T.d_filled sc (fun _ _ _ _ _ _ us hl => match us, hl with | [_, _], _ => rfl) (fun vs H Q E h => ?_) (fun f cdv A outer s H vs Q E hr h => ?_)
  · obtain ⟨S, a, rfl, _⟩ := h
    rfl
  · obtain ⟨S, a, rfl, h⟩ := h
    refine ⟨_, (pss_cons (ps_for PassesOwn.never rfl (pi_enum rfl T.m_enumerate (pa_cons (pv 1) pa_nil)) (pg_tup rfl (pgs_cons (pg_name (i := 2) sc.nd rfl (Or.inl rfl)) (pgs_cons (pg_name (i := 3) sc.nd rfl (Or.inl rfl)) pgs_nil))) (pss_one (ps_if (pt_cmpR op_eq (pe_op op_and (pv 0) (pv 3)) pe_int (nomark _)) (pss_one (ps_set (i := 0) sc.nd rfl (Or.inl rfl) (pe_op op_or (pv 0) (pe_op op_oneShl pe_int (pv 2))))) pss_nil)))
  (pss_one (ps_ret (pv 0)))), ?_⟩
    obtain ⟨C, n, ha, few, lt, q⟩ := h
    have lx : ((List.range n).map fun i => V.int ((bitsOf (C i) n : Nat) : Int)).length = n := by rw [List.length_map, List.length_range]
    refine ⟨_, rfl, a, _, rfl, SqL.of ha, ?_⟩
    refine for_it (walk_enum (K := K) (a := a) (xs := (List.range n).map fun i => V.int ((bitsOf (C i) n : Nat) : Int))) (fun i σ H1 => ∃ v2 v3, σ = [some (.int ((fillTo C n S i : Nat) : Int)), some (.ref a), v2, v3] ∧ Same H H1) ⟨none, none, rfl, Same.refl _⟩ (fun i σ H1 _ ⟨_, _, _, g⟩ => SqL.of (g _ _ ha)) ?_ ?_
    rotate_left
    · rintro σ H1 ⟨v2, v3, rfl, g1⟩
      rw [lx]
      exact ⟨_, rfl, q H1 g1⟩
    rintro i y σ H1 H2 hi ⟨v2, v3, rfl, g1⟩ ⟨T0, x1, x2, rfl, hT, rfl, e1, e2⟩
    rw [lx] at hi
    obtain rfl : V.int ((i : Nat) : Int) = x1 := Option.some.inj e1
    have e2 : ((List.range n).map fun i => V.int ((bitsOf (C i) n : Nat) : Int))[i]? = some x2 := e2
    rw [List.getElem?_map, List.getElem?_range hi] at e2
    obtain rfl : V.int ((bitsOf (C i) n : Nat) : Int) = x2 := Option.some.inj e2
    have gT := same_new (o := .tup [V.int ((i : Nat) : Int), V.int ((bitsOf (C i) n : Nat) : Int)]) hT
    refine ⟨T0, _, rfl, SqT.of upd_same, rfl, _, _, rfl, _, _, rfl, rfl, ?_⟩
    refine ⟨_, rfl, _, rfl, _, _, rfl, rfl, rfl, _, rfl, ?_⟩
    have fr : decide (V.int (Builtin.bitAnd ((fillTo C n S i : Nat) : Int) ((bitsOf (C i) n : Nat) : Int)) = V.int 0) = freeB C n (fillTo C n S i) i := by
      rw [and_nat, decI]
      unfold freeB
      exact decide_eq_decide.mpr (by omega)
    rw [fr]
    have step : fillTo C n S (i + 1) = if freeB C n (fillTo C n S i) i = true then fillTo C n S i ||| 2 ^ i else fillTo C n S i := rfl
    refine ite2 (fun z => ?_) (fun z => ?_)
    · refine ⟨_, rfl, _, rfl, i, rfl, rfl, by omega, _, _, rfl, rfl, ?_⟩
      rw [if_pos z] at step
      refine ⟨some (.int ((i : Nat) : Int)), some (.int ((bitsOf (C i) n : Nat) : Int)), ?_, g1.trans gT⟩
      rw [step, ← or_nat, ← pow_nat]
      rfl
    · rw [if_neg z] at step
      refine ⟨some (.int ((i : Nat) : Int)), some (.int ((bitsOf (C i) n : Nat) : Int)), ?_, g1.trans gT⟩
      rw [step]
      rfl
end
end K24
namespace K24
open PySem L2 Nm
open C8 (Cal Mak pe_c pe_mk pe_gc)
open RZ (ItzT pi_zipA)
abbrev natsV (ws : List Nat) : List V := ws.map fun c => V.int ((c : Nat) : Int)
theorem natsV_snoc (ws : List Nat) (c : Nat) : natsV (ws ++ [c]) = natsV ws ++ [V.int ((c : Nat) : Int)] := by
  unfold natsV
  rw [List.map_append]
  rfl
section
variable {P : Program} {w : World} {K : PySem.W.Frag} {mg : Str → Option Value} {base : Heap}
def sp_greatest_pairings (K : PySem.W.Frag) : Sp := fun vs H Q _ => ∃ (a : Addr), vs = [.ref a] ∧ ∃ ps, PrsAt H a ps ∧ ps.Pairwise (Less dPr) ∧ ps.length ≤ 1000 ∧ (∃ L : List Nat, L.length ≤ 2000 ∧ ∀ c, Mis (KP ps) c ps.length → c ∈ L) ∧
  ∀ p H' ts, H p = none → LstOf PtAt H' p ts → ts.Pairwise (Less dPrs) → (∀ t, t ∈ ts ↔ Great ps t) → Same H H' → Q (.ref p) H'
theorem c_greatest_pairings (T : Txt K mg) : Cal P w K mg base 2 "greatest_pairings" (sp_greatest_pairings K) [] := by
  have C_clashes_of := c_clashes_of (P := P) (w := w) (base := base) T
  have C_filled := c_filled (P := P) (w := w) (base := base) T
  have sc := sc_greatest_pairings
  refine cal_of T.d_greatest_pairings sc (fun _ _ _ _ _ _ us hl => match us, hl with | [_], _ => rfl) (fun vs H Q E h => ?_) (fun f cdv A outer s H vs Q E hr h => ?_)
  · obtain ⟨a, rfl, _⟩ := h
    rfl
  · obtain ⟨a, rfl, h⟩ := h
    refine ⟨_, (pss_cons (ps_set (i := 1) sc.nd rfl (Or.inl rfl) (pe_c C_clashes_of hr (by omega) rfl (pa_cons (pv 0) pa_nil)))
  (pss_cons (ps_set (i := 2) sc.nd rfl (Or.inl rfl) (pe_c C_filled hr (by omega) rfl (pa_cons pe_int (pa_cons (pv 1) pa_nil))))
  (pss_cons (ps_set (i := 3) sc.nd rfl (Or.inl rfl) (pe_disp (pps_cons (pv 2) pe_bl pps_nil) rfl rfl (List.cons_ne_nil _ _) (by show 1 ≤ 15; decide)))
  (pss_cons (ps_set (i := 4) sc.nd rfl (Or.inl rfl) (pe_lst (pa_cons (pv 2) pa_nil)))
  (pss_cons (ps_while PassesOwn.never (pt_truth (pv 4) (fun _ => rfl)) (pss_cons (ps_set (i := 5) sc.nd rfl (Or.inl rfl) (pe_bm0 PySem.F.plainAttrs_list PySem.F.slot_list_pop PySem.F.type_list_pop mt_pop (pv 4)))
  (pss_one (ps_for PassesOwn.never rfl (pi_enum rfl T.m_enumerate (pa_cons (pv 1) pa_nil)) (pg_tup rfl (pgs_cons (pg_name (i := 6) sc.nd rfl (Or.inl rfl)) (pgs_cons (pg_name (i := 7) sc.nd rfl (Or.inl rfl)) pgs_nil))) (pss_cons (ps_set (i := 8) sc.nd rfl (Or.inl rfl) (pe_op op_and (pv 5) (pe_op op_sub (pe_op op_oneShl pe_int (pv 6)) pe_int)))
  (pss_cons (ps_set (i := 9) sc.nd rfl (Or.inl rfl) (pe_c C_filled hr (by omega) rfl (pa_cons (pe_op op_or (pe_op op_and (pv 8) (pe_un un_inv (pv 7))) (pe_op op_oneShl pe_int (pv 6))) (pa_cons (pv 1) pa_nil))))
  (pss_one (ps_if (pt_cmp (pc_dnotin (hu_of hr) (pv 9) (pv 3))) (pss_cons (ps_dput (hu_of hr) (pv 3) (pv 9) pe_bl rfl)
  (pss_cons (ps_expr (pe_bm PySem.F.plainAttrs_list PySem.F.slot_list_append PySem.F.type_list_append mt_append (pv 4) (pa_cons (pv 9) pa_nil)))
  (pss_one (ps_if (pt_cmpR op_gt (pe_callB call_lenD rfl T.m_len (by decide +kernel) (pa_cons (pv 3) pa_nil)) (pe_gc rfl T.g_MOST_PAIRINGS) (nomark _)) (pss_one ps_never) pss_nil)))) pss_nil))))))))
  (pss_one (ps_ret (pe_callB (Nm.cr_sortS (u66 hr)) rfl T.m_sorted (by decide +kernel) (pa_cons (pe_lock (pe_lc (own := [("bits", 10)]) (g := gName 10) rfl sc.nd (pi_keys (pv 3)) (blkOk_by (own := [("bits", 10)]) (N := ["couples", "clashes", "first", "found", "waiting", "chosen", "at", "clash", "ahead", "other", "bits", "couple"]) (sc := defScope s_greatest_pairings) (by decide +kernel)) (fun _ _ _ _ _ => (pg_name (i := 10) sc.nd rfl (Or.inr rfl))) (fun _ _ _ _ _ => pts_nil) (fun _ _ _ _ _ => (pe_callTy (r := rTupleOf K) call_tupleOf rfl T.m_tuple (by decide +kernel) (pa_cons (pe_lc (own := [("at", 6), ("couple", 11)]) (wi := iEnum K (tCons (tVar 0) tNil)) (g := gTup K 2 (gCons (gName 6) (gCons (gName 11) gNil))) rfl sc.nd (pi_enum rfl T.m_enumerate (pa_cons (pv 0) pa_nil)) (blkOk_by (own := [("at", 6), ("couple", 11)]) (N := ["couples", "clashes", "first", "found", "waiting", "chosen", "at", "clash", "ahead", "other", "bits", "couple"]) (sc := relS cs_greatest_pairings_89_18 (defScope s_greatest_pairings)) (by decide +kernel)) (fun _ _ _ _ _ => (pg_tup rfl (pgs_cons (pg_name (i := 6) sc.nd rfl (Or.inl rfl)) (pgs_cons (pg_name (i := 11) sc.nd rfl (Or.inl rfl)) pgs_nil)))) (fun _ _ _ _ _ => (pts_one (Nm.pt_intT (pe_op op_and (pe_op op_shrN (pv 10) (pv 6)) pe_int) (fun _ => rfl)))) (fun _ _ _ _ _ => (pv 11))) pa_nil))))) pa_nil))))))))), ?_⟩
    obtain ⟨ps, pra, up, few, ⟨L, L2, hL⟩, q⟩ := h
    have big : (100000 : Nat) < PySem.sizeLine := by decide
    have sym := kp_sym ps
    refine ⟨_, rfl, a, rfl, ps, pra, few, fun cl H1 hcl0 hcl g1 => ?_⟩
    obtain ⟨n, hn⟩ : ∃ n, n = ps.length := ⟨_, rfl⟩
    rw [← hn] at hcl
    refine ⟨_, rfl, 0, cl, rfl, KP ps, n, hcl, by omega, Nat.two_pow_pos n, fun H2 g2 => ?_⟩
    have hcl2 := g2 _ _ hcl
    have M0 : Mis (KP ps) (filledN (KP ps) n 0) n := filled_mis sym (Nat.two_pow_pos n) ind_zero
    generalize hF0 : filledN (KP ps) n 0 = F0 at M0
    refine fun fd hfd => ⟨_, rfl, upd_same, [(.inl ((F0 : Nat) : Int), .bl true)], rfl, (by show 1 ≤ 15; decide), ?_⟩
    have k1 := same_new (o := .dK []) hfd
    refine ⟨_, rfl, (by show 1 ≤ PySem.sizeLine; decide), fun wt hwt => ?_⟩
    have e3 : mergeK [] [((.inl ((F0 : Nat) : Int) : Key), V.bl true)] = [(.inl ((F0 : Nat) : Int), V.bl true)] := rfl
    rw [e3] at hwt ⊢
    have e4 : upd (upd H2 fd (.dK [])) fd (.dK [((.inl ((F0 : Nat) : Int) : Key), V.bl true)]) = upd H2 fd (.dK [(.inl ((F0 : Nat) : Int), V.bl true)]) := by
      funext b
      by_cases c : b = fd
      · rw [c, upd_same, upd_same]
      · rw [upd_ne c, upd_ne c, upd_ne c]
    rw [e4] at hwt ⊢
    have k2 := same_new (o := .dK [((.inl ((F0 : Nat) : Int) : Key), V.bl true)]) hfd
    have k3 := same_new (o := .lst [V.int ((F0 : Nat) : Int)]) hwt
    have nwf : wt ≠ fd := fun e => by rw [e, upd_same] at hwt; cases hwt
    have hwt2 : H2 wt = none := k2.free hwt
    have hfd4 : upd (upd H2 fd (.dK [((.inl ((F0 : Nat) : Int) : Key), V.bl true)])) wt (.lst [V.int ((F0 : Nat) : Int)]) fd = some (.dK [(.inl ((F0 : Nat) : Int), V.bl true)]) := k3 _ _ upd_same
    have hwt4 : upd (upd H2 fd (.dK [((.inl ((F0 : Nat) : Int) : Key), V.bl true)])) wt (.lst [V.int ((F0 : Nat) : Int)]) wt = some (.lst [V.int ((F0 : Nat) : Int)]) := upd_same
    have g24 := k2.trans k3
    generalize upd (upd H2 fd (.dK [((.inl ((F0 : Nat) : Int) : Key), V.bl true)])) wt (.lst [V.int ((F0 : Nat) : Int)]) = H4 at hfd4 hwt4 g24
    have lenL : ∀ fs : List Nat, fs.Nodup → (∀ c ∈ fs, Mis (KP ps) c n) → fs.length ≤ 2000 := fun fs nd al => Nat.le_trans (List.Nodup.length_le_of_subset nd fun c hc => hL c (hn ▸ al c hc)) L2
    refine ⟨fun m σ H5 => ∃ v5 v6 v7 v8 v9, ∃ (fs ws : List Nat) (kvs : List (Key × V)), σ = [some (.ref a), some (.ref cl), some (.int ((F0 : Nat) : Int)), some (.ref fd), some (.ref wt), v5, v6, v7, v8, v9, none, none] ∧ Same H2 H5 ∧ H5 fd = some (.dK kvs) ∧ kvs.map (·.1) = fs.map (fun c => Sum.inl ((c : Nat) : Int)) ∧ H5 wt = some (.lst (natsV ws)) ∧ fs.Nodup ∧ (∀ c ∈ fs, Mis (KP ps) c n) ∧ (∀ c ∈ ws, c ∈ fs) ∧ F0 ∈ fs ∧ (∀ S ∈ fs, S ∉ ws → ∀ i, i < n → filledN (KP ps) n (turnAt (KP ps) S i) ∈ fs) ∧ m = 2 * (2000 - fs.length) + ws.length ∧ ws.length ≤ fs.length,
      ⟨3999, none, none, none, none, none, [F0], [F0], _, rfl, g24, hfd4, rfl, hwt4, List.pairwise_singleton _ _, fun c hc => by rw [List.mem_singleton.mp hc]; exact M0, fun c hc => hc, List.mem_singleton.mpr rfl, fun S hS nS => absurd hS nS, rfl, Nat.le_refl _⟩, ?_⟩
    rintro m σ H5 ⟨v5, v6, v7, v8, v9, fs, ws, kvs, rfl, g5, hfd5, hks, hwt5, ndf, mis, sub, in0, clo, em, lws⟩
    have lf := lenL fs ndf mis
    refine ⟨_, rfl, _, .inl ⟨_, SqL.of hwt5, rfl⟩, ?_⟩
    cases hws : (natsV ws).isEmpty with
    | true =>
      refine iteF ?_
      have w0 : ws = [] := List.map_eq_nil_iff.mp (List.isEmpty_iff.mp hws)
      subst w0
      have len : kvs.length = fs.length := by
        have := congrArg List.length hks
        rwa [List.length_map, List.length_map] at this
      obtain ⟨xs, ha, pa⟩ := pra
      have el := paired_len pa
      have ha5 := g5 _ _ (g2 _ _ (g1 _ _ ha))
      refine ⟨fd, .dK kvs, hfd5, trivial, fun od => ?_⟩
      have hF : upd H5 fd (.frz od (.dK kvs)) fd = some (.frz od (.dK kvs)) := upd_same
      have nfd : ∀ {b : Addr} {o : HO}, H5 b = some o → (∀ ks, o ≠ .dK ks) → upd H5 fd (.frz od (.dK kvs)) b = some o := fun {b o} h ne => by
        rw [upd_ne (fun e => by rw [e, hfd5] at h; exact ne _ (Option.some.inj h).symm)]
        exact h
      have haF := nfd ha5 (fun ks e => nomatch e)
      have paF : Paired (PrAt (upd H5 fd (.frz od (.dK kvs)))) xs ps := paired_mono (fun x p h => by
        obtain ⟨t, e, ht⟩ := h
        exact ⟨t, e, nfd (g5 _ _ (g2 _ _ (g1 _ _ ht))) (fun ks e => nomatch e)⟩) pa
      refine ⟨_, rfl, fd, od, rfl, .inl ⟨kvs, hF, fun D7 hD7 => ?_⟩⟩
      refine lcS (walk_keys (d := fd) (o := od) (kvs := kvs)) stays_pt fs (fun _ => true) (fun c => pickL ps c) len (by omega) (fun H8 g8 => g8 _ _ hF) hD7 ?_ ?_
      · rintro i2 x c H8 H9 Nx hc ⟨rfl, k, v, hk, rfl⟩ sm _ yes
        have ek : k = Sum.inl ((c : Nat) : Int) := by
          have a1 : (kvs.map (·.1))[i2]? = some k := by rw [List.getElem?_map, hk]; rfl
          rw [hks, List.getElem?_map, hc] at a1
          exact (Option.some.inj a1).symm
        subst ek
        refine ⟨rfl, ?_⟩
        refine ⟨_, rfl, a, xs, rfl, SqL.of (sm _ _ haF), fun D8 hD8 => ?_⟩
        refine lcS (walk_enum (K := K) (a := a) (xs := xs)) stays_pr (List.range ps.length) (fun j => c.testBit j) (fun j => ps.getD j (0, 0)) (by rw [List.length_range]; exact el) (by rw [List.length_range]; omega) (fun H10 g10 => SqL.of (g10 _ _ (sm _ _ haF))) hD8 ?_ ?_
        · rintro j x b H10 H11 Nx2 hb ⟨T0, x1, x2, rfl, hT, rfl, e1, e2⟩ sm2 no2 yes2
          have lj : j < ps.length := by have := (List.getElem?_eq_some_iff.mp hb).1; rwa [List.length_range] at this
          have eb : b = j := by
            rw [List.getElem?_range lj] at hb
            exact (Option.some.inj hb).symm
          subst eb
          obtain rfl : V.int ((b : Nat) : Int) = x1 := Option.some.inj e1
          obtain ⟨p2, hp2, hr2⟩ := paired_at paF b x2 e2
          have gT := same_new (o := .tup [V.int ((b : Nat) : Int), x2]) hT
          refine ⟨T0, _, rfl, SqT.of upd_same, rfl, _, _, rfl, _, _, rfl, rfl, rfl, ?_⟩
          refine ⟨_, rfl, _, rfl, ((c : Nat) : Int), b, rfl, rfl, _, _, rfl, rfl, _, rfl, ?_⟩
          rw [bit_test c b]
          have pr2 := stays_pr _ _ _ _ (tups_same (sm.trans (sm2.trans gT))) hr2
          rw [← getD_at hp2] at pr2
          cases e : c.testBit b with
          | true => exact iteT ⟨_, rfl, yes2 e _ _ gT pr2⟩
          | false => exact iteF (no2 e _ gT)
        intro H10 g10 l10
        obtain ⟨acc, h1, h2⟩ := l10
        refine ⟨D8, acc, rfl, .inl ⟨SqL.of h1, fun l hl => ?_⟩⟩
        have gl := same_new (o := .tup acc) hl
        refine yes rfl _ _ (g10.trans gl) ⟨l, rfl, acc, upd_same, paired_mono (fun _ _ => stays_pr _ _ _ _ (tups_same gl)) h2⟩
      intro H8 sm l8
      rw [filter_all] at l8
      obtain ⟨ys, hB8, pb⟩ := l8
      refine ⟨sm _ _ hF, ?_⟩
      have g58 : Same H5 (upd H8 fd (.dK kvs)) := fun b o ho => by
        by_cases c : b = fd
        · subst c
          rw [upd_same, ← hfd5, ho]
        · rw [upd_ne c]
          exact sm _ _ (by rw [upd_ne c]; exact ho)
      have nD7 : D7 ≠ fd := fun e => by
        rw [e, hF] at hD7
        cases hD7
      have hB9 : upd H8 fd (.dK kvs) D7 = some (.lst ys) := by
        rw [upd_ne nD7]
        exact hB8
      have t89 : Tups H8 (upd H8 fd (.dK kvs)) := fun b us hb => by
        rw [upd_ne (fun e => by rw [e, sm _ _ hF] at hb; cases hb)]
        exact hb
      have pb9 : Paired (PtAt (upd H8 fd (.dK kvs))) ys (fs.map fun c => pickL ps c) := paired_mono (fun _ _ => stays_pt _ _ _ _ t89) pb
      generalize upd H8 fd (.dK kvs) = H9 at g58 hB9 pb9
      dsimp only [tNil]
      refine sort_told ordd_prs (R := PtAt H9) ptAt_fn (fun x t h => ptAt_dp x t h) (.inl (SqL.of hB9)) pb9 fun zs bs p pz srt pm hp => ?_
      have gp := same_new (o := .lst zs) hp
      have all := (g1.trans (g2.trans (g5.trans g58)))
      have ndp : (fs.map fun c => pickL ps c).Nodup := by
        unfold List.Nodup
        rw [List.pairwise_map]
        refine List.Pairwise.imp_of_mem (fun {a b} ha hb h e => h ?_) ndf
        have ea := code_pick up (hn ▸ (mis a ha).lt)
        have eb := code_pick up (hn ▸ (mis b hb).lt)
        rw [← ea, ← eb]
        exact congrArg (codeL ps) e
      refine q p _ bs (all.free hp) ⟨zs, upd_same, paired_mono (fun _ _ => stays_pt _ _ _ _ (tups_same gp)) pz⟩ (ordd_prs.strict srt (pm.nodup_iff.mpr ndp)) (fun t => ?_) (all.trans gp)
      rw [pm.mem_iff, List.mem_map]
      constructor
      · rintro ⟨c, hc, rfl⟩
        exact mis_great up (hn ▸ mis c hc)
      · intro gt
        have M := great_mis up gt
        rw [← hn] at M
        exact ⟨codeL ps t, found_all sym (fun i hi => kp_refl i (hn ▸ hi)) (F := fun c => c ∈ fs) (by rw [hF0]; exact in0) (fun S hS i hi => clo S hS (List.not_mem_nil) i hi) M, pick_code up gt.up gt.sub⟩
    | false =>
      have wne : ws ≠ [] := fun e => by rw [e] at hws; cases hws
      obtain ⟨ws0, ch, rfl⟩ := last_nat wne
      refine iteT ⟨_, fun σ' H' h => h, ?_⟩
      refine ⟨_, rfl, .inl ⟨rfl, _, SqL.of hwt5⟩, wt, natsV (ws0 ++ [ch]), .int ((ch : Nat) : Int), rfl, rfl, hwt5, ?_, ?_⟩
      · rw [natsV_snoc, List.length_append, List.length_singleton, Nat.add_sub_cancel, List.getElem?_append_right (Nat.le_refl _), Nat.sub_self]
        rfl
      rw [natsV_snoc, List.dropLast_concat]
      have g6 : Same H2 (upd H5 wt (.lst (natsV ws0))) := same_mut g5 hwt2
      have hwt6 : upd H5 wt (.lst (natsV ws0)) wt = some (.lst (natsV ws0)) := upd_same
      have hfd6 : upd H5 wt (.lst (natsV ws0)) fd = some (.dK kvs) := by rw [upd_ne nwf.symm]; exact hfd5
      generalize upd H5 wt (.lst (natsV ws0)) = H6 at g6 hwt6 hfd6
      clear hwt5 hfd5 g5
      have mch := sub ch (List.mem_append_right _ (List.mem_singleton.mpr rfl))
      have Mch := mis ch mch
      have lx : ((List.range n).map fun i => V.int ((bitsOf (KP ps i) n : Nat) : Int)).length = n := by rw [List.length_map, List.length_range]
      refine ⟨_, rfl, cl, _, rfl, SqL.of (g6 _ _ hcl2), ?_⟩
      refine for_it (walk_enum (K := K) (a := cl) (xs := (List.range n).map fun i => V.int ((bitsOf (KP ps i) n : Nat) : Int))) (fun i σ H7 => ∃ v6 v7 v8 v9, ∃ (nw : List Nat) (kvs' : List (Key × V)), σ = [some (.ref a), some (.ref cl), some (.int ((F0 : Nat) : Int)), some (.ref fd), some (.ref wt), some (.int ((ch : Nat) : Int)), v6, v7, v8, v9, none, none] ∧ Same H2 H7 ∧ H7 fd = some (.dK kvs') ∧ kvs'.map (·.1) = (fs ++ nw).map (fun c => Sum.inl ((c : Nat) : Int)) ∧ H7 wt = some (.lst (natsV (ws0 ++ nw))) ∧ (fs ++ nw).Nodup ∧ (∀ c ∈ fs ++ nw, Mis (KP ps) c n) ∧ ∀ j, j < i → filledN (KP ps) n (turnAt (KP ps) ch j) ∈ fs ++ nw)
        ⟨_, _, _, _, [], kvs, rfl, g6, hfd6, by rw [List.append_nil]; exact hks, by rw [List.append_nil]; exact hwt6, by rw [List.append_nil]; exact ndf, by rw [List.append_nil]; exact mis, fun j hj => absurd hj (Nat.not_lt_zero _)⟩ (fun i σ H7 _ ⟨_, _, _, _, _, _, _, g, _⟩ => SqL.of (g _ _ hcl2)) ?_ ?_
      rotate_left
      · rintro σ H7 ⟨v6, v7, v8, v9, nw, kvs', rfl, g7, hfd7, hks7, hwt7, nd7, mis7, cl7⟩
        have l7 := lenL _ nd7 mis7
        rw [List.length_append] at l7
        refine ⟨2 * (2000 - (fs ++ nw).length) + (ws0 ++ nw).length, ?_, _, _, _, _, _, fs ++ nw, ws0 ++ nw, kvs', rfl, g7, hfd7, hks7, hwt7, nd7, mis7, fun c hc => ?_, List.mem_append_left _ in0, fun S hS nS j hj => ?_, rfl, by rw [List.length_append, List.length_append]; rw [List.length_append, List.length_singleton] at lws; omega⟩
        · rw [List.length_append, List.length_append, em, List.length_append, List.length_singleton]
          omega
        · rcases List.mem_append.mp hc with h | h
          · exact List.mem_append_left _ (sub c (List.mem_append_left _ h))
          · exact List.mem_append_right _ h
        · by_cases e : S = ch
          · rw [e]
            exact cl7 j (by rw [lx]; exact hj)
          · rcases List.mem_append.mp hS with h | h
            · refine List.mem_append_left _ (clo S h (fun z => ?_) j hj)
              rcases List.mem_append.mp z with z | z
              · exact nS (List.mem_append_left _ z)
              · exact e (List.mem_singleton.mp z)
            · exact absurd (List.mem_append_right _ h) nS
      rintro i y σ H7 Hx hi ⟨v6, v7, v8, v9, nw, kvs', rfl, g7, hfd7, hks7, hwt7, nd7, mis7, cl7⟩ ⟨T0, x1, x2, rfl, hT, rfl, e1, e2⟩
      rw [lx] at hi
      obtain rfl : V.int ((i : Nat) : Int) = x1 := Option.some.inj e1
      have e2 : ((List.range n).map fun i => V.int ((bitsOf (KP ps i) n : Nat) : Int))[i]? = some x2 := e2
      rw [List.getElem?_map, List.getElem?_range hi] at e2
      obtain rfl : V.int ((bitsOf (KP ps i) n : Nat) : Int) = x2 := Option.some.inj e2
      have gT := same_new (o := .tup [V.int ((i : Nat) : Int), V.int ((bitsOf (KP ps i) n : Nat) : Int)]) hT
      refine ⟨T0, _, rfl, SqT.of upd_same, rfl, _, _, rfl, _, _, rfl, rfl, ?_⟩
      have hfd8 := gT _ _ hfd7
      have hwt8 := gT _ _ hwt7
      have g8 := g7.trans gT
      generalize upd H7 T0 (.tup [V.int ((i : Nat) : Int), V.int ((bitsOf (KP ps i) n : Nat) : Int)]) = H8 at hfd8 hwt8 g8
      clear hfd7 hwt7 g7 gT hT
      have tok := turn_ok sym hi Mch.ind
      have Mnew : Mis (KP ps) (filledN (KP ps) n (turnAt (KP ps) ch i)) n := filled_mis sym tok.1 tok.2
      refine ⟨_, rfl, _, rfl, i, rfl, rfl, by omega, _, _, rfl, rfl, _, _, rfl, rfl, ?_⟩
      refine ⟨_, rfl, _, rfl, _, rfl, _, _, rfl, rfl, _, rfl, i, rfl, rfl, by omega, _, _, rfl, rfl, _, rfl, turnAt (KP ps) ch i, cl, ?_, KP ps, n, g8 _ _ hcl2, by omega, tok.1, fun H9 g9 => ?_⟩
      · rw [← turn_all (KP ps) (S := ch) hi]
        rfl
      have hfd9 := g9 _ _ hfd8
      have hwt9 := g9 _ _ hwt8
      have g29 := g8.trans g9
      generalize hN : filledN (KP ps) n (turnAt (KP ps) ch i) = O at Mnew
      refine ⟨_, rfl, _, rfl, fd, _, rfl, (show DGet H9 fd (V.int ((O : Nat) : Int)) _ from DGet.k (k := .inl ((O : Nat) : Int)) hfd9), _, rfl, ?_⟩
      rw [dk_some hks7 O]
      have cl7' : ∀ (nw' : List Nat), O ∈ fs ++ nw' → (∀ c ∈ fs ++ nw, c ∈ fs ++ nw') → ∀ j, j < i + 1 → filledN (KP ps) n (turnAt (KP ps) ch j) ∈ fs ++ nw' := fun nw' hO hs j hj => by
        by_cases e : j = i
        · rw [e, hN]
          exact hO
        · exact hs _ (cl7 j (by omega))
      by_cases hmem : O ∈ fs ++ nw
      · rw [decide_eq_true hmem]
        exact iteN (nt rfl) ⟨_, _, _, _, nw, kvs', rfl, g29, hfd9, hks7, hwt9, nd7, mis7, cl7' nw hmem fun _ h => h⟩
      rw [decide_eq_false hmem]
      refine iteP rfl ?_
      have lk : kvs'.length = (fs ++ nw).length := by
        have := congrArg List.length hks7
        rwa [List.length_map, List.length_map] at this
      have nd' : (fs ++ (nw ++ [O])).Nodup := by
        rw [← List.append_assoc]
        exact List.nodup_append.mpr ⟨nd7, List.pairwise_singleton _ _, fun x hx y hy e => hmem (by rw [← List.mem_singleton.mp hy, ← e]; exact hx)⟩
      have mis' : ∀ c ∈ fs ++ (nw ++ [O]), Mis (KP ps) c n := fun c hc => by
        rw [← List.append_assoc] at hc
        rcases List.mem_append.mp hc with h | h
        · exact mis7 c h
        · rw [List.mem_singleton.mp h]
          exact Mnew
      have l' := lenL _ nd' mis'
      have l7 := lenL _ nd7 mis7
      refine ⟨_, rfl, _, rfl, fd, _, rfl, .inl ⟨kvs', .inl ((O : Nat) : Int), hfd9, rfl, by omega, rfl⟩, ?_⟩
      have hfd10 : upd H9 fd (.dK (putK kvs' (.inl ((O : Nat) : Int)) (.bl true))) fd = some (.dK (putK kvs' (.inl ((O : Nat) : Int)) (.bl true))) := upd_same
      have hwt10 : upd H9 fd (.dK (putK kvs' (.inl ((O : Nat) : Int)) (.bl true))) wt = some (.lst (natsV (ws0 ++ nw))) := by rw [upd_ne nwf]; exact hwt9
      have g10 : Same H2 (upd H9 fd (.dK (putK kvs' (.inl ((O : Nat) : Int)) (.bl true)))) := same_mut g29 hfd
      have hks10 : (putK kvs' (.inl ((O : Nat) : Int)) (.bl true)).map (·.1) = (fs ++ (nw ++ [O])).map (fun c => Sum.inl ((c : Nat) : Int)) := by
        rw [put_new (fun z => by
          rw [hks7] at z
          obtain ⟨c, hc, e⟩ := List.mem_map.mp z
          injection e with e
          have : c = O := by omega
          exact hmem (this ▸ hc)), hks7, ← List.append_assoc, List.map_append (l₁ := fs ++ nw)]
        rfl
      generalize upd H9 fd (.dK (putK kvs' (.inl ((O : Nat) : Int)) (.bl true))) = H10 at hfd10 hwt10 g10
      generalize putK kvs' (.inl ((O : Nat) : Int)) (.bl true) = kvs2 at hfd10 hks10
      have lw : (natsV (ws0 ++ nw)).length < PySem.sizeLine := by
        rw [List.length_map, List.length_append]
        rw [List.length_append] at l7
        rw [List.length_append, List.length_singleton] at lws
        omega
      refine ⟨_, rfl, .inl ⟨rfl, _, SqL.of hwt10⟩, _, rfl, wt, _, _, rfl, rfl, hwt10, lw, ?_⟩
      have hfd11 : upd H10 wt (.lst (natsV (ws0 ++ nw) ++ [.int ((O : Nat) : Int)])) fd = some (.dK kvs2) := by rw [upd_ne nwf.symm]; exact hfd10
      have l2 : kvs2.length = (fs ++ (nw ++ [O])).length := by
        have := congrArg List.length hks10
        rwa [List.length_map, List.length_map] at this
      refine ⟨_, rfl, fd, kvs2, rfl, hfd11, _, _, rfl, rfl, _, rfl, ?_⟩
      rw [l2, decide_eq_false (by omega)]
      refine iteF ⟨_, _, _, _, nw ++ [O], kvs2, rfl, same_mut g10 hwt2, hfd11, hks10, ?_, nd', mis', cl7' _ (List.mem_append_right _ (List.mem_append_right _ (List.mem_singleton.mpr rfl))) fun c hc => by rw [← List.append_assoc]; exact List.mem_append_left _ hc⟩
      rw [upd_same, ← List.append_assoc, natsV_snoc]
end
end K24
namespace K24
open PySem L2 Nm
open C8 (Cal Mak pe_c pe_mk pe_gc)
open RZ (ItzT pi_zipA)
section
variable {P : Program} {w : World} {K : PySem.W.Frag} {mg : Str → Option Value} {base : Heap}
def sp_is_ascending (K : PySem.W.Frag) : Sp := fun vs H Q _ => ∃ (a : Addr), vs = [.ref a] ∧ ∃ t, TupOf PrAt H a t ∧ t.length ≤ 1000 ∧ ∀ H', Same H H' → Q (.bl (ascG dPr t)) H'
theorem c_is_ascending (T : Txt K mg) : Cal P w K mg base 1 "is_ascending" (sp_is_ascending K) [] := by
  have sc := sc_is_ascending
  refine cal_of T.d_is_ascending sc (fun _ _ _ _ _ _ us hl => match us, hl with | [_], _ => rfl) (fun vs H Q E h => ?_) (fun f cdv A outer s H vs Q E hr h => ?_)
  · obtain ⟨a, rfl, _⟩ := h
    rfl
  · obtain ⟨a, rfl, h⟩ := h
    refine ⟨_, (pss_one (ps_ret (pe_callB (cr_all rfl) rfl T.m_all (by decide +kernel) (pa_cons (pe_lc (own := [("one", 1), ("other", 2)]) (g := gTup K 2 (gCons (gName 1) (gCons (gName 2) gNil))) rfl sc.nd (pi_zipA rfl T.m_zip (pa_cons (pv 0) (pa_cons (pe_slice sl_tupA (pv 0) (po_some pe_int) po_none) pa_nil))) (blkOk_by (own := [("one", 1), ("other", 2)]) (N := ["things", "one", "other"]) (sc := defScope s_is_ascending) (by decide +kernel)) (fun _ _ _ _ _ => (pg_tup rfl (pgs_cons (pg_name (i := 1) sc.nd rfl (Or.inl rfl)) (pgs_cons (pg_name (i := 2) sc.nd rfl (Or.inl rfl)) pgs_nil)))) (fun _ _ _ _ _ => pts_nil) (fun _ _ _ _ _ => (pe_cmpR (r := Nm.rLtDt K) (Nm.op_ltDt (u65 hr)) (pv 1) (pv 2) (nomark _)))) pa_nil)))), ?_⟩
    obtain ⟨rs, ⟨xs, ha, pa⟩, len, q⟩ := h
    have el := paired_len pa
    refine ⟨_, rfl, _, rfl, 1, rfl, ?_⟩
    dsimp only [tNoPart]
    refine sl_from1 ha fun b H1 g1 hb => ?_
    have pb := paired_drop pa 1
    refine ⟨a, b, xs, xs.drop 1, rfl, .inr ⟨SqT.of (g1 _ _ ha), SqT.of hb, fun D hD => ?_⟩⟩
    have lz : (rs.zip (rs.drop 1)).length = min xs.length (xs.drop 1).length := by
      rw [List.length_zip, el, List.length_drop, List.length_drop, el]
    refine lcS (walk_zipT (K := K) (a := a) (b := b) (xs := xs) (ys := xs.drop 1) rfl) stays_bl (rs.zip (rs.drop 1)) (fun _ => true) (fun p => lessB dPr p.1 p.2) lz.symm (by rw [List.length_zip]; omega) (fun H2 g => ⟨SqT.of (g _ _ (g1 _ _ ha)), SqT.of (g _ _ hb)⟩) hD ?_ ?_
    · rintro i x p H2 H3 Nx hp ⟨t3, x1, y1, rfl, hn, rfl, e1, e2⟩ sm _ yes
      obtain ⟨w1, hw1, r1, rfl, hr1⟩ := paired_at pa i _ e1
      obtain ⟨w2, hw2, r2, rfl, hr2⟩ := paired_at pb i _ e2
      have hz : p = (w1, w2) := by
        have z : (rs.zip (rs.drop 1))[i]? = some (w1, w2) := by
          rw [List.getElem?_zip_eq_some]
          exact ⟨hw1, hw2⟩
        rw [z] at hp
        exact (Option.some.inj hp).symm
      subst hz
      have g3 := (g1.trans sm).trans (same_new (o := .tup [V.ref r1, V.ref r2]) hn)
      refine ⟨t3, [.ref r1, .ref r2], rfl, SqT.of upd_same, rfl, _, _, rfl, _, _, rfl, rfl, rfl, ?_⟩
      refine ⟨_, rfl, _, rfl, dPr w1, dPr w2, dp_pr ⟨r1, rfl, g3 _ _ hr1⟩, dp_pr ⟨r2, rfl, g3 _ _ hr2⟩, ordd_pr.alike _ _, ordd_pr.dep _, ?_⟩
      exact yes rfl _ _ (same_new hn) rfl
    · intro H2 sm l
      refine ⟨D, _, rfl, sql_bl l, ?_⟩
      have e : (((rs.zip (rs.drop 1)).filter fun _ => true).map fun p => lessB dPr p.1 p.2).all id = ascG dPr rs := by
        rw [filter_all, List.all_map]
        rfl
      rw [e]
      exact q H2 (g1.trans sm)
end
end K24
namespace K24
open PySem L2 Nm
open C8 (Cal Mak pe_c pe_mk pe_gc)
open RZ (ItzT pi_zipA)
theorem flat_len (t : List Pr) : (t.flatMap fun p => [p.1, p.2]).length = 2 * t.length := by
  induction t with
  | nil => rfl
  | cons p t ih =>
    rw [List.flatMap_cons, List.length_append, ih]
    show 2 + 2 * t.length = 2 * (t.length + 1)
    omega
section
variable {P : Program} {w : World} {K : PySem.W.Frag} {mg : Str → Option Value} {base : Heap}
def sp_are_apart (K : PySem.W.Frag) : Sp := fun vs H Q _ => ∃ (a : Addr), vs = [.ref a] ∧ ∃ t, TupOf PrAt H a t ∧ t.length ≤ 1000 ∧ ∀ H', Same H H' → Q (.bl (decide (t.flatMap fun p => [p.1, p.2]).Nodup)) H'
theorem c_are_apart (T : Txt K mg) : Cal P w K mg base 1 "are_apart" (sp_are_apart K) [] := by
  have sc := sc_are_apart
  refine cal_of T.d_are_apart sc (fun _ _ _ _ _ _ us hl => match us, hl with | [_], _ => rfl) (fun vs H Q E h => ?_) (fun f cdv A outer s H vs Q E hr h => ?_)
  · obtain ⟨a, rfl, _⟩ := h
    rfl
  · obtain ⟨a, rfl, h⟩ := h
    refine ⟨_, (pss_cons (ps_setLc2 (i := 1) (wi1 := iTup K (tVar 2)) (own := [("couple", 2), ("board", 3)]) (vs1 := [3]) (g := gName 2) (g1 := gName 3) rfl sc.nd rfl rfl (sw_true rfl rfl rfl (by decide +kernel)) (pi_tup (pv 0)) (blkOk_by (own := [("couple", 2), ("board", 3)]) (N := ["couples", "boards", "couple", "board"]) (sc := defScope s_are_apart) (by decide +kernel)) (by decide) (fun _ _ _ _ _ => (pg_name (i := 2) sc.nd rfl (Or.inl rfl))) (fun _ _ _ _ _ => pts_nil) (fun _ _ _ _ _ => (pi_tup (pv 2))) (fun _ _ _ _ _ => (pg_name (i := 3) sc.nd rfl (Or.inl rfl))) (fun _ _ _ _ _ => pts_nil) (fun _ _ _ _ _ => (pv 3)))
  (pss_one (ps_ret (pe_cmpR op_eq (Nm.pe_lenSet rfl T.m_len rfl T.m_set (pv 1)) (pe_callB call_len_seq rfl T.m_len (by decide +kernel) (pa_cons (pv 1) pa_nil)) (nomark _))))), ?_⟩
    obtain ⟨t, ⟨xs, ha, pa⟩, few, q⟩ := h
    have el := paired_len pa
    have fl := flat_len t
    refine ⟨_, rfl, a, rfl, ⟨_, SqT.of ha⟩, fun D hD => ?_⟩
    refine lc2_outer (walk_tup (K := K) (a := a) (xs := xs)) stays_int t (fun p => [p.1, p.2]) el (by omega) (fun H1 g => SqT.of (g _ _ ha)) hD ?_ ?_
    · rintro i x p H1 H2 Nx done hp ⟨rfl, hx⟩ sm l lz nx
      obtain ⟨p', hp', r, rfl, hr⟩ := paired_at pa i x hx
      have e : p' = p := Option.some.inj (hp'.symm.trans hp)
      subst e
      refine ⟨rfl, ?_⟩
      refine ⟨_, rfl, r, rfl, ⟨_, SqT.of (sm _ _ hr)⟩, ?_⟩
      refine lc2_inner (walk_tup (K := K) (a := r) (xs := [.int p'.1, .int p'.2])) stays_int [p'.1, p'.2] rfl done lz hD sm l (fun H3 g => SqT.of (g _ _ hr)) nx ?_
      rintro j y c H3 H4 N1 hc ⟨rfl, hy⟩ sm3 yes
      have e : ([.int p'.1, .int p'.2] : List V) = [p'.1, p'.2].map V.int := rfl
      rw [e, List.getElem?_map, hc] at hy
      cases hy
      exact ⟨rfl, _, rfl, yes _ _ (Same.refl _) rfl⟩
    intro H1 g1 l1
    obtain ⟨acc, h1, h2⟩ := l1
    rw [ints_vs h2] at h1
    refine ⟨_, rfl, D, _, rfl, SqL.of h1, by omega, fun ks nd mem => ?_⟩
    refine ⟨_, rfl, D, _, rfl, .inl (SqL.of h1), rfl, ?_⟩
    have e : decide (V.int ((ks.length : Nat) : Int) = V.int (((((t.flatMap fun p => [p.1, p.2]).map V.int).length : Nat)) : Int)) = decide (t.flatMap fun p => [p.1, p.2]).Nodup := by
      rw [decI, List.length_map]
      refine decide_eq_decide.mpr ?_
      rw [← nodup_of_len nd mem]
      omega
    rw [e]
    exact q H1 g1
end
end K24
namespace K24
open PySem L2 Nm
open C8 (Cal Mak pe_c pe_mk pe_gc)
open RZ (ItzT pi_zipA)
abbrev keyPr (p : Pr) : List Key := [.inl p.1, .inl p.2]
/-- what is said of a thing that is to be a pair: b -/
def CpOr (K : PySem.W.Frag) (H : Hp) (ps : List Pr) (v : V) (b : Bool) : Prop :=
  ((∃ t, TyX K H v t ∧ PySem.W.kitOne K t (.type "tuple") = some false) ∧ b = false) ∨ ∃ a xs, v = .ref a ∧ H a = some (.tup xs) ∧
    ((xs.length ≠ 2 ∧ b = false) ∨ ∃ x y, xs = [x, y] ∧ TyI K H x ∧ TyI K H y ∧ ((isInt x && isInt y) = false ∧ b = false ∨ ∃ p : Pr, x = .int p.1 ∧ y = .int p.2 ∧ b = decide (p ∈ ps)))
theorem kp_inj {p q : Pr} : keyPr p = keyPr q ↔ p = q := by
  constructor
  · intro h
    injection h with h1 h2
    injection h2 with h2 _
    injection h1 with h1
    injection h2 with h2
    exact Prod.ext h1 h2
  · rintro rfl
    rfl
theorem dp_some {ents : List (List Key × V)} {ps : List Pr} (h : ents.map (·.1) = ps.map keyPr) (p : Pr) : (valV ents (keyPr p)).isSome = decide (p ∈ ps) := by
  rw [← valV_any]
  have e1 : (ents.any fun e => decide (e.1 = keyPr p)) = (ents.map (·.1)).any fun y => decide (y = keyPr p) := by
    rw [List.any_map]
    rfl
  rw [e1, h, List.any_map]
  by_cases m : p ∈ ps
  · rw [decide_eq_true m, List.any_eq_true]
    exact ⟨p, m, decide_eq_true rfl⟩
  · rw [decide_eq_false m, List.any_eq_false]
    intro x hx z
    exact m (kp_inj.mp (of_decide_eq_true z) ▸ hx)
section
variable {P : Program} {w : World} {K : PySem.W.Frag} {mg : Str → Option Value} {base : Heap}
def sp_is_couple (K : PySem.W.Frag) : Sp := fun vs H Q _ => ∃ (v : V) (D : Addr), vs = [v, .ref D] ∧ ∃ ps ents b, H D = some (.dT ents) ∧ ents.map (·.1) = ps.map keyPr ∧ CpOr K H ps v b ∧ ∀ H', Same H H' → Q (.bl b) H'
theorem c_is_couple (T : Txt K mg) : Cal P w K mg base 2 "is_couple" (sp_is_couple K) [] := by
  have C_is_integer := c_is_integer (P := P) (w := w) (base := base) T
  have sc := sc_is_couple
  refine cal_of T.d_is_couple sc (fun _ _ _ _ _ _ us hl => match us, hl with | [_, _], _ => rfl) (fun vs H Q E h => ?_) (fun f cdv A outer s H vs Q E hr h => ?_)
  · obtain ⟨v, D, rfl, _⟩ := h
    rfl
  · obtain ⟨v, D, rfl, h⟩ := h
    refine ⟨_, (pss_cons (ps_if (PW.pt (pw_or (pt_not (pt_val (pe_callB call_isi rfl T.m_isinstance (by decide +kernel) (pa_cons (pv 0) (pa_cons (pe_bltn (v := .ty "tuple") (u := .type "tuple") rfl T.m_tuple (by decide +kernel) rfl) pa_nil))))) (pw_or1 (pt_cmpR op_ne (pe_callB call_len_seq rfl T.m_len (by decide +kernel) (pa_cons (pv 0) pa_nil)) pe_int (nomark _))))) (pss_one (ps_ret pe_bl)) pss_nil)
  (pss_one (ps_ret (pe_and (pe_c C_is_integer hr (by omega) rfl (pa_cons (pe_ix ix_tup (pv 0) pe_int (fun _ _ => rfl)) pa_nil)) (pe_and (pe_c C_is_integer hr (by omega) rfl (pa_cons (pe_ix ix_tup (pv 0) pe_int (fun _ _ => rfl)) pa_nil)) (pe_one (pe_cmp (pc_din (hu_of hr) (pv 0) (pv 1)) rfl))))))), ?_⟩
    obtain ⟨ps, ents, b, hD, hk, cp, q⟩ := h
    rcases cp with ⟨⟨t, t1, t2⟩, rfl⟩ | ⟨a, xs, rfl, ha, cp⟩
    · refine ⟨_, rfl, _, _, t, _, false, rfl, .ty _, t1, t2, false, rfl, ?_⟩
      exact iteT (q H (Same.refl H))
    obtain ⟨t, t1, t2⟩ := tyc_tup (K := K) ha
    refine ⟨_, rfl, _, _, t, _, true, rfl, .ty _, t1, t2, true, rfl, ?_⟩
    refine iteF ⟨_, rfl, a, xs, rfl, .inr (SqT.of ha), rfl, _, rfl, ?_⟩
    rw [decI]
    rcases cp with ⟨ne, rfl⟩ | ⟨x, y, rfl, tx, ty, cp⟩
    · rw [decide_eq_false (by omega)]
      exact iteT (q H (Same.refl H))
    · refine iteN (nt rfl) ?_
      refine ⟨_, rfl, a, _, 0, x, rfl, rfl, SqT.of ha, rfl, x, rfl, tx, ?_⟩
      refine ⟨_, rfl, ?_⟩
      rcases cp with ⟨no, rfl⟩ | ⟨p, rfl, rfl, rfl⟩
      · cases cx : isInt x with
        | false => exact iteF (q H (Same.refl H))
        | true =>
          refine iteT ⟨_, rfl, a, _, 1, y, rfl, rfl, SqT.of ha, rfl, y, rfl, ty, ?_⟩
          have cy : isInt y = false := by rw [cx, Bool.true_and] at no; exact no
          rw [cy]
          exact ⟨_, rfl, iteF (q H (Same.refl H))⟩
      · refine iteT ⟨_, rfl, a, _, 1, _, rfl, rfl, SqT.of ha, rfl, _, rfl, ty, ?_⟩
        refine ⟨_, rfl, iteT ?_⟩
        refine ⟨_, rfl, _, rfl, D, _, rfl, (show DGet H D (V.ref a) _ from DGet.t (k := keyPr p) hD ha), ?_⟩
        rw [dp_some hk]
        exact q H (Same.refl H)
end
end K24
namespace K24
open PySem L2 Nm
open C8 (Cal Mak pe_c pe_mk pe_gc)
open RZ (ItzT pi_zipA)
/-- no two share a board -/
def apartB (t : List Pr) : Bool := decide (t.flatMap fun p => [p.1, p.2]).Nodup
/-- what is said of a thing that is to be a pairing -/
def PgOr (K : PySem.W.Frag) (H : Hp) (ps : List Pr) (v : V) (b : Bool) : Prop :=
  ((∃ t, TyX K H v t ∧ PySem.W.kitOne K t (.type "tuple") = some false) ∧ b = false) ∨ ∃ a xs bs, v = .ref a ∧ H a = some (.tup xs) ∧ xs.length ≤ 1000 ∧ Paired (CpOr K H ps) xs bs ∧
    ((bs.all id = false ∧ b = false) ∨ ∃ t, Paired (PrAt H) xs t ∧ b = (bs.all id && (ascG dPr t && apartB t)))
theorem tyOf_same {K : PySem.W.Frag} {H H' : Hp} (g : Same H H') {v : V} {t : Value} (h : TyOf K H v t) : TyOf K H' v t := by
  cases h with
  | non => exact .non
  | bl b => exact .bl b
  | int i => exact .int i
  | str z => exact .str z
  | flt x => exact .flt x
  | lst e => exact .lst (g _ _ e)
  | frz e => exact .frz (g _ _ e)
  | tup e => exact .tup (g _ _ e)
  | dK e => exact .dK (g _ _ e)
  | dT e => exact .dT (g _ _ e)
  | ins e cl ha hn htk hm => exact .ins (g _ _ e) cl ha hn htk hm
theorem tyX_same {K : PySem.W.Frag} {H H' : Hp} (g : Same H H') {v : V} {t : Value} (h : TyX K H v t) : TyX K H' v t := by
  cases h with
  | base b => exact .base (tyOf_same g b)
  | byt b => exact .byt b
  | set e => exact .set (g _ _ e)
  | kList e c => exact .kList e c
  | kTuple e c => exact .kTuple e c
  | kDict e c => exact .kDict e c
  | fTuple e => exact .fTuple (g _ _ e)
  | fDict e => exact .fDict (g _ _ e)
theorem tyI_same {K : PySem.W.Frag} {H H' : Hp} (g : Same H H') {v : V} (h : TyI K H v) : TyI K H' v := by
  obtain ⟨b, c, ⟨t, h1, h2⟩, ⟨u, h3, h4⟩, e⟩ := h
  exact ⟨b, c, ⟨t, tyX_same g h1, h2⟩, ⟨u, tyX_same g h3, h4⟩, e⟩
theorem cpOr_same {K : PySem.W.Frag} {H H' : Hp} (g : Same H H') {ps : List Pr} {v : V} {b : Bool} (h : CpOr K H ps v b) : CpOr K H' ps v b := by
  rcases h with ⟨⟨t, t1, t2⟩, e⟩ | ⟨a, xs, e, ha, h⟩
  · exact .inl ⟨⟨t, tyX_same g t1, t2⟩, e⟩
  · refine .inr ⟨a, xs, e, g _ _ ha, ?_⟩
    rcases h with h | ⟨x, y, e2, tx, ty, h⟩
    · exact .inl h
    · exact .inr ⟨x, y, e2, tyI_same g tx, tyI_same g ty, h⟩
section
variable {P : Program} {w : World} {K : PySem.W.Frag} {mg : Str → Option Value} {base : Heap}
def sp_is_pairing_of (K : PySem.W.Frag) : Sp := fun vs H Q _ => ∃ (a : Addr) (v : V), vs = [.ref a, v] ∧ ∃ ps b, PrsAt H a ps ∧ ps.Nodup ∧ ps.length ≤ 1000 ∧ PgOr K H ps v b ∧ ∀ H', Same H H' → Q (.bl b) H'
theorem c_is_pairing_of (T : Txt K mg) : Cal P w K mg base 3 "is_pairing_of" (sp_is_pairing_of K) [] := by
  have C_are_apart := c_are_apart (P := P) (w := w) (base := base) T
  have C_is_ascending := c_is_ascending (P := P) (w := w) (base := base) T
  have C_is_couple := c_is_couple (P := P) (w := w) (base := base) T
  have sc := sc_is_pairing_of
  refine cal_of T.d_is_pairing_of sc (fun _ _ _ _ _ _ us hl => match us, hl with | [_, _], _ => rfl) (fun vs H Q E h => ?_) (fun f cdv A outer s H vs Q E hr h => ?_)
  · obtain ⟨a, v, rfl, _⟩ := h
    rfl
  · obtain ⟨a, v, rfl, h⟩ := h
    refine ⟨_, (pss_cons (ps_set (i := 2) sc.nd rfl (Or.inr rfl) (Nm.pe_dcT (own := [("couple", 3)]) (g := gName 3) rfl sc.nd (hu_of hr) (pi_list (pv 0)) (blkOk_by (own := [("couple", 3)]) (N := ["couples", "thing", "known", "couple", "item"]) (sc := defScope s_is_pairing_of) (by decide +kernel)) (fun _ _ _ _ _ => (pg_name (i := 3) sc.nd rfl (Or.inl rfl))) (fun _ _ _ _ _ => (pv 3)) (fun _ _ _ _ _ => pe_bl)))
  (pss_cons (ps_if (PW.pt (pw_or (pt_not (pt_val (pe_callB call_isi rfl T.m_isinstance (by decide +kernel) (pa_cons (pv 1) (pa_cons (pe_bltn (v := .ty "tuple") (u := .type "tuple") rfl T.m_tuple (by decide +kernel) rfl) pa_nil))))) (pw_or1 (pt_not (pt_val (pe_callB (cr_all rfl) rfl T.m_all (by decide +kernel) (pa_cons (pe_lc (own := [("item", 4)]) (g := gName 4) rfl sc.nd (pi_tup (pv 1)) (blkOk_by (own := [("item", 4)]) (N := ["couples", "thing", "known", "couple", "item"]) (sc := defScope s_is_pairing_of) (by decide +kernel)) (fun _ _ _ _ _ => (pg_name (i := 4) sc.nd rfl (Or.inl rfl))) (fun _ _ _ _ _ => pts_nil) (fun _ _ _ _ _ => (pe_c C_is_couple hr (by omega) rfl (pa_cons (pv 4) (pa_cons (pv 2) pa_nil))))) pa_nil))))))) (pss_one (ps_ret pe_bl)) pss_nil)
  (pss_one (ps_ret (pe_and (pe_c C_is_ascending hr (by omega) rfl (pa_cons (pv 1) pa_nil)) (pe_one (pe_c C_are_apart hr (by omega) rfl (pa_cons (pv 1) pa_nil)))))))), ?_⟩
    obtain ⟨ps, b, ⟨xs, ha, pa⟩, nd, few, pg, q⟩ := h
    have el := paired_len pa
    refine ⟨_, rfl, a, rfl, ⟨_, SqL.of ha⟩, fun D hD => ?_⟩
    refine dcT_keys (walk_list (K := K) (a := a) (xs := xs)) ps keyPr (fun _ _ => kp_inj.mp) nd el (by omega) (fun H1 g => SqL.of (g _ _ ha)) hD ?_ ?_
    · rintro i x p H1 H2 Nx hp ⟨rfl, hx⟩ sm yes
      obtain ⟨p', hp', r, rfl, hr⟩ := paired_at pa i x hx
      have e : p' = p := Option.some.inj (hp'.symm.trans hp)
      subst e
      obtain ⟨ents, h1, h2, h3⟩ := yes _ (Same.refl _)
      exact ⟨rfl, _, rfl, ents, keyPr p', r, rfl, h1, sm _ _ hr, h2, h3⟩
    intro H1 ents g1 hD1 hk
    rcases pg with ⟨⟨t, t1, t2⟩, rfl⟩ | ⟨v, ys, bs, rfl, hv, ly, pc, pg⟩
    · refine ⟨_, rfl, _, _, t, _, false, rfl, .ty _, tyX_same g1 t1, t2, false, rfl, ?_⟩
      exact iteT (q H1 g1)
    have lb := paired_len pc
    obtain ⟨t, t1, t2⟩ := tyc_tup (K := K) (g1 _ _ hv)
    refine ⟨_, rfl, _, _, t, _, true, rfl, .ty _, t1, t2, true, rfl, iteF ?_⟩
    refine ⟨_, rfl, v, rfl, ⟨_, SqT.of (g1 _ _ hv)⟩, fun D2 hD2 => ?_⟩
    refine lcS (walk_tup (K := K) (a := v) (xs := ys)) stays_bl bs (fun _ => true) (fun b => b) lb (by omega) (fun H2 g => SqT.of (g _ _ (g1 _ _ hv))) hD2 ?_ ?_
    · rintro i x c H2 H3 Nx hc ⟨rfl, hx⟩ sm _ yes
      obtain ⟨c', hc', cp⟩ := paired_at pc i x hx
      have e : c' = c := Option.some.inj (hc'.symm.trans hc)
      subst e
      refine ⟨rfl, ?_⟩
      exact ⟨_, rfl, _, rfl, x, D, rfl, ps, ents, c', sm _ _ hD1, hk, cpOr_same (g1.trans sm) cp, fun H4 g4 => yes rfl _ _ g4 rfl⟩
    intro H2 g2 l2
    rw [filter_all] at l2
    have e : bs.map (fun b => b) = bs := List.map_id' bs
    rw [e] at l2
    refine ⟨D2, bs, rfl, sql_bl l2, _, rfl, ?_⟩
    have g12 := g1.trans g2
    rcases pg with ⟨no, rfl⟩ | ⟨t, pt, rfl⟩
    · rw [no]
      exact iteT (q H2 g12)
    cases c : bs.all id with
    | false =>
      rw [c, Bool.false_and] at q
      exact iteT (q H2 g12)
    | true =>
      refine iteF ?_
      rw [c, Bool.true_and] at q
      have lt := paired_len pt
      have pt2 : TupOf PrAt H2 v t := ⟨ys, g12 _ _ hv, paired_mono (fun _ _ => stays_pr _ _ _ _ (tups_same g12)) pt⟩
      refine ⟨_, rfl, v, rfl, t, pt2, by omega, fun H3 g3 => ⟨_, rfl, ?_⟩⟩
      cases c2 : ascG dPr t with
      | false =>
        rw [c2, Bool.false_and] at q
        exact iteF (q H3 (g12.trans g3))
      | true =>
        rw [c2, Bool.true_and] at q
        exact iteT ⟨_, rfl, v, rfl, t, pt2.keep stays_pr (tups_same g3), by omega, fun H4 g4 => q H4 (g12.trans (g3.trans g4))⟩
end
end K24
namespace K24
open PySem L2 Nm
open C8 (Cal Mak pe_c pe_mk pe_gc)
open RZ (ItzT pi_zipA)
theorem rowUp_len (f : Nat → Nat → Bool) (i : Nat) : ∀ k, (rowUp f i k).length ≤ k
  | 0 => Nat.le_refl _
  | k + 1 => by
    rw [rowUp_one, List.length_append]
    have := rowUp_len f i k
    split
    · rw [List.length_singleton]
      omega
    · rw [List.length_nil]
      omega
theorem pairsUp_len (f : Nat → Nat → Bool) (n : Nat) : ∀ m, (pairsUp f n m).length ≤ m * n
  | 0 => by simp [pairsUp]
  | m + 1 => by
    rw [pairsUp_one, List.length_append, Nat.succ_mul]
    have a := pairsUp_len f n m
    have b := rowUp_len f m (n - (m + 1))
    omega
theorem pairsOf_len {f : Nat → Nat → Bool} {n : Nat} (h : n ≤ 30) : (pairsOf f n).length ≤ 1000 := by
  have a := pairsUp_len f n n
  have b : n * n ≤ 30 * 30 := Nat.mul_le_mul h h
  show (pairsUp f n n).length ≤ 1000
  omega
theorem pgOr_same {K : PySem.W.Frag} {H H' : Hp} (g : Same H H') {ps : List Pr} {v : V} {b : Bool} (h : PgOr K H ps v b) : PgOr K H' ps v b := by
  rcases h with ⟨⟨t, t1, t2⟩, e⟩ | ⟨a, xs, bs, e, ha, l, pc, h⟩
  · exact .inl ⟨⟨t, tyX_same g t1, t2⟩, e⟩
  · refine .inr ⟨a, xs, bs, e, g _ _ ha, l, paired_mono (fun _ _ => cpOr_same g) pc, ?_⟩
    rcases h with h | ⟨t, pt, e2⟩
    · exact .inl h
    · exact .inr ⟨t, paired_mono (fun _ _ => stays_pr _ _ _ _ (tups_same g)) pt, e2⟩
section
variable {P : Program} {w : World} {K : PySem.W.Frag} {mg : Str → Option Value} {base : Heap}
def sp_is_pairing (K : PySem.W.Frag) : Sp := fun vs H Q _ => ∃ (h0 : Addr) (v : V), vs = [.ref h0, v] ∧ ∃ bs b, HallAt K H h0 bs ∧ (∀ b ∈ bs, okB b) ∧ bs.length ≤ 30 ∧ PgOr K H (pairsOf (onB arePair bs) bs.length) v b ∧ ∀ H', Same H H' → Q (.bl b) H'
theorem c_is_pairing (T : Txt K mg) : Cal P w K mg base 4 "is_pairing" (sp_is_pairing K) [] := by
  have C_is_pairing_of := c_is_pairing_of (P := P) (w := w) (base := base) T
  have C_pairs := c_pairs (P := P) (w := w) (base := base) T
  have sc := sc_is_pairing
  refine cal_of T.d_is_pairing sc (fun _ _ _ _ _ _ us hl => match us, hl with | [_, _], _ => rfl) (fun vs H Q E h => ?_) (fun f cdv A outer s H vs Q E hr h => ?_)
  · obtain ⟨h0, v, rfl, _⟩ := h
    rfl
  · obtain ⟨h0, v, rfl, h⟩ := h
    refine ⟨_, (pss_one (ps_ret (pe_c C_is_pairing_of hr (by omega) rfl (pa_cons (pe_c C_pairs hr (by omega) rfl (pa_cons (pv 0) pa_nil)) (pa_cons (pv 1) pa_nil))))), ?_⟩
    obtain ⟨bs, b, hh, ok, l30, pg, q⟩ := h
    refine ⟨_, rfl, h0, rfl, bs, hh, ok, by omega, fun p H1 hp pr g1 => ?_⟩
    exact ⟨_, rfl, p, v, rfl, _, b, pr, less_nodup (pairsOf_up _ _), pairsOf_len l30, pgOr_same g1 pg, fun H2 g2 => q H2 (g1.trans g2)⟩
end
end K24
namespace K24
open PySem L2 Nm
open C8 (Cal Mak pe_c pe_mk pe_gc)
open RZ (ItzT pi_zipA)
section
variable {P : Program} {w : World} {K : PySem.W.Frag} {mg : Str → Option Value} {base : Heap}
def sp_check_boards (K : PySem.W.Frag) : Sp := fun vs H Q _ => ∃ (h0 : Addr), vs = [.ref h0] ∧ ∃ bs, HallAt K H h0 bs ∧ bs.length ≤ 24 ∧ Q .non H
theorem c_check_boards (T : Txt K mg) : Cal P w K mg base 1 "check_boards" (sp_check_boards K) [] := by
  have sc := sc_check_boards
  refine cal_of T.d_check_boards sc (fun _ _ _ _ _ _ us hl => match us, hl with | [_], _ => rfl) (fun vs H Q E h => ?_) (fun f cdv A outer s H vs Q E hr h => ?_)
  · obtain ⟨h0, rfl, _⟩ := h
    rfl
  · obtain ⟨h0, rfl, h⟩ := h
    refine ⟨_, (pss_one (ps_if (pt_cmpR op_gt (pe_callB call_len_seq rfl T.m_len (by decide +kernel) (pa_cons (pe_fld (pv 0) rfl) pa_nil)) (pe_gc rfl T.g_MOST_BOARDS_pairs) (nomark _)) (pss_one ps_never) pss_nil)), ?_⟩
    obtain ⟨bs, hH, l24, q⟩ := h
    obtain ⟨C, dx, fs, a, n, ys, cl, nB, nN, hp, fb, fn, ⟨xs, ha, pa⟩, hn', nm⟩ := id hH
    have el := paired_len pa
    refine ⟨_, rfl, h0, C, dx, fs, _, rfl, hp, cl, nB, fb, a, xs, rfl, .inr (SqT.of ha), _, _, rfl, rfl, _, rfl, ?_⟩
    rw [decide_eq_false (by omega)]
    exact iteF q
end
end K24
namespace K24
open PySem L2 Nm
open C8 (Cal Mak pe_c pe_mk pe_gc)
open RZ (ItzT pi_zipA)
section
variable {P : Program} {w : World} {K : PySem.W.Frag} {mg : Str → Option Value} {base : Heap}
def sp_pairings (K : PySem.W.Frag) : Sp := fun vs H Q _ => ∃ (h0 : Addr), vs = [.ref h0] ∧ ∃ bs, HallAt K H h0 bs ∧ (∀ b ∈ bs, okB b) ∧ bs.length ≤ 24 ∧ (∃ L : List Nat, L.length ≤ 2000 ∧ ∀ c, Mis (KP (pairsOf (onB arePair bs) bs.length)) c (pairsOf (onB arePair bs) bs.length).length → c ∈ L) ∧
  ∀ p H' ts, H p = none → LstOf PtAt H' p ts → ts.Pairwise (Less dPrs) → (∀ t, t ∈ ts ↔ Great (pairsOf (onB arePair bs) bs.length) t) → Same H H' → Q (.ref p) H'
theorem c_pairings (T : Txt K mg) : Cal P w K mg base 4 "pairings" (sp_pairings K) [] := by
  have C_check_boards := c_check_boards (P := P) (w := w) (base := base) T
  have C_greatest_pairings := c_greatest_pairings (P := P) (w := w) (base := base) T
  have C_pairs := c_pairs (P := P) (w := w) (base := base) T
  have sc := sc_pairings
  refine cal_of T.d_pairings sc (fun _ _ _ _ _ _ us hl => match us, hl with | [_], _ => rfl) (fun vs H Q E h => ?_) (fun f cdv A outer s H vs Q E hr h => ?_)
  · obtain ⟨h0, rfl, _⟩ := h
    rfl
  · obtain ⟨h0, rfl, h⟩ := h
    refine ⟨_, (pss_cons (ps_expr (pe_c C_check_boards hr (by omega) rfl (pa_cons (pv 0) pa_nil)))
  (pss_one (ps_ret (pe_c C_greatest_pairings hr (by omega) rfl (pa_cons (pe_c C_pairs hr (by omega) rfl (pa_cons (pv 0) pa_nil)) pa_nil))))), ?_⟩
    obtain ⟨bs, hH, ok, l24, L, q⟩ := h
    refine ⟨_, rfl, h0, rfl, bs, hH, l24, ?_⟩
    refine ⟨_, rfl, h0, rfl, bs, hH, ok, by omega, fun p H1 hp pr g1 => ?_⟩
    exact ⟨p, rfl, _, pr, pairsOf_up _ _, pairsOf_len (by omega), L, fun p2 H2 ts hp2 l2 up2 mem g2 => q p2 H2 ts (g1.free hp2) l2 up2 mem (g1.trans g2)⟩
end
end K24
namespace K24
open PySem L2 Nm
open C8 (Cal Mak pe_c pe_mk pe_gc)
open RZ (ItzT pi_zipA)
section
variable {P : Program} {w : World} {K : PySem.W.Frag} {mg : Str → Option Value} {base : Heap}
def sp__law_flag (K : PySem.W.Frag) : Sp := fun vs H Q _ => ∃ (b c : Bool), vs = [.bl b, .bl c] ∧ Q (.bl (decide (b = c))) H
theorem c__law_flag (T : Txt K mg) : Cal P w K mg base 1 "_law_flag" (sp__law_flag K) [] := by
  have sc := sc__law_flag
  refine cal_of T.d__law_flag sc (fun _ _ _ _ _ _ us hl => match us, hl with | [_, _], _ => rfl) (fun vs H Q E h => ?_) (fun f cdv A outer s H vs Q E hr h => ?_)
  · obtain ⟨b, c, rfl, _⟩ := h
    rfl
  · obtain ⟨b, c, rfl, h⟩ := h
    refine ⟨_, (pss_one (ps_ret (pe_and (pe_callB call_isi rfl T.m_isinstance (by decide +kernel) (pa_cons (pv 0) (pa_cons (pe_bltn (v := .ty "bool") (u := .type "bool") rfl T.m_bool (by decide +kernel) rfl) pa_nil))) (pe_one (pe_cmpR op_eq (pv 0) (pv 1) (nomark _)))))), ?_⟩
    obtain ⟨t, t1, t2⟩ := tyc_bl (K := K) (H := H) b
    refine ⟨_, rfl, _, _, t, _, true, rfl, .ty _, t1, t2, true, rfl, ?_⟩
    refine iteT ⟨_, rfl, _, rfl, rfl, ?_⟩
    have e : decide (V.bl b = V.bl c) = decide (b = c) := by cases b <;> cases c <;> rfl
    show Q (V.bl (decide (V.bl b = V.bl c))) H
    rw [e]
    exact h
end
end K24
namespace K24
open PySem L2 Nm
open C8 (Cal Mak pe_c pe_mk pe_gc)
open RZ (ItzT pi_zipA)
section
variable {P : Program} {w : World} {K : PySem.W.Frag} {mg : Str → Option Value} {base : Heap}
def sp__law_int (K : PySem.W.Frag) : Sp := fun vs H Q _ => ∃ (x : V) (lo hi : Int), vs = [x, .int lo, .int hi] ∧ TyI K H x ∧ Q (.bl (within x lo hi)) H
theorem c__law_int (T : Txt K mg) : Cal P w K mg base 1 "_law_int" (sp__law_int K) [] := by
  have sc := sc__law_int
  refine cal_of T.d__law_int sc (fun _ _ _ _ _ _ us hl => match us, hl with | [_, _, _], _ => rfl) (fun vs H Q E h => ?_) (fun f cdv A outer s H vs Q E hr h => ?_)
  · obtain ⟨x, lo, hi, rfl, _⟩ := h
    rfl
  · obtain ⟨x, lo, hi, rfl, h⟩ := h
    refine ⟨_, (pss_one (ps_ret (pe_and (pe_callB call_isi rfl T.m_isinstance (by decide +kernel) (pa_cons (pv 0) (pa_cons (pe_bltn (v := .ty "int") (u := .type "int") rfl T.m_int (by decide +kernel) rfl) pa_nil))) (pe_and (pe_not (pe_callB call_isi rfl T.m_isinstance (by decide +kernel) (pa_cons (pv 0) (pa_cons (pe_bltn (v := .ty "bool") (u := .type "bool") rfl T.m_bool (by decide +kernel) rfl) pa_nil)))) (pe_and (pe_cmpR op_le (pv 1) (pv 0) (nomark _)) (pe_one (pe_cmpR op_le (pv 0) (pv 2) (nomark _)))))))), ?_⟩
    obtain ⟨⟨b, c, ⟨t, h1, h2⟩, ⟨u, h3, h4⟩, e⟩, q⟩ := h
    refine ⟨_, rfl, _, _, t, _, b, rfl, .ty _, h1, h2, b, rfl, ?_⟩
    cases b with
    | false =>
      refine iteF ?_
      have e' : isInt x = false := e.symm
      have z : Nm.within x lo hi = false := by
        cases x with
        | int n => cases e'
        | _ => rfl
      rw [z] at q
      exact q
    | true =>
      refine iteT ⟨_, rfl, _, _, u, _, c, rfl, .ty _, h3, h4, c, rfl, _, rfl, ?_⟩
      cases c with
      | true =>
        refine iteF ?_
        have e' : isInt x = false := e.symm
        have z : Nm.within x lo hi = false := by
          cases x with
          | int n => cases e'
          | _ => rfl
        rw [z] at q
        exact q
      | false =>
        have e' : isInt x = true := e.symm
        cases x with
        | int n =>
          have q : Q (.bl (decide (lo ≤ n) && decide (n ≤ hi))) H := q
          refine iteT ⟨_, rfl, _, rfl, lo, n, rfl, rfl, decide (lo ≤ n), rfl, ?_⟩
          refine ite2 (fun z => ?_) (fun z => ?_)
          · rw [z, Bool.true_and] at q
            exact ⟨_, rfl, _, rfl, n, hi, rfl, rfl, q⟩
          · rw [Bool.eq_false_iff.mpr z, Bool.false_and] at q
            exact q
        | _ => cases e'
end
end K24
namespace K24
open PySem L2 Nm
open C8 (Cal Mak pe_c pe_mk pe_gc)
open RZ (ItzT pi_zipA)
section
variable {P : Program} {w : World} {K : PySem.W.Frag} {mg : Str → Option Value} {base : Heap}
def sp__law_is_pairing (K : PySem.W.Frag) : Sp := fun vs H Q _ => ∃ (a : Addr) (v : V), vs = [.ref a, v] ∧ ∃ bs b, BoardsAt H a bs ∧ (∀ b ∈ bs, okB b) ∧ bs.length ≤ 30 ∧ PgOr K H (pairsOf (onB arePair bs) bs.length) v b ∧ ∀ H', Same H H' → Q (.bl b) H'
theorem c__law_is_pairing (T : Txt K mg) : Cal P w K mg base 3 "_law_is_pairing" (sp__law_is_pairing K) [] := by
  have C__law_int := c__law_int (P := P) (w := w) (base := base) T
  have C__law_pairs := c__law_pairs (P := P) (w := w) (base := base) T
  have sc := sc__law_is_pairing
  refine cal_of T.d__law_is_pairing sc (fun _ _ _ _ _ _ us hl => match us, hl with | [_, _], _ => rfl) (fun vs H Q E h => ?_) (fun f cdv A outer s H vs Q E hr h => ?_)
  · obtain ⟨a, v, rfl, _⟩ := h
    rfl
  · obtain ⟨a, v, rfl, h⟩ := h
    refine ⟨_, (pss_cons (ps_if (pt_not (pt_val (pe_callB call_isi rfl T.m_isinstance (by decide +kernel) (pa_cons (pv 1) (pa_cons (pe_bltn (v := .ty "tuple") (u := .type "tuple") rfl T.m_tuple (by decide +kernel) rfl) pa_nil))))) (pss_one (ps_ret pe_bl)) pss_nil)
  (pss_cons (ps_set (i := 2) sc.nd rfl (Or.inl rfl) (pe_c C__law_pairs hr (by omega) rfl (pa_cons (pv 0) pa_nil)))
  (pss_cons (ps_set (i := 3) sc.nd rfl (Or.inl rfl) (pe_lst pa_nil))
  (pss_cons (ps_for PassesOwn.never rfl (pi_tup (pv 1)) (pg_name (i := 4) sc.nd rfl (Or.inl rfl)) (pss_cons (ps_if (PW.pt (pw_or (pt_not (pt_val (pe_callB call_isi rfl T.m_isinstance (by decide +kernel) (pa_cons (pv 4) (pa_cons (pe_bltn (v := .ty "tuple") (u := .type "tuple") rfl T.m_tuple (by decide +kernel) rfl) pa_nil))))) (pw_or (pt_cmpR op_ne (pe_callB call_len_seq rfl T.m_len (by decide +kernel) (pa_cons (pv 4) pa_nil)) pe_int (nomark _)) (pw_or1 (pt_not (pt_val (pe_callB (cr_all rfl) rfl T.m_all (by decide +kernel) (pa_cons (pe_lc (own := [("one", 5)]) (g := gName 5) rfl sc.nd (pi_tup (pv 4)) (blkOk_by (own := [("one", 5)]) (N := ["boards", "thing", "every", "taken", "pair", "one", "other"]) (sc := defScope s__law_is_pairing) (by decide +kernel)) (fun _ _ _ _ _ => (pg_name (i := 5) sc.nd rfl (Or.inl rfl))) (fun _ _ _ _ _ => pts_nil) (fun _ _ _ _ _ => (pe_c C__law_int hr (by omega) rfl (pa_cons (pv 5) (pa_cons pe_int (pa_cons (pe_op op_sub (pe_callB (r := Nm.rLenS K) (id := "len") Nm.call_lenS rfl T.m_len (by decide +kernel) (pa_cons (pv 0) pa_nil)) pe_int) pa_nil)))))) pa_nil)))))))) (pss_one (ps_ret pe_bl)) pss_nil)
  (pss_cons (ps_if (PW.pt (pw_or (pt_cmpR (op_notInD (u65 hr)) (pv 4) (pv 2) rfl) (pw_or (pt_cmpR op_in_seq (pe_ix ix_tup (pv 4) pe_int (fun _ _ => rfl)) (pv 3) rfl) (pw_or1 (pt_cmpR op_in_seq (pe_ix ix_tup (pv 4) pe_int (fun _ _ => rfl)) (pv 3) rfl))))) (pss_one (ps_ret pe_bl)) pss_nil)
  (pss_one (ps_expr (pe_bm PySem.F.plainAttrs_list PySem.F.slot_list_extend PySem.F.type_list_extend mt_extend (pv 3) (pa_cons (pe_callTy call_list_of rfl T.m_list (by decide +kernel) (pa_cons (pv 4) pa_nil)) pa_nil)))))))
  (pss_one (ps_ret (pe_callB (cr_all rfl) rfl T.m_all (by decide +kernel) (pa_cons (pe_lc (own := [("one", 5), ("other", 6)]) (g := gTup K 2 (gCons (gName 5) (gCons (gName 6) gNil))) rfl sc.nd (pi_zipA rfl T.m_zip (pa_cons (pv 1) (pa_cons (pe_slice sl_tupA (pv 1) (po_some pe_int) po_none) pa_nil))) (blkOk_by (own := [("one", 5), ("other", 6)]) (N := ["boards", "thing", "every", "taken", "pair", "one", "other"]) (sc := defScope s__law_is_pairing) (by decide +kernel)) (fun _ _ _ _ _ => (pg_tup rfl (pgs_cons (pg_name (i := 5) sc.nd rfl (Or.inl rfl)) (pgs_cons (pg_name (i := 6) sc.nd rfl (Or.inl rfl)) pgs_nil)))) (fun _ _ _ _ _ => pts_nil) (fun _ _ _ _ _ => (pe_cmpR (r := Nm.rLtDt K) (Nm.op_ltDt (u65 hr)) (pv 5) (pv 6) (nomark _)))) pa_nil)))))))), ?_⟩
    obtain ⟨bs, b, hb, ok, l30, pg, q⟩ := h
    obtain ⟨⟨t, t1, t2⟩, rfl⟩ | ⟨p, xs, fl, rfl, hp, l1000, pc, due⟩ := pg
    · exact ⟨_, rfl, _, _, t, _, false, rfl, .ty _, t1, t2, false, rfl, iteT (q H (Same.refl H))⟩
    obtain ⟨t, t1, t2⟩ := tyc_tup (K := K) hp
    refine ⟨_, rfl, _, _, t, _, true, rfl, .ty _, t1, t2, true, rfl, iteF ?_⟩
    have nb : fl.all id = false → b = false := fun e => by
      rcases due with ⟨_, h⟩ | ⟨t, _, h⟩
      · exact h
      · rw [h, e]
        rfl
    have elf := paired_len pc
    have ov : ∀ (i : Nat) (t' : List Pr) (c : Pr), Paired (PrAt H) (xs.take (i + 1)) (t' ++ [c]) → ¬ ((t' ++ [c]).flatMap fun p => [p.1, p.2]).Nodup → b = false := fun i t' c p1 nd => by
      rcases due with ⟨_, h⟩ | ⟨t, pt, h⟩
      · exact h
      · have e := paired_fn (R := PrAt H) (fun _ _ _ => prAt_fn) (paired_take pt (i + 1)) p1
        have : apartB t = false := decide_eq_false fun z => nd (by
          rw [← e]
          have sub : ((t.take (i + 1)).flatMap fun p : Pr => [p.1, p.2]).Sublist (t.flatMap fun p : Pr => [p.1, p.2]) := by
            conv => rhs; rw [← List.take_append_drop (i + 1) t, List.flatMap_append]
            exact List.sublist_append_left _ _
          exact z.sublist sub)
        rw [h, this, Bool.and_false, Bool.and_false]
    refine ⟨_, rfl, a, rfl, bs, hb, ok, by omega, fun e H1 he ⟨ez, hez, pez⟩ g1 => ?_⟩
    refine ⟨nought, fun D hD => ?_⟩
    have gD := g1.trans (same_new (o := .lst []) hD)
    have big : (100000 : Nat) < PySem.sizeLine := by decide
    obtain ⟨bz, hbz, pbz⟩ := id hb
    have lbz := paired_len pbz
    have ndD : ∀ {H2 : Hp}, H D = none := fun {_} => g1.free hD
    have edn : e ≠ D := fun z => by rw [z, hD] at hez; cases hez
    refine ⟨_, rfl, p, rfl, ⟨_, SqT.of (gD _ _ hp)⟩, ?_⟩
    refine for_tup (K := K) (a := p) (xs := xs) (fun i σ H2 => ∃ v4 t', σ = [some (.ref a), some (.ref p), some (.ref e), some (.ref D), v4, none, none] ∧ H2 D = some (.lst ((t'.flatMap fun p : Pr => [p.1, p.2]).map V.int)) ∧ Paired (PrAt H) (xs.take i) t' ∧ (fl.take i).all id = true ∧ (t'.flatMap fun p : Pr => [p.1, p.2]).Nodup ∧ (∀ c ∈ t', c ∈ pairsOf (onB arePair bs) bs.length) ∧ Same H H2 ∧ H2 e = some (.lst ez) ∧ Tups H1 H2)
      ⟨none, [], rfl, upd_same, by rw [List.take_zero]; exact .nil, by rw [List.take_zero]; rfl, List.nodup_nil, fun _ h => absurd h List.not_mem_nil, gD, by rw [upd_ne edn]; exact hez, tups_same (same_new hD)⟩ (fun i σ H2 _ ⟨_, _, _, _, _, _, _, _, g, _⟩ => SqT.of (g _ _ hp)) ?_ ?_
    · rintro i x σ H2 hx ⟨v4, t', rfl, hz, pt', flt, ndt, sub, g2, hez2, kT⟩
      obtain ⟨f0, hf0, cp⟩ := paired_at pc i x hx
      have no : f0 = false → b = false := fun z => nb (Bool.eq_false_iff.mpr fun y => by
        have := List.all_eq_true.mp y f0 (List.mem_of_getElem? hf0)
        rw [z] at this
        cases this)
      have lt' := paired_len pt'
      rw [List.length_take] at lt'
      have fln := flat_len t'
      rcases cp with ⟨⟨t, t1, t2⟩, ef⟩ | ⟨c, cs, rfl, hc, cc⟩
      · refine ⟨_, rfl, _, _, t, _, false, rfl, .ty _, tyX_same g2 t1, t2, false, rfl, iteT ?_⟩
        rw [no ef] at q
        exact q H2 g2
      obtain ⟨t, t1, t2⟩ := tyc_tup (K := K) (g2 _ _ hc)
      refine ⟨_, rfl, _, _, t, _, true, rfl, .ty _, t1, t2, true, rfl, iteF ?_⟩
      refine ⟨_, rfl, c, cs, rfl, .inr (SqT.of (g2 _ _ hc)), rfl, _, rfl, ?_⟩
      rcases cc with ⟨ne2, ef⟩ | ⟨x1, y1, rfl, ty1, ty2, cc⟩
      · refine iteP (by rw [decide_eq_false (fun z => ne2 (by have := V.int.inj z; omega))]; rfl) ?_
        rw [no ef] at q
        exact q H2 g2
      refine iteN (nt rfl) ?_
      refine ⟨_, rfl, c, rfl, ⟨_, SqT.of (g2 _ _ hc)⟩, fun D5 hD5 => ?_⟩
      refine lcS (walk_tup (K := K) (a := c) (xs := [x1, y1])) stays_bl [x1, y1] (fun _ => true) (fun x => within x 0 ((bz.length : Int) - 1)) rfl (by show 2 ≤ 100000; decide) (fun H3 g => SqT.of (g _ _ (g2 _ _ hc))) hD5 ?_ ?_
      · rintro k y5 x5 H3 H4 Nx hx5 ⟨rfl, hy5⟩ sm _ yes
        have e5 : y5 = x5 := Option.some.inj (hy5.symm.trans hx5)
        subst e5
        have ty5 : TyI K H y5 := by
          match k, hx5 with
          | 0, e => cases e; exact ty1
          | 1, e => cases e; exact ty2
        refine ⟨rfl, ?_⟩
        exact ⟨_, rfl, _, rfl, a, bz, rfl, .inr (SqT.of ((g2.trans sm) _ _ hbz)), _, _, rfl, rfl, y5, 0, _, rfl, tyI_same (g2.trans sm) ty5, yes rfl _ _ (Same.refl _) rfl⟩
      intro H3 g3 l3
      rw [filter_all] at l3
      refine ⟨D5, _, rfl, sql_bl l3, _, rfl, ?_⟩
      have g23 := g2.trans g3
      show (if (!(within x1 0 ((bz.length : Int) - 1) && (within y1 0 ((bz.length : Int) - 1) && true))) = true then _ else _)
      rw [Bool.and_true, lbz]
      rcases cc with ⟨nn, ef⟩ | ⟨p0, rfl, rfl, ef⟩
      · have w0 : (within x1 0 ((bs.length : Int) - 1) && within y1 0 ((bs.length : Int) - 1)) = false := by
          cases x1 <;> cases y1 <;> first | rfl | exact Bool.and_false _ | cases nn
        rw [w0]
        rw [no ef] at q
        exact iteT (q H3 g23)
      by_cases inp : p0 ∈ pairsOf (onB arePair bs) bs.length
      rotate_left
      · rw [decide_eq_false inp] at ef
        rw [no ef] at q
        refine ite2 (fun _ => q H3 g23) (fun _ => ?_)
        refine ⟨_, rfl, _, rfl, Nm.prD p0, (pairsOf (onB arePair bs) bs.length).map Nm.prD, dp_pr ⟨c, rfl, g23 _ _ hc⟩, .lst (SqL.of (g3 _ _ hez2)) (dp_prsL (paired_mono (fun _ _ => stays_pr _ _ _ _ (fun b us hb => tups_same g3 _ _ (kT _ _ hb))) pez)), shaped_pr p0, shaped_prs _, _, rfl, ?_⟩
        refine iteP ?_ (q H3 g23)
        rw [any_pr, decide_eq_false inp]
        rfl
      have rr : (0 ≤ p0.1 ∧ p0.1 < (bs.length : Int)) ∧ 0 ≤ p0.2 ∧ p0.2 < (bs.length : Int) := by
        obtain ⟨i1, j1, ep, lt1, lj, _, _⟩ := mem_pairsUp.mp inp
        have e1 : p0.1 = (i1 : Int) := by rw [ep]
        have e2 : p0.2 = (j1 : Int) := by rw [ep]
        omega
      obtain ⟨⟨r1, r2⟩, r3, r4⟩ := rr
      have w1 : (within (V.int p0.1) 0 ((bs.length : Int) - 1) && within (V.int p0.2) 0 ((bs.length : Int) - 1)) = true := by
        show ((decide (0 ≤ p0.1) && decide (p0.1 ≤ (bs.length : Int) - 1)) && (decide (0 ≤ p0.2) && decide (p0.2 ≤ (bs.length : Int) - 1))) = true
        rw [decide_eq_true r1, decide_eq_true r3, decide_eq_true (show p0.1 ≤ (bs.length : Int) - 1 by omega), decide_eq_true (show p0.2 ≤ (bs.length : Int) - 1 by omega)]
        rfl
      rw [w1]
      refine iteF ?_
      have hc3 := g23 _ _ hc
      have hz3 := g3 _ _ hz
      have kT3 : Tups H1 H3 := fun b us hb => tups_same g3 _ _ (kT _ _ hb)
      refine ⟨_, rfl, _, rfl, Nm.prD p0, (pairsOf (onB arePair bs) bs.length).map Nm.prD, dp_pr ⟨c, rfl, hc3⟩, .lst (SqL.of (g3 _ _ hez2)) (dp_prsL (paired_mono (fun _ _ => stays_pr _ _ _ _ kT3) pez)), shaped_pr p0, shaped_prs _, _, rfl, ?_⟩
      refine iteN (nt (by rw [any_pr, decide_eq_true inp]; rfl)) ?_
      have pt1 : Paired (PrAt H) (xs.take (i + 1)) (t' ++ [p0]) := by
        rw [take_one hx]
        exact paired_snoc pt' ⟨c, rfl, hc⟩
      have fm : ((t' ++ [p0]).flatMap fun p : Pr => [p.1, p.2]) = (t'.flatMap fun p : Pr => [p.1, p.2]) ++ [p0.1, p0.2] := by
        rw [List.flatMap_append]
        rfl
      refine ⟨_, rfl, c, _, 0, .int p0.1, rfl, rfl, SqT.of hc3, rfl, _, rfl, D, _, rfl, .inl (SqL.of hz3), rfl, flat_ints _, _, rfl, ?_⟩
      rw [in_ints]
      refine ite2 (fun m1 => ?_) (fun m1 => ?_)
      · have bf := ov i t' p0 pt1 fun nd => by
          rw [fm] at nd
          exact (List.nodup_append.mp nd).2.2 p0.1 (of_decide_eq_true m1) p0.1 List.mem_cons_self rfl
        rw [bf] at q
        exact q H3 g23
      refine ⟨_, rfl, c, _, 1, .int p0.2, rfl, rfl, SqT.of hc3, rfl, _, rfl, D, _, rfl, .inl (SqL.of hz3), rfl, flat_ints _, _, rfl, ?_⟩
      rw [in_ints]
      refine ite2 (fun m2 => ?_) (fun m2 => ?_)
      · have bf := ov i t' p0 pt1 fun nd => by
          rw [fm] at nd
          exact (List.nodup_append.mp nd).2.2 p0.2 (of_decide_eq_true m2) p0.2 (List.mem_cons_of_mem _ List.mem_cons_self) rfl
        rw [bf] at q
        exact q H3 g23
      have n1 : p0.1 ∉ t'.flatMap fun p : Pr => [p.1, p.2] := fun h => m1 (decide_eq_true h)
      have n2 : p0.2 ∉ t'.flatMap fun p : Pr => [p.1, p.2] := fun h => m2 (decide_eq_true h)
      have n12 : p0.1 ≠ p0.2 := by
        obtain ⟨i1, j1, rfl, lt, _, _, _⟩ := mem_pairsUp.mp inp
        show ((i1 : Nat) : Int) ≠ (j1 : Int)
        omega
      refine ⟨_, rfl, .inl ⟨rfl, _, SqL.of hz3⟩, _, rfl, c, _, rfl, .inr (SqT.of hc3), fun L hL => ?_⟩
      have gL := same_new (o := .lst [V.int p0.1, V.int p0.2]) hL
      have hzL := gL _ _ hz3
      refine ⟨D, L, _, _, rfl, rfl, hzL, upd_same, ?_, ?_⟩
      · rw [List.length_map, fln]
        show 2 * t'.length + 2 ≤ PySem.sizeLine
        omega
      have tl := tups_lst (vs := (t'.flatMap fun p : Pr => [p.1, p.2]).map V.int ++ [V.int p0.1, V.int p0.2]) hzL
      refine ⟨_, t' ++ [p0], rfl, ?_, pt1, ?_, ?_, ?_, same_mut (g23.trans gL) (ndD (H2 := H)), ?_, ?_⟩
      · rw [upd_same, fm, List.map_append]
        rfl
      · rw [take_one hf0, List.all_append, flt]
        show (true && (f0 && true)) = true
        rw [ef, decide_eq_true inp]
        rfl
      · rw [fm]
        refine List.nodup_append.mpr ⟨ndt, List.nodup_cons.mpr ⟨fun m => n12 (List.mem_singleton.mp m), List.pairwise_singleton _ _⟩, fun y hy z hz e => ?_⟩
        subst e
        simp only [List.mem_cons, List.not_mem_nil, or_false] at hz
        rcases hz with rfl | rfl
        · exact n1 hy
        · exact n2 hy
      · intro y hy
        rcases List.mem_append.mp hy with h | h
        · exact sub y h
        · rw [List.mem_singleton.mp h]
          exact inp
      · rw [upd_ne edn]
        exact gL _ _ (g3 _ _ hez2)
      · exact fun b us hb => tl _ _ (tups_same gL _ _ (kT3 _ _ hb))
    rintro σ H2 ⟨v4, t', rfl, hz, pt', flt, ndt, sub, g2, hez2, kT⟩
    rw [List.take_length] at pt'
    have flT : fl.all id = true := by rwa [elf, List.take_length] at flt
    have eb : b = ascG dPr t' := by
      rcases due with ⟨h, _⟩ | ⟨t, pt, h⟩
      · rw [flT] at h
        cases h
      · have e := paired_fn (R := PrAt H) (fun _ _ _ => prAt_fn) pt pt'
        rw [h, flT, e, show apartB t' = true from decide_eq_true ndt, Bool.and_true, Bool.true_and]
    rw [eb] at q
    have el := paired_len pt'
    have hp2 := g2 _ _ hp
    have pa : Paired (PrAt H2) xs t' := paired_mono (fun _ _ => stays_pr _ _ _ _ (tups_same g2)) pt'
    refine ⟨_, rfl, _, rfl, 1, rfl, ?_⟩
    dsimp only [tNoPart]
    refine sl_from1 hp2 fun b2 H3 g3 hb2 => ?_
    have pb := paired_drop pa 1
    refine ⟨p, b2, xs, xs.drop 1, rfl, .inr ⟨SqT.of (g3 _ _ hp2), SqT.of hb2, fun D5 hD5 => ?_⟩⟩
    have lz : (t'.zip (t'.drop 1)).length = min xs.length (xs.drop 1).length := by
      rw [List.length_zip, el, List.length_drop, List.length_drop, el]
    refine lcS (walk_zipT (K := K) (a := p) (b := b2) (xs := xs) (ys := xs.drop 1) rfl) stays_bl (t'.zip (t'.drop 1)) (fun _ => true) (fun p => lessB dPr p.1 p.2) lz.symm (by rw [List.length_zip]; omega) (fun H2 g => ⟨SqT.of (g _ _ (g3 _ _ hp2)), SqT.of (g _ _ hb2)⟩) hD5 ?_ ?_
    · rintro i x p0 H4 H5 Nx hp0 ⟨t3, x1, y1, rfl, hn, rfl, e1, e2⟩ sm _ yes
      obtain ⟨w1, hw1, r1, rfl, hr1⟩ := paired_at pa i _ e1
      obtain ⟨w2, hw2, r2, rfl, hr2⟩ := paired_at pb i _ e2
      have hz0 : p0 = (w1, w2) := by
        have z : (t'.zip (t'.drop 1))[i]? = some (w1, w2) := by
          rw [List.getElem?_zip_eq_some]
          exact ⟨hw1, hw2⟩
        rw [z] at hp0
        exact (Option.some.inj hp0).symm
      subst hz0
      have g5 := (g3.trans sm).trans (same_new (o := .tup [V.ref r1, V.ref r2]) hn)
      refine ⟨t3, [.ref r1, .ref r2], rfl, SqT.of upd_same, rfl, _, _, rfl, _, _, rfl, rfl, rfl, ?_⟩
      refine ⟨_, rfl, _, rfl, dPr w1, dPr w2, dp_pr ⟨r1, rfl, g5 _ _ hr1⟩, dp_pr ⟨r2, rfl, g5 _ _ hr2⟩, ordd_pr.alike _ _, ordd_pr.dep _, ?_⟩
      exact yes rfl _ _ (same_new hn) rfl
    · intro H4 sm l
      refine ⟨D5, _, rfl, sql_bl l, ?_⟩
      have e : (((t'.zip (t'.drop 1)).filter fun _ => true).map fun p => lessB dPr p.1 p.2).all id = ascG dPr t' := by
        rw [filter_all, List.all_map]
        rfl
      rw [e]
      exact q H4 (g2.trans (g3.trans sm))
end
end K24
namespace K24
open PySem L2 Nm
open C8 (Cal Mak pe_c pe_mk pe_gc)
open RZ (ItzT pi_zipA)
theorem one1 : 1 ≤ PySem.sizeLine := by decide
/-- how such a thing begins -/
def DeepAt (H : Hp) (kind : Int) (x : V) : Prop := (kind = 0 ∧ ∃ a p z, x = .ref a ∧ H a = some (.tup [V.str "all", .ref p]) ∧ H p = some (.tup [z])) ∨ (kind = 1 ∧ ∃ a p z, x = .ref a ∧ H a = some (.tup [.ref p]) ∧ H p = some (.tup [z])) ∨
  (kind = 2 ∧ ∃ a xs, x = .ref a ∧ H a = some (.lst xs)) ∨ (kind = 3 ∧ ∃ a kvs, x = .ref a ∧ H a = some (.dK kvs))
section
variable {P : Program} {w : World} {K : PySem.W.Frag} {mg : Str → Option Value} {base : Heap}
def sp__law_deep (K : PySem.W.Frag) : Sp := fun vs H Q _ => ∃ (kind : Int), vs = [.int kind] ∧ 0 ≤ kind ∧ kind < 4 ∧ ∀ x H', Same H H' → DeepAt H' kind x → Q x H'
theorem c__law_deep (T : Txt K mg) : Cal P w K mg base 1 "_law_deep" (sp__law_deep K) [] := by
  have sc := sc__law_deep
  refine cal_of T.d__law_deep sc (fun _ _ _ _ _ _ us hl => match us, hl with | [_], _ => rfl) (fun vs H Q E h => ?_) (fun f cdv A outer s H vs Q E hr h => ?_)
  · obtain ⟨kind, rfl, _⟩ := h
    rfl
  · obtain ⟨kind, rfl, h⟩ := h
    refine ⟨_, (pss_cons (ps_set (i := 1) sc.nd rfl (Or.inl rfl) (pe_tup pa_nil))
  (pss_cons (ps_for PassesOwn.never rfl (pi_range1 rfl T.m_range (pa_cons pe_int pa_nil)) (pg_name (i := 2) sc.nd rfl (Or.inl rfl)) (pss_one (ps_set (i := 1) sc.nd rfl (Or.inl rfl) (pe_ix ix_list (pe_lst (pa_cons (pe_tup (pa_cons pe_str (pa_cons (pe_tup (pa_cons (pv 1) pa_nil)) pa_nil))) (pa_cons (pe_tup (pa_cons (pe_tup (pa_cons (pv 1) pa_nil)) pa_nil)) (pa_cons (pe_lst (pa_cons (pe_lst (pa_cons (pv 1) pa_nil)) pa_nil)) (pa_cons (pe_disp (pps_cons pe_str (pe_disp (pps_cons pe_str (pv 1) pps_nil) rfl rfl (List.cons_ne_nil _ _) (by show 1 ≤ 15; decide)) pps_nil) rfl rfl (List.cons_ne_nil _ _) (by show 1 ≤ 15; decide)) pa_nil))))) (pv 0) (fun _ _ => rfl)))))
  (pss_one (ps_ret (pv 1))))), ?_⟩
    obtain ⟨k0, k4, q⟩ := h
    refine ⟨nought, fun e0 he0 => ⟨18, rfl, by decide, by decide, ?_⟩⟩
    refine for_range (lo := 0) (n := 18) (fun i σ H1 => ∃ v v2, σ = [some (.int kind), some v, v2] ∧ Same H H1 ∧ (i = 0 ∨ DeepAt H1 kind v)) ⟨_, _, rfl, same_new he0, .inl rfl⟩ ?_ ?_
    · rintro i σ H1 hi ⟨v, v2, rfl, g, _⟩
      refine ⟨_, rfl, one1, fun q1 h1 => ⟨two, fun q2 h2 => ?_⟩⟩
      refine ⟨_, rfl, one1, fun q3 h3 => ⟨one1, fun q4 h4 => ?_⟩⟩
      refine ⟨_, rfl, one1, fun q5 h5 => ⟨one1, fun q6 h6 => ?_⟩⟩
      have s1 := same_new (o := .tup [v]) h1
      have s2 := same_new (o := .tup [V.str "all", V.ref q1]) h2
      have s3 := same_new (o := .tup [v]) h3
      have s4 := same_new (o := .tup [V.ref q3]) h4
      have s5 := same_new (o := .lst [v]) h5
      have s6 := same_new (o := .lst [V.ref q5]) h6
      have f6 := s1.trans (s2.trans (s3.trans (s4.trans (s5.trans s6))))
      have f5 := s1.trans (s2.trans (s3.trans (s4.trans s5)))
      have f4 := s1.trans (s2.trans (s3.trans s4))
      refine fun q7 h7 => fun q8 h8 => ⟨_, rfl, upd_same, [(Sum.inr "b", v)], rfl, (by show 1 ≤ 15; decide), ?_⟩
      have n78 : q7 ≠ q8 := fun e => by
        rw [← e, upd_same] at h8
        cases h8
      refine ⟨by rw [upd_ne n78, upd_ne n78, upd_same], [(Sum.inr "a", V.ref q8)], rfl, (by show 1 ≤ 15; decide), ?_⟩
      refine ⟨(by show 4 ≤ PySem.sizeLine; decide), fun p hp => ?_⟩
      have ga := same_new (o := .dK []) h7
      have gb := same_new (o := .dK []) h8
      have gd := same_mut (o := .dK (mergeK [] [(Sum.inr "a", V.ref q8)])) (ga.trans (same_mut (o := .dK (mergeK [] [(Sum.inr "b", v)])) gb h8)) h7
      have gp := same_new (o := .lst [V.ref q2, V.ref q4, V.ref q6, V.ref q7]) hp
      have fa := f6.trans (gd.trans gp)
      have c : kind = 0 ∨ kind = 1 ∨ kind = 2 ∨ kind = 3 := by omega
      rcases c with rfl | rfl | rfl | rfl
      · exact ⟨_, rfl, p, _, 0, .ref q2, rfl, rfl, SqL.of upd_same, rfl, _, _, rfl, g.trans fa, .inr (.inl ⟨rfl, q2, q1, v, rfl, (s3.trans (s4.trans (s5.trans (s6.trans (gd.trans gp))))) _ _ upd_same, (s2.trans (s3.trans (s4.trans (s5.trans (s6.trans (gd.trans gp)))))) _ _ upd_same⟩)⟩
      · exact ⟨_, rfl, p, _, 1, .ref q4, rfl, rfl, SqL.of upd_same, rfl, _, _, rfl, g.trans fa, .inr (.inr (.inl ⟨rfl, q4, q3, v, rfl, (s5.trans (s6.trans (gd.trans gp))) _ _ upd_same, (s4.trans (s5.trans (s6.trans (gd.trans gp)))) _ _ upd_same⟩))⟩
      · exact ⟨_, rfl, p, _, 2, .ref q6, rfl, rfl, SqL.of upd_same, rfl, _, _, rfl, g.trans fa, .inr (.inr (.inr (.inl ⟨rfl, q6, _, rfl, (gd.trans gp) _ _ upd_same⟩)))⟩
      · exact ⟨_, rfl, p, _, 3, .ref q7, rfl, rfl, SqL.of upd_same, rfl, _, _, rfl, g.trans fa, .inr (.inr (.inr (.inr ⟨rfl, q7, _, rfl, gp _ _ upd_same⟩)))⟩
    · rintro σ H1 ⟨v, v2, rfl, g, h18⟩
      rcases h18 with h | h
      · cases h
      · exact ⟨_, rfl, q v H1 g h⟩
end
end K24
namespace K24
open PySem L2 Nm
open C8 (Cal Mak pe_c pe_mk pe_gc)
open RZ (ItzT pi_zipA)
/-- a thing that is judged and shown -/
def Thing (K : PySem.W.Frag) (H : Hp) (ps : List Pr) (v : V) : Prop := ∃ b d, PgOr K H ps v b ∧ Seen K H v d
theorem Thing.same {K : PySem.W.Frag} {H H' : Hp} {ps : List Pr} {v : V} (h : Thing K H ps v) (g : Same H H') : Thing K H' ps v := by
  obtain ⟨b, d, h1, h2⟩ := h
  exact ⟨b, d, pgOr_same g h1, h2.same g⟩
/-- one of a thing's items -/
structure Itm (K : PySem.W.Frag) (H : Hp) (ps : List Pr) (x : V) (d : PyData) (b : Bool) : Prop where
  dp : Dp K H x d
  nd : d.hasDict = false
  sh : Shd d 1000 10
  cp : CpOr K H ps x b
  pr : b = true → ∃ p, PrAt H x p
theorem itm_all {K : PySem.W.Frag} {H : Hp} {ps : List Pr} : ∀ {xs : List V}, (∀ x ∈ xs, ∃ d b, Itm K H ps x d b) → ∃ ds fl, DpAll K H xs ds ∧ PyData.hasDictAll ds = false ∧ (∀ d ∈ ds, Shd d 1000 10) ∧ Paired (CpOr K H ps) xs fl ∧ ds.length = xs.length ∧ (fl.all id = true → ∃ t, Paired (PrAt H) xs t)
  | [], _ => ⟨[], [], .nil, rfl, fun _ h => absurd h List.not_mem_nil, .nil, rfl, fun _ => ⟨[], .nil⟩⟩
  | x :: xs, h => by
    obtain ⟨d, b, i⟩ := h x List.mem_cons_self
    obtain ⟨ds, fl, h1, h2, h3, h4, h5, h6⟩ := itm_all (xs := xs) fun y hy => h y (List.mem_cons_of_mem _ hy)
    refine ⟨d :: ds, b :: fl, .cons i.dp h1, ?_, fun y hy => ?_, .cons i.cp h4, by rw [List.length_cons, List.length_cons, h5], fun e => ?_⟩
    · rw [PyData.hasDictAll, i.nd, h2]
      rfl
    · rcases List.mem_cons.mp hy with rfl | hy
      · exact i.sh
      · exact h3 y hy
    · rw [List.all_cons, Bool.and_eq_true] at e
      obtain ⟨p, hp⟩ := i.pr e.1
      obtain ⟨t, pt⟩ := h6 e.2
      exact ⟨p :: t, .cons hp pt⟩
theorem thing_tup {K : PySem.W.Frag} {H : Hp} {ps : List Pr} {a : Addr} {xs : List V} (ha : H a = some (.tup xs)) (l : xs.length ≤ 100) (h : ∀ x ∈ xs, ∃ d b, Itm K H ps x d b) : Thing K H ps (.ref a) := by
  obtain ⟨ds, fl, h1, h2, h3, h4, h5, h6⟩ := itm_all h
  have seen : Seen K H (.ref a) (.tuple ds) := ⟨.inr ⟨.tup (SqT.of ha) h1, by rw [PyData.hasDict]; exact h2⟩, _, (shd_tup h3).more (Nat.le_refl _) (by decide), by
    rw [h5]
    have : xs.length * 1001 ≤ 100 * 1001 := Nat.mul_le_mul_right _ l
    omega⟩
  by_cases e : fl.all id = true
  · obtain ⟨t, pt⟩ := h6 e
    exact ⟨fl.all id && (ascG dPr t && apartB t), .tuple ds, .inr ⟨a, xs, fl, rfl, ha, by omega, h4, .inr ⟨t, pt, rfl⟩⟩, seen⟩
  · exact ⟨false, .tuple ds, .inr ⟨a, xs, fl, rfl, ha, by omega, h4, .inl ⟨Bool.eq_false_iff.mpr e, rfl⟩⟩, seen⟩
theorem thing_other {K : PySem.W.Frag} {H : Hp} {ps : List Pr} {v : V} {d : PyData} {t : Value} (ty : TyX K H v t) (k : PySem.W.kitOne K t (.type "tuple") = some false) (s : Seen K H v d) : Thing K H ps v := ⟨false, d, .inl ⟨⟨t, ty, k⟩, rfl⟩, s⟩
theorem small_ok {i : Int} (h : -10 ≤ i ∧ i ≤ 1000) : i.natAbs < 10 ^ 12 := by
  have : i.natAbs ≤ 1000 := by omega
  exact Nat.lt_of_le_of_lt this (by decide)
theorem itm_pr {K : PySem.W.Frag} {H : Hp} {ps : List Pr} {x : V} {p : Pr} (h : PrAt H x p) (s1 : -10 ≤ p.1 ∧ p.1 ≤ 1000) (s2 : -10 ≤ p.2 ∧ p.2 ≤ 1000) : ∃ d b, Itm K H ps x d b := by
  obtain ⟨r, rfl, hr⟩ := id h
  refine ⟨_, _, dp_pr h, by simp [Nm.prD, PyData.hasDict, PyData.hasDictAll], (shd_tup (w := 40) (dep := 0) fun d hd => ?_).more (by show 2 * 41 ≤ 1000; decide) (by decide), .inr ⟨r, _, rfl, hr, .inr ⟨_, _, rfl, tyi_int _, tyi_int _, .inr ⟨p, rfl, rfl, rfl⟩⟩⟩, fun _ => ⟨p, h⟩⟩
  simp only [List.mem_cons, List.not_mem_nil, or_false] at hd
  rcases hd with rfl | rfl
  · exact shd_int (small_ok s1) 0
  · exact shd_int (small_ok s2) 0
/-- a tuple of flat things, no pair of numbers -/
theorem itm_flat {K : PySem.W.Frag} {H : Hp} {ps : List Pr} {r : Addr} {xs : List V} {ds : List PyData} (hr : H r = some (.tup xs)) (dp : DpAll K H xs ds) (nd : PyData.hasDictAll ds = false) (sh : ∀ d ∈ ds, Shd d 100 0) (l : ds.length ≤ 9) (cp : CpOr K H ps (.ref r) false) : ∃ d b, Itm K H ps (.ref r) d b :=
  ⟨.tuple ds, false, .tup (SqT.of hr) dp, by rw [PyData.hasDict]; exact nd, (shd_tup sh).more (by have : ds.length * 101 ≤ 9 * 101 := Nat.mul_le_mul_right _ l; omega) (by decide), cp, fun e => nomatch e⟩
theorem dp_ints {K : PySem.W.Frag} {H : Hp} : ∀ ns : List Int, DpAll K H (ns.map V.int) (ns.map PyData.int)
  | [] => .nil
  | n :: ns => .cons (.int n) (dp_ints ns)
theorem hd_ints : ∀ ns : List Int, PyData.hasDictAll (ns.map PyData.int) = false
  | [] => by simp [PyData.hasDictAll]
  | n :: ns => by
    rw [List.map_cons, PyData.hasDictAll, hd_ints ns]
    simp [PyData.hasDict]
theorem hd_prs : ∀ t : List Pr, PyData.hasDictAll (t.map Nm.prD) = false
  | [] => by simp [PyData.hasDictAll]
  | p :: t => by
    rw [List.map_cons, PyData.hasDictAll, hd_prs t]
    simp [Nm.prD, PyData.hasDict, PyData.hasDictAll]
theorem shd_pr {p : Pr} (s1 : -10 ≤ p.1 ∧ p.1 ≤ 1000) (s2 : -10 ≤ p.2 ∧ p.2 ≤ 1000) : Shd (Nm.prD p) 82 1 := by
  refine (shd_tup (w := 40) (dep := 0) fun d hd => ?_).more (by show 2 * 41 ≤ 82; decide) (by decide)
  simp only [List.mem_cons, List.not_mem_nil, or_false] at hd
  rcases hd with rfl | rfl
  · exact shd_int (small_ok s1) 0
  · exact shd_int (small_ok s2) 0
theorem lg (i : Int) (h : 0 ≤ i ∧ i < 8) : i.natAbs.log2 < 1920 := by
  have c : i = 0 ∨ i = 1 ∨ i = 2 ∨ i = 3 ∨ i = 4 ∨ i = 5 ∨ i = 6 ∨ i = 7 := by omega
  rcases c with rfl | rfl | rfl | rfl | rfl | rfl | rfl | rfl <;> decide
theorem tyi_non {K : PySem.W.Frag} {H : Hp} : TyI K H .non := ⟨false, false, ⟨_, .base .non, kit_ty (by decide +kernel)⟩, ⟨_, .base .non, kit_ty (by decide +kernel)⟩, rfl⟩
theorem tyi_bl {K : PySem.W.Frag} {H : Hp} (b : Bool) : TyI K H (.bl b) := ⟨true, true, ⟨_, .base (.bl b), kit_ty (by decide +kernel)⟩, ⟨_, .base (.bl b), kit_ty (by decide +kernel)⟩, rfl⟩
theorem digs_ok : ∀ n : Nat, n < 9 → ((toString ((n : Nat) : Int) : String) : Str).cps.toList.all (fun c => decide (c < 16 ^ 8)) = true ∧ ((toString ((n : Nat) : Int) : String) : Str).length ≤ 100 := by decide +kernel
section
variable {P : Program} {w : World} {K : PySem.W.Frag} {mg : Str → Option Value} {base : Heap}
def sp__law_bent (K : PySem.W.Frag) : Sp := fun vs H Q _ => ∃ (tp a : Addr) (x : V), vs = [.ref tp, .ref a, x] ∧ ∃ l bz t ps, TapeAt H tp l ∧ H a = some (.tup bz) ∧ 1 ≤ bz.length ∧ bz.length ≤ 8 ∧ PtAt H x t ∧ t.length ≤ 8 ∧ (∀ p ∈ t, (0 ≤ p.1 ∧ p.1 < 8) ∧ 0 ≤ p.2 ∧ p.2 < 8) ∧ ∀ v H', Thing K H' ps v → TapeAt H' tp l → Mov tp H H' → Q v H'
theorem c__law_bent (T : Txt K mg) : Cal P w K mg base 3 "_law_bent" (sp__law_bent K) [] := by
  have C__law_pick := c__law_pick (P := P) (w := w) (base := base) T
  have C__law_some := c__law_some (P := P) (w := w) (base := base) T
  have sc := sc__law_bent
  refine cal_of T.d__law_bent sc (fun _ _ _ _ _ _ us hl => match us, hl with | [_, _, _], _ => rfl) (fun vs H Q E h => ?_) (fun f cdv A outer s H vs Q E hr h => ?_)
  · obtain ⟨tp, a, x, rfl, _⟩ := h
    rfl
  · obtain ⟨tp, a, x, rfl, h⟩ := h
    refine ⟨_, (pss_cons (ps_set (i := 3) sc.nd rfl (Or.inl rfl) (pe_c C__law_pick hr (by omega) rfl (pa_cons (pv 0) (pa_cons pe_int pa_nil))))
  (pss_cons (ps_set (i := 4) sc.nd rfl (Or.inl rfl) (pe_callB call_len_seq rfl T.m_len (by decide +kernel) (pa_cons (pv 1) pa_nil)))
  (pss_cons (ps_if (pt_cmpR op_eq (pv 3) pe_int (nomark _)) (pss_one (ps_ret (pe_ix ix_list (pe_lst (pa_cons pe_non (pa_cons (pe_callTy call_list_of rfl T.m_list (by decide +kernel) (pa_cons (pv 2) pa_nil)) (pa_cons (pe_tup (pa_cons (pv 2) pa_nil)) (pa_cons pe_int (pa_cons pe_str (pa_cons pe_dnewK (pa_cons pe_bl (pa_cons (pe_tup (pa_cons (pe_tup pa_nil) pa_nil)) pa_nil))))))))) (pe_c C__law_pick hr (by omega) rfl (pa_cons (pv 0) (pa_cons pe_int pa_nil))) (fun _ _ => rfl)))) pss_nil)
  (pss_cons (ps_if (pt_cmpR op_eq (pv 3) pe_int (nomark _)) (pss_one (ps_ret (Nm.pe_revT0 (pv 2)))) pss_nil)
  (pss_cons (ps_if (PW.pt (pw_or (pt_cmpR op_eq (pv 3) pe_int (nomark _)) (pw_or1 (pt_cmpR op_eq (pe_callB call_len_seq rfl T.m_len (by decide +kernel) (pa_cons (pv 2) pa_nil)) pe_int (nomark _))))) (pss_cons (ps_set (i := 5) sc.nd rfl (Or.inl rfl) (pe_tup (pa_cons (pe_c C__law_pick hr (by omega) rfl (pa_cons (pv 0) (pa_cons (pv 4) pa_nil))) (pa_cons (pe_c C__law_pick hr (by omega) rfl (pa_cons (pv 0) (pa_cons (pv 4) pa_nil))) pa_nil))))
  (pss_one (ps_ret (pe_callTy call_tuple_of rfl T.m_tuple (by decide +kernel) (pa_cons (pe_callB (Nm.cr_sortS (u66 hr)) rfl T.m_sorted (by decide +kernel) (pa_cons (pe_op op_cat (pe_callTy call_list_of rfl T.m_list (by decide +kernel) (pa_cons (pv 2) pa_nil)) (pe_lst (pa_cons (pv 5) pa_nil))) pa_nil)) pa_nil))))) pss_nil)
  (pss_cons (ps_set (i := 6) sc.nd rfl (Or.inl rfl) (pe_c C__law_pick hr (by omega) rfl (pa_cons (pv 0) (pa_cons (pe_callB call_len_seq rfl T.m_len (by decide +kernel) (pa_cons (pv 2) pa_nil)) pa_nil))))
  (pss_cons (ps_set (i := 5) sc.nd rfl (Or.inl rfl) (pe_ix ix_tup (pv 2) (pv 6) (fun _ _ => rfl)))
  (pss_cons (ps_set (i := 7) sc.nd rfl (Or.inl rfl) (pe_lst (pa_cons (Nm.pe_revT0 (pv 5)) (pa_cons (pe_callTy call_list_of rfl T.m_list (by decide +kernel) (pa_cons (pv 5) pa_nil)) (pa_cons (pe_op op_catA (pv 5) (pe_tup (pa_cons pe_int pa_nil))) (pa_cons (pe_tup (pa_cons (pe_ix ix_tup (pv 5) pe_int (fun _ _ => rfl)) (pa_cons (pv 4) pa_nil))) (pa_cons (pe_tup (pa_cons (pe_cmpR op_eq (pe_ix ix_tup (pv 5) pe_int (fun _ _ => rfl)) pe_int (nomark _)) (pa_cons (pe_ix ix_tup (pv 5) pe_int (fun _ _ => rfl)) pa_nil))) (pa_cons (pe_tup (pa_cons (pe_ix ix_tup (pv 5) pe_int (fun _ _ => rfl)) (pa_cons pe_non pa_nil))) (pa_cons (pe_slice sl_tupA (pv 5) po_none (po_some pe_int)) (pa_cons (pe_tup (pa_cons (pe_ix ix_tup (pv 5) pe_int (fun _ _ => rfl)) (pa_cons (pe_ix ix_tup (pv 5) pe_int (fun _ _ => rfl)) pa_nil))) pa_nil))))))))))
  (pss_cons (ps_set (i := 7) sc.nd rfl (Or.inl rfl) (pe_op op_cat (pv 7) (pe_lst (pa_cons (pe_tup (pa_cons (pe_callTy call_str_int rfl T.m_str (by decide +kernel) (pa_cons (pe_ix ix_tup (pv 5) pe_int (fun _ _ => rfl)) pa_nil)) (pa_cons (pe_ix ix_tup (pv 5) pe_int (fun _ _ => rfl)) pa_nil))) (pa_cons (pe_tup (pa_cons (pe_un un_neg pe_int) (pa_cons (pe_ix ix_tup (pv 5) pe_int (fun _ _ => rfl)) pa_nil))) pa_nil)))))
  (pss_cons (ps_if (pt_cmpR op_eq (pv 3) pe_int (nomark _)) (pss_one (ps_ret (pe_op op_catA (pe_slice sl_tupA (pv 2) po_none (po_some (pv 6))) (pe_slice sl_tupA (pv 2) (po_some (pe_op op_add (pv 6) pe_int)) po_none)))) pss_nil)
  (pss_cons (ps_if (pt_cmpR op_eq (pv 3) pe_int (nomark _)) (pss_one (ps_ret (pe_op op_catA (pv 2) (pe_tup (pa_cons (pv 5) pa_nil))))) pss_nil)
  (pss_one (ps_ret (pe_op op_catA (pe_op op_catA (pe_slice sl_tupA (pv 2) po_none (po_some (pv 6))) (pe_tup (pa_cons (pe_c C__law_some hr (by omega) rfl (pa_cons (pv 0) (pa_cons (pv 7) pa_nil))) pa_nil))) (pe_slice sl_tupA (pv 2) (po_some (pe_op op_add (pv 6) pe_int)) po_none))))))))))))))), ?_⟩
    obtain ⟨l, bz, t, ps, t0, hb, b1, b8, ⟨xa, rfl, xs, hx, px⟩, l8, rng, q⟩ := h
    have el := paired_len px
    have zero : 0 ≤ PySem.sizeLine := Nat.zero_le _
    have bigc : (1000 : Nat) < PySem.sizeLine := by decide
    refine ⟨_, rfl, tp, 8, rfl, l, t0, by decide, by decide, fun kind H1 k0 k8 t1 mv1 => ?_⟩
    have kp1 := t0.keep mv1
    have hb1 := kp1.tups _ _ hb
    have hx1 := kp1.tups _ _ hx
    have px1 := paired_mono (fun _ _ => stays_pr _ _ _ _ kp1.tups) px
    clear hb hx px t0 kp1
    refine ⟨_, rfl, a, bz, rfl, .inr (SqT.of hb1), ?_⟩
    refine ⟨_, rfl, rfl, _, rfl, ?_⟩
    refine ite2 (fun c0 => ?_) (fun c0 => ?_)
    · refine ⟨_, rfl, xa, xs, rfl, .inr (SqT.of hx1), fun L hL => ?_⟩
      refine ⟨_, rfl, one1, fun T1 hT1 => ?_⟩
      refine fun E0 hE0 => ⟨zero, fun e0 he0 => ⟨one1, fun T2 hT2 => ⟨(by show 8 ≤ PySem.sizeLine; decide), fun W hW => ?_⟩⟩⟩
      have g1 := same_new (o := .lst xs) hL
      have g2 := same_new (o := .tup [V.ref xa]) hT1
      have g3 := same_new (o := .dK []) hE0
      have g4 := same_new (o := .tup []) he0
      have g5 := same_new (o := .tup [V.ref e0]) hT2
      have g6 := same_new (o := .lst [V.non, V.ref L, V.ref T1, V.int 0, V.str "pairs", V.ref E0, V.bl true, V.ref T2]) hW
      have g36 := g3.trans (g4.trans (g5.trans g6))
      have g26 := g2.trans g36
      have g16 := g1.trans g26
      have tW := t1.same g16
      have nL := t1.new hL
      have nE := (t1.same (g1.trans g2)).new hE0
      have nW := (t1.same (g1.trans (g2.trans (g3.trans (g4.trans g5))))).new hW
      have fL := g26 _ _ (show upd H1 L (.lst xs) L = some (.lst xs) from upd_same)
      have fT1 := g36 _ _ (show upd (upd H1 L (.lst xs)) T1 (.tup [V.ref xa]) T1 = some (.tup [V.ref xa]) from upd_same)
      have fE := (g4.trans (g5.trans g6)) _ _ (show upd (upd (upd H1 L (.lst xs)) T1 (.tup [V.ref xa])) E0 (.dK []) E0 = some (.dK []) from upd_same)
      have fe := (g5.trans g6) _ _ (show upd (upd (upd (upd H1 L (.lst xs)) T1 (.tup [V.ref xa])) E0 (.dK [])) e0 (.tup []) e0 = some (.tup []) from upd_same)
      have fT2 := g6 _ _ (show upd (upd (upd (upd (upd H1 L (.lst xs)) T1 (.tup [V.ref xa])) E0 (.dK [])) e0 (.tup [])) T2 (.tup [V.ref e0]) T2 = some (.tup [V.ref e0]) from upd_same)
      have fW : upd (upd (upd (upd (upd (upd H1 L (.lst xs)) T1 (.tup [V.ref xa])) E0 (.dK [])) e0 (.tup [])) T2 (.tup [V.ref e0])) W (.lst [V.non, V.ref L, V.ref T1, V.int 0, V.str "pairs", V.ref E0, V.bl true, V.ref T2]) W = some (.lst [V.non, V.ref L, V.ref T1, V.int 0, V.str "pairs", V.ref E0, V.bl true, V.ref T2]) := upd_same
      have fx := g16 _ _ hx1
      have pxW := paired_mono (fun _ _ => stays_pr _ _ _ _ (tups_same g16)) px1
      generalize upd (upd (upd (upd (upd (upd H1 L (.lst xs)) T1 (.tup [V.ref xa])) E0 (.dK [])) e0 (.tup [])) T2 (.tup [V.ref e0])) W (.lst [V.non, V.ref L, V.ref T1, V.int 0, V.str "pairs", V.ref E0, V.bl true, V.ref T2]) = H2 at *
      refine ⟨_, rfl, tp, 8, rfl, l, tW, by decide, by decide, fun r H3 r0 r8 t3 mv3 => ?_⟩
      have kp := tW.keep mv3
      obtain ⟨v, hv, mem⟩ := at_ok (xs := [V.non, V.ref L, V.ref T1, V.int 0, V.str "pairs", V.ref E0, V.bl true, V.ref T2]) r0 r8
      refine ⟨W, _, r, v, rfl, rfl, SqL.of (mv3 _ _ fW nW.1), hv, q v H3 ?_ t3 ((mv1.trans (mov_same g16)).trans mv3)⟩
      have fL3 := mv3 _ _ fL nL.1
      have fT13 := kp.tups _ _ fT1
      have fE3 := mv3 _ _ fE nE.1
      have fe3 := kp.tups _ _ fe
      have fT23 := kp.tups _ _ fT2
      have fx3 := kp.tups _ _ fx
      have px3 := paired_mono (fun _ _ => stays_pr _ _ _ _ kp.tups) pxW
      have dps : DpAll K H3 xs (t.map Nm.prD) := dp_prsL px3
      have hds : PyData.hasDictAll (t.map Nm.prD) = false := hd_prs t
      have shs : ∀ d ∈ t.map Nm.prD, Shd d 82 1 := fun d hd => by
        obtain ⟨p, hp, rfl⟩ := List.mem_map.mp hd
        have := rng p hp
        exact shd_pr (by omega) (by omega)
      simp only [List.mem_cons, List.not_mem_nil, or_false] at mem
      rcases mem with rfl | rfl | rfl | rfl | rfl | rfl | rfl | rfl
      · exact thing_other (d := .none) (.base .non) (kit_ty (by decide +kernel)) ⟨.inr ⟨.non, rfl⟩, 0, shd_non 0 40, by decide⟩
      · exact thing_other (d := .list (t.map Nm.prD)) (.base (.lst fL3)) (kit_ty (by decide +kernel)) ⟨.inr ⟨.lst (SqL.of fL3) dps, by rw [PyData.hasDict]; exact hds⟩, _, (shd_lst shs).more (Nat.le_refl _) (by decide), by rw [List.length_map]; omega⟩
      · refine thing_tup fT13 (by show 1 ≤ 100; decide) fun y hy => ?_
        rw [List.mem_singleton.mp hy]
        refine ⟨.tuple (t.map Nm.prD), false, .tup (SqT.of fx3) dps, by rw [PyData.hasDict]; exact hds, (shd_tup shs).more (by rw [List.length_map]; omega) (by decide), .inr ⟨xa, xs, rfl, fx3, ?_⟩, fun e => nomatch e⟩
        by_cases c2 : xs.length = 2
        · match xs, px3, c2 with
          | [y1, y2], .cons ⟨r1, e1, h1⟩ (.cons ⟨r2, e2, h2⟩ .nil), _ =>
            subst e1 e2
            exact .inr ⟨_, _, rfl, tyi_tup h1, tyi_tup h2, .inl ⟨rfl, rfl⟩⟩
        · exact .inl ⟨c2, rfl⟩
      · exact thing_other (d := .int 0) (.base (.int 0)) (kit_ty (by decide +kernel)) ⟨.inr ⟨.int 0, rfl⟩, 40, shd_int (by decide) 40, by decide⟩
      · exact thing_other (d := .str "pairs") (.base (.str _)) (kit_ty (by decide +kernel)) ⟨.inr ⟨.str _, rfl⟩, 100, shd_str (by decide +kernel) (by decide +kernel) 40, by decide⟩
      · exact thing_other (d := .dict []) (.base (.dK fE3)) (kit_ty (by decide +kernel)) ⟨.inl (.dct fE3 .nil), 0, shd_dct 0 39, by decide⟩
      · exact thing_other (d := .bool true) (.base (.bl true)) (kit_ty (by decide +kernel)) ⟨.inr ⟨.bl true, rfl⟩, 0, shd_bl true 0 40, by decide⟩
      · refine thing_tup fT23 (by show 1 ≤ 100; decide) fun y hy => ?_
        rw [List.mem_singleton.mp hy]
        exact itm_flat (ds := []) fe3 .nil (by simp [PyData.hasDictAll]) (fun _ h => absurd h List.not_mem_nil) (by decide) (.inr ⟨e0, [], rfl, fe3, .inl ⟨by decide, rfl⟩⟩)
    refine ⟨_, rfl, rfl, _, rfl, ?_⟩
    refine ite2 (fun c1 => ?_) (fun c1 => ?_)
    · refine ⟨_, rfl, xa, xs, rfl, SqT.of hx1, fun R hR => ?_⟩
      have gR := same_new (o := .tup xs.reverse) hR
      refine q _ _ (thing_tup upd_same (by rw [List.length_reverse]; omega) fun y hy => ?_) (t1.same gR) (mv1.trans (mov_same gR))
      obtain ⟨i, hi⟩ := List.mem_iff_getElem?.mp (List.mem_reverse.mp hy)
      obtain ⟨p, hp, hpr⟩ := paired_at px1 i y hi
      have := rng p (List.mem_of_getElem? hp)
      exact itm_pr (stays_pr _ _ _ _ (tups_same gR) hpr) (by omega) (by omega)
    refine ⟨_, rfl, rfl, _, rfl, ?_⟩
    refine ite2 (fun c2 => ?body1) (fun c2 => ?second)
    case' body1 => refine iteT ?_
    case' second =>
      refine ⟨_, rfl, xa, xs, rfl, .inr (SqT.of hx1), rfl, _, rfl, ?_⟩
      refine ite2 (fun c3 => ?body2) (fun c3 => ?rest)
    case rest =>
      have n0 : 1 ≤ xs.length := by
        have : ¬ ((xs.length : Nat) : Int) = 0 := fun z => c3 (decide_eq_true (by rw [z]))
        omega
      have two2 : 2 ≤ PySem.sizeLine := by decide
      refine ⟨_, rfl, _, rfl, xa, xs, rfl, .inr (SqT.of hx1), tp, (xs.length : Int), rfl, l, t1, by omega, by omega, fun ai H2 a0 a1 t2 mv2 => ?_⟩
      have kp := t1.keep mv2
      have hx2 := kp.tups _ _ hx1
      have px2 := paired_mono (fun _ _ => stays_pr _ _ _ _ kp.tups) px1
      obtain ⟨k, rfl⟩ : ∃ k : Nat, ai = (k : Int) := ⟨ai.toNat, by omega⟩
      have hk : xs[k]? = some (xs[k]'(by omega)) := List.getElem?_eq_getElem (by omega)
      obtain ⟨p, hp, pr, epr, fpr⟩ := paired_at px2 k _ hk
      rw [epr] at hk
      have rp := rng p (List.mem_of_getElem? hp)
      refine ⟨_, rfl, _, rfl, xa, xs, _, _, rfl, rfl, SqT.of hx2, atI_nat hk, ?_⟩
      have m12 := mv1.trans mv2
      have G : Same H2 H2 := Same.refl H2
      clear mv1 mv2 kp
      refine ⟨_, rfl, pr, _, rfl, SqT.of fpr, fun o1 h1 => ?_⟩
      have g3 := same_new (o := .tup ([V.int p.1, V.int p.2].reverse)) h1
      have fo1 : upd H2 o1 (.tup ([V.int p.1, V.int p.2].reverse)) o1 = some (.tup ([V.int p.1, V.int p.2].reverse)) := upd_same
      replace hx2 := g3 _ _ hx2
      replace fpr := g3 _ _ fpr
      replace G := G.trans g3
      generalize upd H2 o1 (.tup ([V.int p.1, V.int p.2].reverse)) = H3 at *
      refine ⟨_, rfl, pr, _, rfl, .inr (SqT.of fpr), fun o2 h2 => ?_⟩
      have no2 : o2 ≠ tp ∧ o2 ≠ l := (t2.same G).new h2
      have g4 := same_new (o := .lst [V.int p.1, V.int p.2]) h2
      have fo2 : upd H3 o2 (.lst [V.int p.1, V.int p.2]) o2 = some (.lst [V.int p.1, V.int p.2]) := upd_same
      replace hx2 := g4 _ _ hx2
      replace fpr := g4 _ _ fpr
      replace fo1 := g4 _ _ fo1
      replace G := G.trans g4
      generalize upd H3 o2 (.lst [V.int p.1, V.int p.2]) = H4 at *
      refine ⟨_, rfl, one1, fun z3 hz3 => ?_⟩
      have g5 := same_new (o := .tup [V.int 0]) hz3
      have fz3 : upd H4 z3 (.tup [V.int 0]) z3 = some (.tup [V.int 0]) := upd_same
      replace hx2 := g5 _ _ hx2
      replace fpr := g5 _ _ fpr
      replace fo1 := g5 _ _ fo1
      replace fo2 := g5 _ _ fo2
      replace G := G.trans g5
      generalize upd H4 z3 (.tup [V.int 0]) = H5 at *
      refine cat_tups fpr fz3 (by show 2 + 1 ≤ 4000; decide) fun o3 H6 g6 fo3 => ?_
      replace hx2 := g6 _ _ hx2
      replace fpr := g6 _ _ fpr
      replace fo1 := g6 _ _ fo1
      replace fo2 := g6 _ _ fo2
      replace fz3 := g6 _ _ fz3
      replace G := G.trans g6
      refine ⟨_, rfl, pr, _, 0, .int p.1, rfl, rfl, SqT.of fpr, rfl, _, rfl, two2, fun o4 h4 => ?_⟩
      have g7 := same_new (o := .tup [V.int p.1, V.int (bz.length : Int)]) h4
      have fo4 : upd H6 o4 (.tup [V.int p.1, V.int (bz.length : Int)]) o4 = some (.tup [V.int p.1, V.int (bz.length : Int)]) := upd_same
      replace hx2 := g7 _ _ hx2
      replace fpr := g7 _ _ fpr
      replace fo1 := g7 _ _ fo1
      replace fo2 := g7 _ _ fo2
      replace fz3 := g7 _ _ fz3
      replace fo3 := g7 _ _ fo3
      replace G := G.trans g7
      generalize upd H6 o4 (.tup [V.int p.1, V.int (bz.length : Int)]) = H7 at *
      refine ⟨_, rfl, pr, _, 0, .int p.1, rfl, rfl, SqT.of fpr, rfl, rfl, _, rfl, pr, _, 1, .int p.2, rfl, rfl, SqT.of fpr, rfl, two2, fun o5 h5 => ?_⟩
      have g8 := same_new (o := .tup [V.bl (decide (V.int p.1 = V.int 1)), V.int p.2]) h5
      have fo5 : upd H7 o5 (.tup [V.bl (decide (V.int p.1 = V.int 1)), V.int p.2]) o5 = some (.tup [V.bl (decide (V.int p.1 = V.int 1)), V.int p.2]) := upd_same
      replace hx2 := g8 _ _ hx2
      replace fpr := g8 _ _ fpr
      replace fo1 := g8 _ _ fo1
      replace fo2 := g8 _ _ fo2
      replace fz3 := g8 _ _ fz3
      replace fo3 := g8 _ _ fo3
      replace fo4 := g8 _ _ fo4
      replace G := G.trans g8
      generalize upd H7 o5 (.tup [V.bl (decide (V.int p.1 = V.int 1)), V.int p.2]) = H8 at *
      refine ⟨_, rfl, pr, _, 0, .int p.1, rfl, rfl, SqT.of fpr, rfl, two2, fun o6 h6 => ?_⟩
      have g9 := same_new (o := .tup [V.int p.1, V.non]) h6
      have fo6 : upd H8 o6 (.tup [V.int p.1, V.non]) o6 = some (.tup [V.int p.1, V.non]) := upd_same
      replace hx2 := g9 _ _ hx2
      replace fpr := g9 _ _ fpr
      replace fo1 := g9 _ _ fo1
      replace fo2 := g9 _ _ fo2
      replace fz3 := g9 _ _ fz3
      replace fo3 := g9 _ _ fo3
      replace fo4 := g9 _ _ fo4
      replace fo5 := g9 _ _ fo5
      replace G := G.trans g9
      generalize upd H8 o6 (.tup [V.int p.1, V.non]) = H9 at *
      refine ⟨_, rfl, 1, rfl, sl_take (k := 1) fpr fun o7 H10 g10 fo7 => ?_⟩
      replace hx2 := g10 _ _ hx2
      replace fpr := g10 _ _ fpr
      replace fo1 := g10 _ _ fo1
      replace fo2 := g10 _ _ fo2
      replace fz3 := g10 _ _ fz3
      replace fo3 := g10 _ _ fo3
      replace fo4 := g10 _ _ fo4
      replace fo5 := g10 _ _ fo5
      replace fo6 := g10 _ _ fo6
      replace G := G.trans g10
      refine ⟨_, rfl, pr, _, 0, .int p.1, rfl, rfl, SqT.of fpr, rfl, _, rfl, pr, _, 0, .int p.1, rfl, rfl, SqT.of fpr, rfl, two2, fun o8 h8 => ?_⟩
      have g11 := same_new (o := .tup [V.int p.1, V.int p.1]) h8
      have fo8 : upd H10 o8 (.tup [V.int p.1, V.int p.1]) o8 = some (.tup [V.int p.1, V.int p.1]) := upd_same
      replace hx2 := g11 _ _ hx2
      replace fpr := g11 _ _ fpr
      replace fo1 := g11 _ _ fo1
      replace fo2 := g11 _ _ fo2
      replace fz3 := g11 _ _ fz3
      replace fo3 := g11 _ _ fo3
      replace fo4 := g11 _ _ fo4
      replace fo5 := g11 _ _ fo5
      replace fo6 := g11 _ _ fo6
      replace fo7 := g11 _ _ fo7
      replace G := G.trans g11
      generalize upd H10 o8 (.tup [V.int p.1, V.int p.1]) = H11 at *
      refine ⟨(by show 8 ≤ PySem.sizeLine; decide), fun W1 hW1 => ?_⟩
      have g12 := same_new (o := .lst [V.ref o1, V.ref o2, V.ref o3, V.ref o4, V.ref o5, V.ref o6, V.ref o7, V.ref o8]) hW1
      have fW1 : upd H11 W1 (.lst [V.ref o1, V.ref o2, V.ref o3, V.ref o4, V.ref o5, V.ref o6, V.ref o7, V.ref o8]) W1 = some (.lst [V.ref o1, V.ref o2, V.ref o3, V.ref o4, V.ref o5, V.ref o6, V.ref o7, V.ref o8]) := upd_same
      replace hx2 := g12 _ _ hx2
      replace fpr := g12 _ _ fpr
      replace fo1 := g12 _ _ fo1
      replace fo2 := g12 _ _ fo2
      replace fz3 := g12 _ _ fz3
      replace fo3 := g12 _ _ fo3
      replace fo4 := g12 _ _ fo4
      replace fo5 := g12 _ _ fo5
      replace fo6 := g12 _ _ fo6
      replace fo7 := g12 _ _ fo7
      replace fo8 := g12 _ _ fo8
      replace G := G.trans g12
      generalize upd H11 W1 (.lst [V.ref o1, V.ref o2, V.ref o3, V.ref o4, V.ref o5, V.ref o6, V.ref o7, V.ref o8]) = H12 at *
      refine ⟨_, rfl, _, rfl, pr, _, 0, .int p.1, rfl, rfl, SqT.of fpr, rfl, p.1, rfl, lg p.1 (by omega), _, rfl, pr, _, 1, .int p.2, rfl, rfl, SqT.of fpr, rfl, two2, fun o9 h9 => ?_⟩
      have g13 := same_new (o := .tup [V.str (toString p.1), V.int p.2]) h9
      have fo9 : upd H12 o9 (.tup [V.str (toString p.1), V.int p.2]) o9 = some (.tup [V.str (toString p.1), V.int p.2]) := upd_same
      replace hx2 := g13 _ _ hx2
      replace fpr := g13 _ _ fpr
      replace fo1 := g13 _ _ fo1
      replace fo2 := g13 _ _ fo2
      replace fz3 := g13 _ _ fz3
      replace fo3 := g13 _ _ fo3
      replace fo4 := g13 _ _ fo4
      replace fo5 := g13 _ _ fo5
      replace fo6 := g13 _ _ fo6
      replace fo7 := g13 _ _ fo7
      replace fo8 := g13 _ _ fo8
      replace fW1 := g13 _ _ fW1
      replace G := G.trans g13
      generalize upd H12 o9 (.tup [V.str (toString p.1), V.int p.2]) = H13 at *
      refine ⟨1, rfl, _, rfl, pr, _, 1, .int p.2, rfl, rfl, SqT.of fpr, rfl, two2, fun o10 h10 => ?_⟩
      have g14 := same_new (o := .tup [V.int (-1), V.int p.2]) h10
      have fo10 : upd H13 o10 (.tup [V.int (-1), V.int p.2]) o10 = some (.tup [V.int (-1), V.int p.2]) := upd_same
      replace hx2 := g14 _ _ hx2
      replace fpr := g14 _ _ fpr
      replace fo1 := g14 _ _ fo1
      replace fo2 := g14 _ _ fo2
      replace fz3 := g14 _ _ fz3
      replace fo3 := g14 _ _ fo3
      replace fo4 := g14 _ _ fo4
      replace fo5 := g14 _ _ fo5
      replace fo6 := g14 _ _ fo6
      replace fo7 := g14 _ _ fo7
      replace fo8 := g14 _ _ fo8
      replace fW1 := g14 _ _ fW1
      replace fo9 := g14 _ _ fo9
      replace G := G.trans g14
      generalize upd H13 o10 (.tup [V.int (-1), V.int p.2]) = H14 at *
      refine ⟨two2, fun W2 hW2 => ?_⟩
      have g15 := same_new (o := .lst [V.ref o9, V.ref o10]) hW2
      have fW2 : upd H14 W2 (.lst [V.ref o9, V.ref o10]) W2 = some (.lst [V.ref o9, V.ref o10]) := upd_same
      replace hx2 := g15 _ _ hx2
      replace fpr := g15 _ _ fpr
      replace fo1 := g15 _ _ fo1
      replace fo2 := g15 _ _ fo2
      replace fz3 := g15 _ _ fz3
      replace fo3 := g15 _ _ fo3
      replace fo4 := g15 _ _ fo4
      replace fo5 := g15 _ _ fo5
      replace fo6 := g15 _ _ fo6
      replace fo7 := g15 _ _ fo7
      replace fo8 := g15 _ _ fo8
      replace fW1 := g15 _ _ fW1
      replace fo9 := g15 _ _ fo9
      replace fo10 := g15 _ _ fo10
      replace G := G.trans g15
      generalize upd H14 W2 (.lst [V.ref o9, V.ref o10]) = H15 at *
      refine ⟨W1, W2, _, _, rfl, rfl, fW1, fW2, (by show 8 + 2 ≤ PySem.sizeLine; decide), fun W hW => ?_⟩
      have nW := (t2.same G).new hW
      have g16 := same_new (o := .lst ([V.ref o1, V.ref o2, V.ref o3, V.ref o4, V.ref o5, V.ref o6, V.ref o7, V.ref o8] ++ [V.ref o9, V.ref o10])) hW
      have fW : upd H15 W (.lst ([V.ref o1, V.ref o2, V.ref o3, V.ref o4, V.ref o5, V.ref o6, V.ref o7, V.ref o8] ++ [V.ref o9, V.ref o10])) W = some (.lst ([V.ref o1, V.ref o2, V.ref o3, V.ref o4, V.ref o5, V.ref o6, V.ref o7, V.ref o8] ++ [V.ref o9, V.ref o10])) := upd_same
      replace hx2 := g16 _ _ hx2
      replace fpr := g16 _ _ fpr
      replace fo1 := g16 _ _ fo1
      replace fo2 := g16 _ _ fo2
      replace fz3 := g16 _ _ fz3
      replace fo3 := g16 _ _ fo3
      replace fo4 := g16 _ _ fo4
      replace fo5 := g16 _ _ fo5
      replace fo6 := g16 _ _ fo6
      replace fo7 := g16 _ _ fo7
      replace fo8 := g16 _ _ fo8
      replace fW1 := g16 _ _ fW1
      replace fo9 := g16 _ _ fo9
      replace fo10 := g16 _ _ fo10
      replace fW2 := g16 _ _ fW2
      replace G := G.trans g16
      generalize upd H15 W (.lst ([V.ref o1, V.ref o2, V.ref o3, V.ref o4, V.ref o5, V.ref o6, V.ref o7, V.ref o8] ++ [V.ref o9, V.ref o10])) = H16 at *
      have tC := t2.same G
      have pxC := paired_mono (fun _ _ => stays_pr _ _ _ _ (tups_same G)) px2
      have mC : Mov tp H H16 := m12.trans (mov_same G)
      generalize eHC : H16 = HC at *
      have items : ∀ H', Tups HC H' → H' o2 = some (.lst [V.int p.1, V.int p.2]) → ∀ y ∈ [V.ref o1, V.ref o2, V.ref o3, V.ref o4, V.ref o5, V.ref o6, V.ref o7, V.ref o8] ++ [V.ref o9, V.ref o10], ∃ d b, Itm K H' ps y d b := fun H' kt hl y hy => by
        have s1 := shd_int (small_ok (i := p.1) (by omega)) 0
        have s2 := shd_int (small_ok (i := p.2) (by omega)) 0
        have sh2 : ∀ d ∈ [PyData.int p.1, PyData.int p.2], Shd d 100 0 := fun d hd => by
          simp only [List.mem_cons, List.not_mem_nil, or_false] at hd
          rcases hd with rfl | rfl
          · exact s1.more (by decide) (Nat.le_refl _)
          · exact s2.more (by decide) (Nat.le_refl _)
        simp only [List.mem_append, List.mem_cons, List.not_mem_nil, or_false] at hy
        rcases hy with (rfl | rfl | rfl | rfl | rfl | rfl | rfl | rfl) | (rfl | rfl)
        · exact itm_pr (p := (p.2, p.1)) ⟨o1, rfl, kt _ _ fo1⟩ (by show -10 ≤ p.2 ∧ p.2 ≤ 1000; omega) (by show -10 ≤ p.1 ∧ p.1 ≤ 1000; omega)
        · exact ⟨.list [.int p.1, .int p.2], false, .lst (SqL.of hl) (dp_ints [p.1, p.2]), by rw [PyData.hasDict]; exact hd_ints [p.1, p.2], (shd_lst sh2).more (by show 2 * 101 ≤ 1000; decide) (by decide), .inl ⟨⟨_, .base (.lst hl), kit_ty (by decide +kernel)⟩, rfl⟩, fun e => nomatch e⟩
        · have h3 := kt _ _ fo3
          exact itm_flat h3 (dp_ints [p.1, p.2, 0]) (hd_ints [p.1, p.2, 0]) (fun d hd => by
            simp only [List.map_cons, List.map_nil, List.mem_cons, List.not_mem_nil, or_false] at hd
            rcases hd with rfl | rfl | rfl
            · exact s1.more (by decide) (Nat.le_refl _)
            · exact s2.more (by decide) (Nat.le_refl _)
            · exact (shd_int (by decide) 0).more (by decide) (Nat.le_refl _)) (by show 3 ≤ 9; decide) (.inr ⟨o3, _, rfl, h3, .inl ⟨by show 3 ≠ 2; decide, rfl⟩⟩)
        · exact itm_pr (p := (p.1, (bz.length : Int))) ⟨o4, rfl, kt _ _ fo4⟩ (by show -10 ≤ p.1 ∧ p.1 ≤ 1000; omega) (by show -10 ≤ (bz.length : Int) ∧ (bz.length : Int) ≤ 1000; omega)
        · have h5 := kt _ _ fo5
          exact itm_flat (ds := [.bool (decide (V.int p.1 = V.int 1)), .int p.2]) h5 (.cons (.bl _) (.cons (.int _) .nil)) (by simp [PyData.hasDictAll, PyData.hasDict]) (fun d hd => by
            simp only [List.mem_cons, List.not_mem_nil, or_false] at hd
            rcases hd with rfl | rfl
            · exact shd_bl _ _ _
            · exact s2.more (by decide) (Nat.le_refl _)) (by show 2 ≤ 9; decide) (.inr ⟨o5, _, rfl, h5, .inr ⟨_, _, rfl, tyi_bl _, tyi_int _, .inl ⟨rfl, rfl⟩⟩⟩)
        · have h6 := kt _ _ fo6
          exact itm_flat (ds := [.int p.1, .none]) h6 (.cons (.int _) (.cons .non .nil)) (by simp [PyData.hasDictAll, PyData.hasDict]) (fun d hd => by
            simp only [List.mem_cons, List.not_mem_nil, or_false] at hd
            rcases hd with rfl | rfl
            · exact s1.more (by decide) (Nat.le_refl _)
            · exact shd_non _ _) (by show 2 ≤ 9; decide) (.inr ⟨o6, _, rfl, h6, .inr ⟨_, _, rfl, tyi_int _, tyi_non, .inl ⟨Bool.and_false _, rfl⟩⟩⟩)
        · have h7 := kt _ _ fo7
          exact itm_flat (ds := [.int p.1]) h7 (.cons (.int _) .nil) (by simp [PyData.hasDictAll, PyData.hasDict]) (fun d hd => by
            rw [List.mem_singleton.mp hd]
            exact s1.more (by decide) (Nat.le_refl _)) (by show 1 ≤ 9; decide) (.inr ⟨o7, _, rfl, h7, .inl ⟨by show 1 ≠ 2; decide, rfl⟩⟩)
        · exact itm_pr (p := (p.1, p.1)) ⟨o8, rfl, kt _ _ fo8⟩ (by show -10 ≤ p.1 ∧ p.1 ≤ 1000; omega) (by show -10 ≤ p.1 ∧ p.1 ≤ 1000; omega)
        · have h9 := kt _ _ fo9
          have dg := digs_ok p.1.toNat (by omega)
          rw [show ((p.1.toNat : Nat) : Int) = p.1 by omega] at dg
          exact itm_flat (ds := [.str (toString p.1 : String), .int p.2]) h9 (.cons (.str _) (.cons (.int _) .nil)) (by simp [PyData.hasDictAll, PyData.hasDict]) (fun d hd => by
            simp only [List.mem_cons, List.not_mem_nil, or_false] at hd
            rcases hd with rfl | rfl
            · exact shd_str dg.1 dg.2 _
            · exact s2.more (by decide) (Nat.le_refl _)) (by show 2 ≤ 9; decide) (.inr ⟨o9, _, rfl, h9, .inr ⟨_, _, rfl, tyi_str _, tyi_int _, .inl ⟨rfl, rfl⟩⟩⟩)
        · exact itm_pr (p := (-1, p.2)) ⟨o10, rfl, kt _ _ fo10⟩ (by show (-10 : Int) ≤ -1 ∧ (-1 : Int) ≤ 1000; omega) (by show -10 ≤ p.2 ∧ p.2 ≤ 1000; omega)
      have prs : ∀ H', Tups HC H' → ∀ y ∈ xs, ∃ d b, Itm K H' ps y d b := fun H' kt y hy => by
        obtain ⟨i, hi⟩ := List.mem_iff_getElem?.mp hy
        obtain ⟨p', hp', hpr'⟩ := paired_at pxC i y hi
        have := rng p' (List.mem_of_getElem? hp')
        exact itm_pr (stays_pr _ _ _ _ kt hpr') (by omega) (by omega)
      refine ⟨_, rfl, rfl, _, rfl, ?_⟩
      refine ite2 (fun c4 => ?_) (fun c4 => ?_)
      · refine ⟨_, rfl, _, rfl, _, rfl, sl_takeE (k := k) rfl hx2 fun r1 HD gD hr1 => ?_⟩
        refine ⟨_, rfl, _, rfl, _, _, rfl, rfl, _, rfl, ?_⟩
        dsimp only [tNoPart]
        refine sl_dropE (n := (k : Int) + 1) (k := k + 1) (by omega) (gD _ _ hx2) fun r2 HE gE hr2 => ?_
        refine cat_tups (gE _ _ hr1) hr2 (by rw [List.length_take, List.length_drop]; omega) fun r3 HF gF hr3 => ?_
        have gCF := gD.trans (gE.trans gF)
        exact q _ _ (thing_tup hr3 (by rw [List.length_append, List.length_take, List.length_drop]; omega) fun y hy => prs _ (tups_same gCF) y ((List.mem_append.mp hy).elim List.mem_of_mem_take List.mem_of_mem_drop)) (tC.same gCF) (mC.trans (mov_same gCF))
      refine ⟨_, rfl, rfl, _, rfl, ?_⟩
      refine ite2 (fun c5 => ?_) (fun c5 => ?_)
      · refine ⟨_, rfl, _, rfl, one1, fun z hz => ?_⟩
        have gz := same_new (o := .tup [V.ref pr]) hz
        refine cat_tups (gz _ _ hx2) upd_same (by show xs.length + 1 ≤ 4000; omega) fun r3 HF gF hr3 => ?_
        have gCF := gz.trans gF
        refine q _ _ (thing_tup hr3 (by rw [List.length_append]; show xs.length + 1 ≤ 100; omega) fun y hy => ?_) (tC.same gCF) (mC.trans (mov_same gCF))
        rcases List.mem_append.mp hy with h | h
        · exact prs _ (tups_same gCF) y h
        · rw [List.mem_singleton.mp h]
          exact itm_pr (p := p) ⟨pr, rfl, gCF _ _ fpr⟩ (by omega) (by omega)
      refine ⟨_, rfl, _, rfl, _, rfl, sl_takeE (k := k) rfl hx2 fun r1 HD gD hr1 => ?_⟩
      refine ⟨_, rfl, _, rfl, tp, W, rfl, l, _, tC.same gD, gD _ _ fW, nW.1, (by show 1 ≤ 10; decide), (by show 10 ≤ 1000; decide), fun yv HE hyv tE mvE => ⟨one1, fun z hz => ?_⟩⟩
      have kDE := (tC.same gD).keep mvE
      have gz := same_new (o := .tup [yv]) hz
      have kT : Tups HC (upd HE z (.tup [yv])) := fun b us hb => tups_same gz _ _ (kDE.tups _ _ (tups_same gD _ _ hb))
      have o2z := gz _ _ (mvE _ _ (gD _ _ fo2) no2.1)
      refine cat_tups (gz _ _ (kDE.tups _ _ hr1)) upd_same (by rw [List.length_take]; show min k xs.length + 1 ≤ 4000; omega) fun r2 HF gF hr2 => ?_
      refine ⟨_, rfl, _, rfl, _, _, rfl, rfl, _, rfl, ?_⟩
      dsimp only [tNoPart]
      refine sl_dropE (n := (k : Int) + 1) (k := k + 1) (by omega) (gF _ _ (kT _ _ hx2)) fun r3 HG gG hr3 => ?_
      refine cat_tups (gG _ _ hr2) hr3 (by rw [List.length_append, List.length_take, List.length_drop]; show min k xs.length + 1 + _ ≤ 4000; omega) fun r4 HI gI hr4 => ?_
      have gFI := gF.trans (gG.trans gI)
      have kT2 : Tups HC HI := fun b us hb => tups_same gFI _ _ (kT _ _ hb)
      refine q _ _ (thing_tup hr4 (by rw [List.length_append, List.length_append, List.length_take, List.length_drop]; show min k xs.length + 1 + _ ≤ 100; omega) fun y hy => ?_) ((tE.same gz).same gFI) ((mC.trans (mov_same gD)).trans (mvE.trans (mov_same (gz.trans gFI))))
      rcases List.mem_append.mp hy with h | h
      · rcases List.mem_append.mp h with h | h
        · exact prs _ kT2 y (List.mem_of_mem_take h)
        · rw [List.mem_singleton.mp h]
          exact items _ kT2 (gFI _ _ o2z) yv hyv
      · exact prs _ kT2 y (List.mem_of_mem_drop h)
    all_goals
      refine ⟨_, rfl, _, rfl, tp, (bz.length : Int), rfl, l, t1, by omega, by omega, fun u1 H2 u10 u18 t2 mv2 => ?_⟩
      refine ⟨_, rfl, _, rfl, tp, (bz.length : Int), rfl, l, t2, by omega, by omega, fun u2 H3 u20 u28 t3 mv3 => ⟨by show 2 ≤ PySem.sizeLine; decide, fun pr hpr => ?_⟩⟩
      have gp := same_new (o := .tup [V.int u1, V.int u2]) hpr
      have m3 := mv2.trans (mv3.trans (mov_same gp))
      have t4 := t3.same gp
      have kp := t1.keep m3
      have hx3 := kp.tups _ _ hx1
      have px3 := paired_mono (fun _ _ => stays_pr _ _ _ _ kp.tups) px1
      have hpr3 : upd H3 pr (.tup [V.int u1, V.int u2]) pr = some (.tup [V.int u1, V.int u2]) := upd_same
      generalize upd H3 pr (.tup [V.int u1, V.int u2]) = H4 at *
      refine ⟨_, rfl, xa, xs, rfl, .inr (SqT.of hx3), fun L hL => ?_⟩
      refine ⟨_, rfl, one1, fun M hM => ?_⟩
      have gL := same_new (o := .lst xs) hL
      have gM := same_new (o := .lst [V.ref pr]) hM
      have fL := gM _ _ (show upd H4 L (.lst xs) L = some (.lst xs) from upd_same)
      refine ⟨L, M, xs, [V.ref pr], rfl, rfl, fL, upd_same, (by show xs.length + 1 ≤ PySem.sizeLine; omega), fun N hN => ?_⟩
      have gN := same_new (o := .lst (xs ++ [V.ref pr])) hN
      have g := gL.trans (gM.trans gN)
      have ps5 := paired_snoc (paired_mono (fun _ _ => stays_pr _ _ _ _ (tups_same g)) px3) (show PrAt _ (V.ref pr) (u1, u2) from ⟨pr, rfl, g _ _ hpr3⟩)
      have fN : upd (upd (upd H4 L (.lst xs)) M (.lst [V.ref pr])) N (.lst (xs ++ [V.ref pr])) N = some (.lst (xs ++ [V.ref pr])) := upd_same
      generalize upd (upd (upd H4 L (.lst xs)) M (.lst [V.ref pr])) N (.lst (xs ++ [V.ref pr])) = H5 at *
      dsimp only [tNil]
      refine sort_told ordd_pr (R := PrAt H5) (fun _ _ _ => prAt_fn) (fun x p h => ?_) (.inl (SqL.of fN)) ps5 fun zs us B pz srt pm hB => ?_
      · obtain ⟨r, e, hr⟩ := h
        exact ⟨⟨r, e⟩, dp_pr ⟨r, e, hr⟩⟩
      have gB := same_new (o := .lst zs) hB
      refine ⟨B, zs, rfl, .inl ⟨SqL.of upd_same, fun C hC => ?_⟩⟩
      have gC := same_new (o := .tup zs) hC
      have lz : zs.length = xs.length + 1 := by
        rw [paired_len pz, pm.length_eq, List.length_append, el]
        rfl
      refine q _ _ (thing_tup upd_same (by omega) fun y hy => ?_) (t4.same (g.trans (gB.trans gC))) (mv1.trans (m3.trans (mov_same (g.trans (gB.trans gC)))))
      obtain ⟨i, hi⟩ := List.mem_iff_getElem?.mp hy
      obtain ⟨p, hp, hpr'⟩ := paired_at pz i y hi
      have hm := pm.mem_iff.mp (List.mem_of_getElem? hp)
      have r2 : (0 ≤ p.1 ∧ p.1 < 8) ∧ 0 ≤ p.2 ∧ p.2 < 8 := by
        rcases List.mem_append.mp hm with h | h
        · exact rng p h
        · rw [List.mem_singleton.mp h]
          exact ⟨⟨u10, by omega⟩, u20, by omega⟩
      exact itm_pr (stays_pr _ _ _ _ (tups_same (gB.trans gC)) hpr') (by omega) (by omega)
end
end K24
namespace K24
open PySem L2 Nm
open C8 (Cal Mak pe_c pe_mk pe_gc)
open RZ (ItzT pi_zipA)
theorem made_same {H H4 : Hp} {x dx C : Addr} (hx : H x = none) (hdx : H dx = none) (kp : ∀ b o, upd (upd H dx (.own x)) x (.ins C dx []) b = some o → b ≠ x → H4 b = some o) : Same H H4 := fun b o ho => kp b o (by rw [upd_ne (ne_of_none ho hx), upd_ne (ne_of_none ho hdx)]; exact ho) (ne_of_none ho hx)
def InM (t : List Pr) (many : Nat) : Prop := ∀ p ∈ t, 0 ≤ p.1 ∧ p.1 < (many : Int) ∧ 0 ≤ p.2 ∧ p.2 < (many : Int)
theorem pairing_len {ps t : List Pr} {many : Nat} (inm : InM ps many) (g : Pairing ps t) : t.length ≤ many := by
  have nd : (t.map fun p => p.1.toNat).Nodup := by
    refine List.pairwise_map.mpr (List.Pairwise.imp_of_mem (fun {p q} hp hq s e => ?_) g.apart)
    have h1 := inm p (g.sub p hp)
    have h2 := inm q (g.sub q hq)
    have e1 : p.1 = q.1 := by omega
    have : shareP p q = true := shares_iff.mpr (.inl (.inl e1))
    rw [s] at this
    cases this
  have := List.Nodup.length_le_of_subset (l₂ := List.range many) nd fun k hk => by
    obtain ⟨p, hp, rfl⟩ := List.mem_map.mp hk
    have h1 := inm p (g.sub p hp)
    exact List.mem_range.mpr (by omega)
  rwa [List.length_map, List.length_range] at this
theorem pairs_inm (f : Nat → Nat → Bool) (n : Nat) : InM (pairsOf f n) n := fun p hp => by
  obtain ⟨i, j, rfl, h1, h2, _, _⟩ := mem_pairsUp.mp hp
  refine ⟨?_, ?_, ?_, ?_⟩
  · show (0 : Int) ≤ (i : Int)
    omega
  · show (i : Int) < (n : Int)
    omega
  · show (0 : Int) ≤ (j : Int)
    omega
  · show (j : Int) < (n : Int)
    omega
theorem DeepAt.same {H H' : Hp} (g : Same H H') {kind : Int} {x : V} (h : DeepAt H kind x) : DeepAt H' kind x := by
  rcases h with ⟨e, a, p, z, rfl, ha, hp⟩ | ⟨e, a, p, z, rfl, ha, hp⟩ | ⟨e, a, xs, rfl, ha⟩ | ⟨e, a, kvs, rfl, ha⟩
  · exact .inl ⟨e, a, p, z, rfl, g _ _ ha, g _ _ hp⟩
  · exact .inr (.inl ⟨e, a, p, z, rfl, g _ _ ha, g _ _ hp⟩)
  · exact .inr (.inr (.inl ⟨e, a, xs, rfl, g _ _ ha⟩))
  · exact .inr (.inr (.inr ⟨e, a, kvs, rfl, g _ _ ha⟩))
theorem pg_deep {K : PySem.W.Frag} {H : Hp} {ps : List Pr} {kind : Int} {x : V} (h : DeepAt H kind x) : PgOr K H ps x false := by
  rcases h with ⟨_, a, p, z, rfl, ha, hp⟩ | ⟨_, a, p, z, rfl, ha, hp⟩ | ⟨_, a, xs, rfl, ha⟩ | ⟨_, a, kvs, rfl, ha⟩
  · exact .inr ⟨a, _, [false, false], rfl, ha, by show 2 ≤ 1000; decide, .cons (.inl ⟨⟨_, .base (.str _), kit_ty (by decide +kernel)⟩, rfl⟩) (.cons (.inr ⟨p, _, rfl, hp, .inl ⟨by show 1 ≠ 2; decide, rfl⟩⟩) .nil), .inl ⟨rfl, rfl⟩⟩
  · exact .inr ⟨a, _, [false], rfl, ha, by show 1 ≤ 1000; decide, .cons (.inr ⟨p, _, rfl, hp, .inl ⟨by show 1 ≠ 2; decide, rfl⟩⟩) .nil, .inl ⟨rfl, rfl⟩⟩
  · exact .inl ⟨⟨_, .base (.lst ha), kit_ty (by decide +kernel)⟩, rfl⟩
  · exact .inl ⟨⟨_, .base (.dK ha), kit_ty (by decide +kernel)⟩, rfl⟩
section
variable {P : Program} {w : World} {K : PySem.W.Frag} {mg : Str → Option Value} {base : Heap}
def sp_law (K : PySem.W.Frag) : Sp := fun vs H Q _ => ∃ (a : Addr) (ns : List Int), vs = [.ref a] ∧ SqL K H a (ns.map V.int) ∧ ∀ H', Q (.bl true) H'
theorem ok_law {f : Addr} {fd : FuncData} (F : Fun K "law" "law" s_law f fd) (T : Txt K mg) : Nm.FnG P w K mg base 10 f fd ["script"] (sp_law K) := by
  have C__law_bent := c__law_bent (P := P) (w := w) (base := base) T
  have C__law_boards := c__law_boards (P := P) (w := w) (base := base) T
  have C__law_deep := c__law_deep (P := P) (w := w) (base := base) T
  have C__law_flag := c__law_flag (P := P) (w := w) (base := base) T
  have C__law_is_pairing := c__law_is_pairing (P := P) (w := w) (base := base) T
  have C__law_pick := c__law_pick (P := P) (w := w) (base := base) T
  have C__law_some := c__law_some (P := P) (w := w) (base := base) T
  have C__law_tape := c__law_tape (P := P) (w := w) (base := base) T
  have C_is_pairing := c_is_pairing (P := P) (w := w) (base := base) T
  have C_pairings := c_pairings (P := P) (w := w) (base := base) T
  have sc := sc_law
  refine Nm.okG (k := 9) F sc (fun vs H Q E h => ?_) (fun cdv A outer s H vs Q E hg hr h => ?_)
  · obtain ⟨s0, ns0, rfl, _⟩ := h
    rfl
  · obtain ⟨s0, ns0, rfl, h⟩ := h
    obtain ⟨CH, C_Hall⟩ := c_Hall (P := P) (w := w) (base := base) T
    -- have C_Hall 
    obtain ⟨hs, q⟩ := h
    have HC : HallC K CH := by
      obtain ⟨_, _, _, _, _, _, hm, _, _⟩ := C_Hall.ex
      exact T.hall_K CH hm
    refine ⟨_, (pss_cons (ps_set (i := 1) sc.nd rfl (Or.inr rfl) (pe_c C__law_tape hr (by omega) rfl (pa_cons (pv 0) pa_nil)))
  (pss_cons (ps_for PassesOwn.never rfl (pi_range1 rfl T.m_range (pa_cons pe_int pa_nil)) (pg_name (i := 2) sc.nd rfl (Or.inl rfl)) (pss_cons (ps_set (i := 3) sc.nd rfl (Or.inl rfl) (pe_c C__law_boards hr (by omega) rfl (pa_cons (pv 1) (pa_cons pe_int (pa_cons (pe_cmpR op_gt (pv 2) pe_int (nomark _)) pa_nil)))))
  (pss_cons (ps_set (i := 4) sc.nd rfl (Or.inl rfl) (pe_mk C_Hall hr (by omega) rfl (pa_cons (pv 3) pa_nil)))
  (pss_cons (ps_set (i := 5) sc.nd rfl (Or.inl rfl) (pe_c C_pairings hr (by omega) rfl (pa_cons (pv 4) pa_nil)))
  (pss_cons (ps_for PassesOwn.never rfl (pi_list (pe_lst (pa_cons (pe_c C__law_deep hr (by omega) rfl (pa_cons (pe_c C__law_pick hr (by omega) rfl (pa_cons (pv 1) (pa_cons pe_int pa_nil))) pa_nil)) (pa_cons (pv 4) (pa_cons (pe_tup (pa_cons (pv 4) pa_nil)) (pa_cons (pe_tup (pa_cons (pe_tup (pa_cons (pv 4) (pa_cons pe_int pa_nil))) pa_nil)) (pa_cons (pe_tup (pa_cons (pe_c C__law_deep hr (by omega) rfl (pa_cons pe_int pa_nil)) pa_nil)) pa_nil))))))) (pg_name (i := 6) sc.nd rfl (Or.inl rfl)) (pss_one (ps_if (pt_not (pt_val (pe_c C__law_flag hr (by omega) rfl (pa_cons (pe_c C_is_pairing hr (by omega) rfl (pa_cons (pv 4) (pa_cons (pv 6) pa_nil))) (pa_cons pe_bl pa_nil))))) (pss_one (ps_ret pe_bl)) pss_nil)))
  (pss_one (ps_for PassesOwn.never rfl (pi_range1 rfl T.m_range (pa_cons pe_int pa_nil)) (pg_name (i := 7) sc.nd rfl (Or.inl rfl)) (pss_cons (ps_set (i := 6) sc.nd rfl (Or.inl rfl) (pe_callTy call_tuple_of rfl T.m_tuple (by decide +kernel) (pa_cons (pe_lc (own := [("pair", 9)]) (g := gName 9) rfl sc.nd (pi_tup (pe_c C__law_some hr (by omega) rfl (pa_cons (pv 1) (pa_cons (pv 5) pa_nil)))) (blkOk_by (own := [("pair", 9)]) (N := ["script", "tape", "turn", "boards", "hall", "every", "thing", "k", "text", "pair"]) (sc := defScope s_law) (by decide +kernel)) (fun _ _ _ _ _ => (pg_name (i := 9) sc.nd rfl (Or.inl rfl))) (fun _ _ _ _ _ => (pts_one (pt_cmpR op_gt (pe_c C__law_pick hr (by omega) rfl (pa_cons (pv 1) (pa_cons pe_int pa_nil))) pe_int (nomark _)))) (fun _ _ _ _ _ => (pv 9))) pa_nil)))
  (C8.pss_cut (ps_if (pt_cmpR op_gt (pv 7) pe_int (nomark _)) (pss_one (ps_set (i := 6) sc.nd rfl (Or.inl rfl) (pe_c C__law_bent hr (by omega) rfl (pa_cons (pv 1) (pa_cons (pv 3) (pa_cons (pv 6) pa_nil)))))) pss_nil)
  (pss_cons (ps_set (i := 8) sc.nd rfl (Or.inl rfl) (pe_callB (Nm.call_reprA (by exact hg) (Nat.lt_of_succ_lt (u65 hr))) rfl T.m_repr (by decide +kernel) (pa_cons (pv 6) pa_nil)))
  (pss_one (ps_if (PW.pt (pw_or (pt_not (pt_val (pe_c C__law_flag hr (by omega) rfl (pa_cons (pe_c C_is_pairing hr (by omega) rfl (pa_cons (pv 4) (pa_cons (pv 6) pa_nil))) (pa_cons (pe_c C__law_is_pairing hr (by omega) rfl (pa_cons (pv 3) (pa_cons (pv 6) pa_nil))) pa_nil))))) (pw_or1 (pt_cmpR op_ne (pe_callB (Nm.call_reprA (by exact hg) (Nat.lt_of_succ_lt (u65 hr))) rfl T.m_repr (by decide +kernel) (pa_cons (pv 6) pa_nil)) (pv 8) (nomark _))))) (pss_one (ps_ret pe_bl)) pss_nil))))))))))))
  (pss_one (ps_ret pe_bl)))), ?_⟩
    refine ⟨_, rfl, s0, rfl, ns0, hs, fun tp l H1 g1 htp t1 => ?_⟩
    clear hs
    refine ⟨3, rfl, by decide, by decide, ?_⟩
    refine for_range (lo := 0) (n := 3) (fun i σ H2 => ∃ v2 v3 v4 v5 v6 v7 v8, σ = [some (.ref s0), some (.ref tp), v2, v3, v4, v5, v6, v7, v8, none] ∧ TapeAt H2 tp l) ⟨_, _, _, _, _, _, _, rfl, t1⟩ ?_ ?_
    rotate_left
    · rintro σ H2 ⟨_, _, _, _, _, _, _, rfl, t2⟩
      exact q _
    rintro i σ H2 hi ⟨v2, v3, v4, v5, v6, v7, v8, rfl, t2⟩
    clear g1 htp t1
    have one1 : 1 ≤ PySem.sizeLine := by decide
    have two2 : 2 ≤ PySem.sizeLine := by decide
    refine ⟨_, rfl, _, rfl, _, _, rfl, rfl, ?_⟩
    refine ⟨tp, 8, _, rfl, l, t2, by decide, by decide, fun r bs H4 hb dr l1 lm t4 mv4 => ?_⟩
    have okb : ∀ b ∈ bs, okB b := fun b hb => (dr b hb).1
    refine ⟨_, rfl, fun x dx hx hdx ne => ?_⟩
    have gx : Same H4 (upd (upd H4 dx (.own x)) x (.ins CH dx [])) := fun c o ho => by
      rw [upd_ne (ne_of_none ho hx), upd_ne (ne_of_none ho hdx)]
      exact ho
    refine ⟨x, dx, r, bs, rfl, upd_same, hb.mono (same_tups gx), okb, l1, by omega, fun H5 fs h5 lf hh5 kp => ⟨rfl, ?_⟩⟩
    have g5 := made_same hx hdx kp
    have hb5 := hb.mono (same_tups g5)
    have t5 := t4.same g5
    clear gx kp lf hx hdx hb t4 g5 t2 mv4
    refine ⟨_, rfl, x, rfl, bs, hh5, okb, by omega, few8 _ (by omega), fun e H6 us he ⟨ez, hez, pez⟩ uus mus g6 => ?_⟩
    have ne6 := t5.new he
    have t6 := t5.same g6
    have hb6 := hb5.mono (same_tups g6)
    have hh6 := hh5.mono (same_keep g6)
    have h6 := g6 _ _ h5
    have up := pairsOf_up (onB arePair bs) bs.length
    have lez := paired_len pez
    have few : us.length ≤ 764 := by
      have l1 := List.Nodup.length_le_of_subset (l₂ := allP (pairsOf (onB arePair bs) bs.length)) (less_nodup uus) fun t ht => (mem_allP rfl up t).mpr ((mus t).mp ht).toPairing
      have := few_allP up (pairs_all (f := onB arePair bs) (show bs.length ≤ 8 by omega))
      rw [all8] at this
      omega
    have some1 : 1 ≤ us.length := by
      obtain ⟨u, gu, _⟩ := pairing_in up (t := []) ⟨.nil, fun _ h => absurd h List.not_mem_nil, .nil⟩
      exact List.length_pos_of_mem ((mus u).mpr gu)
    clear hh5 hb5 h5 t5 g6 he
    -- other things
    refine ⟨_, rfl, tp, 4, rfl, l, t6, by decide, by decide, fun r1 H7 r10 r14 t7 mv7 => ⟨r1, rfl, r10, r14, fun z1 H8 g8 d1 => ?_⟩⟩
    refine ⟨_, rfl, _, rfl, one1, fun q1 hq1 => ?_⟩
    refine ⟨_, rfl, two2, fun q2 hq2 => ⟨one1, fun q3 hq3 => ?_⟩⟩
    refine ⟨1, rfl, by decide, by decide, fun z2 H12 g12 d2 => ⟨one1, fun q4 hq4 => ⟨(by show 5 ≤ PySem.sizeLine; decide), fun W hW => ?_⟩⟩⟩
    have s1 := same_new (o := .tup [V.ref x]) hq1
    have s2 := same_new (o := .tup [V.ref x, V.int 1]) hq2
    have s3 := same_new (o := .tup [V.ref q2]) hq3
    have s4 := same_new (o := .tup [z2]) hq4
    have s5 := same_new (o := .lst [z1, V.ref x, V.ref q1, V.ref q3, V.ref q4]) hW
    have s35 := s3.trans (g12.trans (s4.trans s5))
    have s25 := s2.trans s35
    have s85 := s1.trans s25
    have f1 := s25 _ _ (show upd H8 q1 (.tup [V.ref x]) q1 = some (.tup [V.ref x]) from upd_same)
    have f2 := s35 _ _ (show upd (upd H8 q1 (.tup [V.ref x])) q2 (.tup [V.ref x, V.int 1]) q2 = some (.tup [V.ref x, V.int 1]) from upd_same)
    have f3 := (g12.trans (s4.trans s5)) _ _ (show upd (upd (upd H8 q1 (.tup [V.ref x])) q2 (.tup [V.ref x, V.int 1])) q3 (.tup [V.ref q2]) q3 = some (.tup [V.ref q2]) from upd_same)
    have f4 := s5 _ _ (show upd H12 q4 (.tup [z2]) q4 = some (.tup [z2]) from upd_same)
    have fW : upd (upd H12 q4 (.tup [z2])) W (.lst [z1, V.ref x, V.ref q1, V.ref q3, V.ref q4]) W = some (.lst [z1, V.ref x, V.ref q1, V.ref q3, V.ref q4]) := upd_same
    have d1W := d1.same s85
    have d2W := d2.same (s4.trans s5)
    have t8 := t7.same g8
    have tW := t8.same s85
    have k6 : Keep H6 (upd (upd H12 q4 (.tup [z2])) W (.lst [z1, V.ref x, V.ref q1, V.ref q3, V.ref q4])) := (t6.keep mv7).trans (same_keep (g8.trans s85))
    have m6 : Mov tp H6 (upd (upd H12 q4 (.tup [z2])) W (.lst [z1, V.ref x, V.ref q1, V.ref q3, V.ref q4])) := mv7.trans (mov_same (g8.trans s85))
    generalize upd (upd H12 q4 (.tup [z2])) W (.lst [z1, V.ref x, V.ref q1, V.ref q3, V.ref q4]) = HW at *
    have hhW := hh6.mono k6
    have hbW := hb6.mono k6.tups
    have hxW := k6 _ _ h6 (fun _ z => nomatch z)
    have hezW := m6 _ _ hez ne6.1
    have pezW := paired_mono (fun _ _ => stays_pt _ _ _ _ k6.tups) pez
    clear s1 s2 s3 s4 s5 s35 s25 s85 hq1 hq2 hq3 hq4 hW d1 d2 t8 t7 t6 k6 m6 hh6 hb6 h6 hez pez g8 g12 mv7
    have tyH : ∀ {H' : Hp}, Same HW H' → TyX K H' (.ref x) (.ref CH) := fun g => .base (.ins (g _ _ hxW) HC.cl HC.ha HC.hn HC.htk HC.hm)
    have tyIH : TyI K HW (.ref x) := ⟨false, false, ⟨_, tyH (Same.refl _), HC.ki⟩, ⟨_, tyH (Same.refl _), HC.kb⟩, rfl⟩
    have each : ∀ y ∈ [z1, V.ref x, V.ref q1, V.ref q3, V.ref q4], PgOr K HW (pairsOf (onB arePair bs) bs.length) y false := fun y hy => by
      simp only [List.mem_cons, List.not_mem_nil, or_false] at hy
      rcases hy with rfl | rfl | rfl | rfl | rfl
      · exact pg_deep d1W
      · exact .inl ⟨⟨_, tyH (Same.refl _), HC.kt⟩, rfl⟩
      · exact .inr ⟨q1, _, [false], rfl, f1, by show 1 ≤ 1000; decide, .cons (.inl ⟨⟨_, tyH (Same.refl _), HC.kt⟩, rfl⟩) .nil, .inl ⟨rfl, rfl⟩⟩
      · exact .inr ⟨q3, _, [false], rfl, f3, by show 1 ≤ 1000; decide, .cons (.inr ⟨q2, _, rfl, f2, .inr ⟨_, _, rfl, tyIH, tyi_int _, .inl ⟨rfl, rfl⟩⟩⟩) .nil, .inl ⟨rfl, rfl⟩⟩
      · refine .inr ⟨q4, _, [false], rfl, f4, by show 1 ≤ 1000; decide, .cons ?_ .nil, .inl ⟨rfl, rfl⟩⟩
        rcases d2W with ⟨e, _⟩ | ⟨_, a, p, z, rfl, ha, hp⟩ | ⟨e, _⟩ | ⟨e, _⟩
        · omega
        · exact .inr ⟨a, _, rfl, ha, .inl ⟨by show 1 ≠ 2; decide, rfl⟩⟩
        · omega
        · omega
    refine ⟨W, rfl, ⟨_, SqL.of fW⟩, ?_⟩
    refine for_it (walk_list (K := K) (a := W) (xs := [z1, V.ref x, V.ref q1, V.ref q3, V.ref q4])) (fun j σ H9 => ∃ v6', σ = [some (.ref s0), some (.ref tp), some (.int (0 + (i : Int))), some (.ref r), some (.ref x), some (.ref e), v6', v7, v8, none] ∧ Same HW H9) ⟨_, rfl, Same.refl _⟩ (fun j σ H9 _ ⟨_, _, g⟩ => SqL.of (g _ _ fW)) ?_ ?_
    · rintro j y σ H9 H10 hj ⟨v6', rfl, g9⟩ ⟨rfl, hy⟩
      refine ⟨_, rfl, _, rfl, x, y, rfl, bs, false, hhW.mono (same_keep g9), okb, by omega, pgOr_same g9 (each y (List.mem_of_getElem? hy)), fun H11 g11 => ⟨false, false, rfl, _, rfl, iteF ?_⟩⟩
      exact ⟨_, rfl, g9.trans g11⟩
    rintro σ H9 ⟨v6', rfl, g9⟩
    have t9 := tW.same g9
    refine ⟨6, rfl, by decide, by decide, ?_⟩
    refine for_range (lo := 0) (n := 6) (fun j σ H10 => ∃ v6' v7' v8', σ = [some (.ref s0), some (.ref tp), some (.int (0 + (i : Int))), some (.ref r), some (.ref x), some (.ref e), v6', v7', v8', none] ∧ TapeAt H10 tp l ∧ Mov tp H9 H10) ⟨_, _, _, rfl, t9, Mov.refl _ _⟩ ?_ ?_
    rotate_left
    · rintro σ H10 ⟨v6', v7', v8', rfl, t10, _⟩
      exact ⟨_, _, _, _, _, _, _, rfl, t10⟩
    rintro j σ H10 hj ⟨v6'', v7', v8', rfl, t10, mv10⟩
    have nW6 := t9
    have ke := t9.keep mv10
    have k910 : Keep HW H10 := (same_keep g9).trans ke
    have he10 := mv10 _ _ (g9 _ _ hezW) ne6.1
    have pe10 := paired_mono (fun _ _ => stays_pt _ _ _ _ k910.tups) pezW
    have hh10 := hhW.mono k910
    have hb10 := hbW.mono k910.tups
    refine ⟨_, rfl, _, rfl, tp, e, rfl, l, ez, t10, he10, ne6.1, by omega, by omega, fun yv H11 hyv t11 mv11 => ?_⟩
    obtain ⟨m0, hm0⟩ := List.mem_iff_getElem?.mp hyv
    obtain ⟨t, ht, pt⟩ := paired_at pe10 m0 yv hm0
    have gt := (mus t).mp (List.mem_of_getElem? ht)
    have k11 := t10.keep mv11
    obtain ⟨ya, rfl, yz, hya, pyz⟩ := stays_pt _ _ _ _ k11.tups pt
    have ly := paired_len pyz
    have inm := pairs_inm (onB arePair bs) bs.length
    have lt8 := pairing_len inm gt.toPairing
    refine ⟨ya, rfl, ⟨_, SqT.of hya⟩, fun D hD => ?_⟩
    have nD := t11.new hD
    have sl : (1000 : Nat) < PySem.sizeLine := by decide
    refine lc_it (walk_tup (K := K) (a := ya) (xs := yz)) (fun m H12 => ∃ zs ts, H12 D = some (.lst zs) ∧ Paired (PrAt H12) zs ts ∧ (∀ p ∈ ts, p ∈ t) ∧ zs.length ≤ m ∧ TapeAt H12 tp l ∧ Mov tp H11 H12) ⟨[], [], upd_same, .nil, fun _ h => absurd h List.not_mem_nil, Nat.zero_le _, t11.upd nD, mov_mut (Mov.refl _ _) hD⟩ (fun m H12 _ ⟨_, _, _, _, _, _, _, mm⟩ => SqT.of ((t11.keep mm).tups _ _ hya)) ?_ ?_
    · rintro m y H12 H12' hm ⟨zs, ts, hz, pz, sub, lz, t12, m12⟩ ⟨rfl, hy⟩
      obtain ⟨p, hp, r0, rfl, hr0⟩ := paired_at pyz m y hy
      refine ⟨rfl, ?_⟩
      refine ⟨_, rfl, tp, 3, rfl, l, t12, by decide, by decide, fun u H13 u0 u3 t13 mv13 => ⟨_, _, rfl, rfl, _, rfl, ?_⟩⟩
      have k1213 := t12.keep mv13
      have hz13 := mv13 _ _ hz nD.1
      have pz13 := paired_mono (fun _ _ => stays_pr _ _ _ _ k1213.tups) pz
      refine ite2 (fun _ => ?_) (fun _ => ⟨zs, ts, hz13, pz13, sub, by omega, t13, m12.trans mv13⟩)
      have tl := tups_lst (vs := zs ++ [V.ref r0]) hz13
      refine ⟨_, rfl, zs, hz13, by omega, zs ++ [.ref r0], ts ++ [p], upd_same, paired_snoc (paired_mono (fun _ _ => stays_pr _ _ _ _ tl) pz13) ⟨r0, rfl, tl _ _ (k1213.tups _ _ ((t11.keep m12).tups _ _ hr0))⟩, fun c hc => ?_, by rw [List.length_append]; exact Nat.succ_le_succ lz, t13.upd nD, mov_mut (m12.trans mv13) hD⟩
      rcases List.mem_append.mp hc with h | h
      · exact sub c h
      · rw [List.mem_singleton.mp h]
        exact List.mem_of_getElem? hp
    rintro H12 ⟨zs, ts, hz, pz, sub, lz, t12, m12⟩
    refine ⟨D, zs, rfl, .inl ⟨SqL.of hz, fun y0 hy0 => ?_⟩⟩
    have gy := same_new (o := .tup zs) hy0
    have hy13 : upd H12 y0 (.tup zs) y0 = some (.tup zs) := upd_same
    have py := paired_mono (fun _ _ => stays_pr _ _ _ _ (tups_same gy)) pz
    have t13 := t12.same gy
    have m13 : Mov tp H9 (upd H12 y0 (.tup zs)) := mv10.trans (mv11.trans (m12.trans (mov_same gy)))
    generalize upd H12 y0 (.tup zs) = H13 at *
    have lts := paired_len py
    have rng : ∀ p ∈ ts, (0 ≤ p.1 ∧ p.1 < 8) ∧ 0 ≤ p.2 ∧ p.2 < 8 := fun p hp => by
      obtain ⟨a1, a2, a3, a4⟩ := inm p (gt.sub p (sub p hp))
      omega
    have k913 := t9.keep m13
    obtain ⟨bz, hbz, pbz⟩ := id ((hbW.mono (same_tups g9)).mono k913.tups)
    have lbz := paired_len pbz
    refine ⟨fun σ H' => ∃ y, σ = [some (.ref s0), some (.ref tp), some (.int (0 + (i : Int))), some (.ref r), some (.ref x), some (.ref e), some y, some (.int (0 + (j : Int))), v8', none] ∧ Thing K H' (pairsOf (onB arePair bs) bs.length) y ∧ TapeAt H' tp l ∧ Mov tp H9 H', ?_, ?_⟩
    · refine ⟨_, rfl, _, _, rfl, rfl, _, rfl, ?_⟩
      refine ite2 (fun _ => ?_) (fun _ => ?_)
      · exact ⟨_, rfl, _, rfl, _, rfl, tp, r, .ref y0, rfl, l, bz, ts, pairsOf (onB arePair bs) bs.length, t13, hbz, by omega, by omega, ⟨y0, rfl, zs, hy13, py⟩, by omega, rng, fun v H14 th t14 mv14 => ⟨_, rfl, th, t14, m13.trans mv14⟩⟩
      · refine ⟨_, rfl, thing_tup hy13 (by omega) fun y hy => ?_, t13, m13⟩
        obtain ⟨m1, hm1⟩ := List.mem_iff_getElem?.mp hy
        obtain ⟨p, hp, hpr⟩ := paired_at py m1 y hm1
        have := rng p (List.mem_of_getElem? hp)
        exact itm_pr hpr (by omega) (by omega)
    rintro σ H14 ⟨y, rfl, ⟨b, d, pg, sn, w, shd, w6⟩, t14, m14⟩
    refine ⟨_, rfl, y, d, w, rfl, sn, shd, w6, ?_⟩
    have k914 := t9.keep m14
    have hh14 := (hhW.mono (same_keep g9)).mono k914
    have hb14 := (hbW.mono (same_tups g9)).mono k914.tups
    refine ⟨_, rfl, _, rfl, x, y, rfl, bs, b, hh14, okb, by omega, pg, fun H15 g15 => ⟨_, rfl, _, rfl, r, y, rfl, bs, b, hb14.mono (same_tups g15), okb, by omega, pgOr_same g15 pg, fun H16 g16 => ⟨b, b, rfl, _, rfl, ?_⟩⟩⟩
    have g1416 := g15.trans g16
    rw [decide_eq_true (rfl : b = b)]
    refine iteF ⟨_, rfl, y, d, w, rfl, (Seen.same ⟨sn, w, shd, w6⟩ g1416).1, shd, w6, _, rfl, rfl, _, rfl, iteN (nt (by rw [decide_eq_true rfl]; rfl)) ?_⟩
    exact ⟨_, _, _, rfl, t14.same g1416, m14.trans (mov_same g1416)⟩
end
end K24
namespace K24
open PySem L2 Nm
theorem kit_own {K : PySem.W.Frag} {C : Addr} {t : String} (h : PySem.W.subIn K (.ref C) (.type t) = some false) (m : PySem.W.kitMeta t = true) : PySem.W.kitOne K (.ref C) (.type t) = some false := by
  unfold PySem.W.kitOne PySem.W.kitCls
  rw [if_neg (fun z => Bool.noConfusion z)]
  show (if PySem.W.kitMeta t = true then PySem.W.subIn K (.ref C) (.type t) else none) = some false
  rw [if_pos m]
  exact h
theorem all_mk {l : PySem.W.OpenLaw} {w : World} {K : PySem.W.Frag} {h : Heap} {mg : Str → Option Value} {fa CHall f1 f2 f3 f4 f5 f6 f7 f8 f9 f10 f11 f12 f13 f14 f15 f16 f17 f18 f19 f20 f21 f22 f23 f24 f25 f26 f27 f28 f29 f30 f31 f32 f33 f34 f35 f36 f37 : Addr} (X : K.In h) (G : h.Ns mainGlobals mg) (hfa : mg "law" = some (.ref fa))
    {od1 an1 od2 an2 od3 an3 od4 an4 od5 an5 od6 an6 od7 an7 od8 an8 od9 an9 od10 an10 od11 an11 od12 an12 od13 an13 od14 an14 od15 an15 od16 an16 od17 an17 od18 an18 od19 an19 od20 an20 od21 an21 od22 an22 od23 an23 od24 an24 od25 an25 od26 an26 od27 an27 od28 an28 od29 an29 od30 an30 od31 an31 od32 an32 od33 an33 od34 an34 od35 an35 od36 an36 od37 an37 : Option Addr} {sl1 sl2 sl3 sl4 sl5 sl6 sl7 sl8 sl9 sl10 sl11 sl12 sl13 sl14 sl15 sl16 sl17 sl18 sl19 sl20 sl21 sl22 sl23 sl24 sl25 sl26 sl27 sl28 sl29 sl30 sl31 sl32 sl33 sl34 sl35 sl36 sl37 : Array (Option Value)} {oc1 kV1 dc1 pm1 cd1 ct1 oc2 kV2 dc2 pm2 cd2 ct2 oc3 kV3 dc3 pm3 cd3 ct3 oc4 kV4 dc4 pm4 cd4 ct4 oc5 kV5 dc5 pm5 cd5 ct5 oc6 kV6 dc6 pm6 cd6 ct6 oc7 kV7 dc7 pm7 cd7 ct7 oc8 kV8 dc8 pm8 cd8 ct8 oc9 kV9 dc9 pm9 cd9 ct9 oc10 kV10 dc10 pm10 cd10 ct10 oc11 kV11 dc11 pm11 cd11 ct11 oc12 kV12 dc12 pm12 cd12 ct12 oc13 kV13 dc13 pm13 cd13 ct13 oc14 kV14 dc14 pm14 cd14 ct14 oc15 kV15 dc15 pm15 cd15 ct15 oc16 kV16 dc16 pm16 cd16 ct16 oc17 kV17 dc17 pm17 cd17 ct17 oc18 kV18 dc18 pm18 cd18 ct18 oc19 kV19 dc19 pm19 cd19 ct19 oc20 kV20 dc20 pm20 cd20 ct20 oc21 kV21 dc21 pm21 cd21 ct21 oc22 kV22 dc22 pm22 cd22 ct22 oc23 kV23 dc23 pm23 cd23 ct23 oc24 kV24 dc24 pm24 cd24 ct24 oc25 kV25 dc25 pm25 cd25 ct25 oc26 kV26 dc26 pm26 cd26 ct26 oc27 kV27 dc27 pm27 cd27 ct27 oc28 kV28 dc28 pm28 cd28 ct28 oc29 kV29 dc29 pm29 cd29 ct29 oc30 kV30 dc30 pm30 cd30 ct30 oc31 kV31 dc31 pm31 cd31 ct31 oc32 kV32 dc32 pm32 cd32 ct32 oc33 kV33 dc33 pm33 cd33 ct33 oc34 kV34 dc34 pm34 cd34 ct34 oc35 kV35 dc35 pm35 cd35 ct35 oc36 kV36 dc36 pm36 cd36 ct36 oc37 kV37 dc37 pm37 cd37 ct37 : Value} {tMOST_BEGUN tMOST_BOARDS_halls tMOST_BOARDS_pairs tMOST_PAIRINGS : Tok}
    (a_Hall : PySem.W.nsIn K mainGlobals "Hall" = some (some (.ref CHall)))
    (a1 : PySem.W.nsIn K mainGlobals "is_integer" = some (some (.ref f1)))
    (l1 : K.lookup f1 = some ⟨oc1, od1, .func (PySem.W.fnOf "is_integer" "is_integer" (defArgs s_is_integer) (defBody s_is_integer) (defScope s_is_integer) .none kV1 dc1 pm1 an1 cd1 ct1), sl1⟩)
    (c1 : PySem.W.codeIn K cd1 "is_integer" = true)
    (k1 : PySem.W.keepIn K (.ref f1) = true)
    (a2 : PySem.W.nsIn K mainGlobals "is_within" = some (some (.ref f2)))
    (l2 : K.lookup f2 = some ⟨oc2, od2, .func (PySem.W.fnOf "is_within" "is_within" (defArgs s_is_within) (defBody s_is_within) (defScope s_is_within) .none kV2 dc2 pm2 an2 cd2 ct2), sl2⟩)
    (c2 : PySem.W.codeIn K cd2 "is_within" = true)
    (k2 : PySem.W.keepIn K (.ref f2) = true)
    (a3 : PySem.W.nsIn K mainGlobals "is_side" = some (some (.ref f3)))
    (l3 : K.lookup f3 = some ⟨oc3, od3, .func (PySem.W.fnOf "is_side" "is_side" (defArgs s_is_side) (defBody s_is_side) (defScope s_is_side) .none kV3 dc3 pm3 an3 cd3 ct3), sl3⟩)
    (c3 : PySem.W.codeIn K cd3 "is_side" = true)
    (k3 : PySem.W.keepIn K (.ref f3) = true)
    (a4 : PySem.W.nsIn K mainGlobals "is_lettered" = some (some (.ref f4)))
    (l4 : K.lookup f4 = some ⟨oc4, od4, .func (PySem.W.fnOf "is_lettered" "is_lettered" (defArgs s_is_lettered) (defBody s_is_lettered) (defScope s_is_lettered) .none kV4 dc4 pm4 an4 cd4 ct4), sl4⟩)
    (c4 : PySem.W.codeIn K cd4 "is_lettered" = true)
    (k4 : PySem.W.keepIn K (.ref f4) = true)
    (a5 : PySem.W.nsIn K mainGlobals "is_name" = some (some (.ref f5)))
    (l5 : K.lookup f5 = some ⟨oc5, od5, .func (PySem.W.fnOf "is_name" "is_name" (defArgs s_is_name) (defBody s_is_name) (defScope s_is_name) .none kV5 dc5 pm5 an5 cd5 ct5), sl5⟩)
    (c5 : PySem.W.codeIn K cd5 "is_name" = true)
    (k5 : PySem.W.keepIn K (.ref f5) = true)
    (a6 : PySem.W.nsIn K mainGlobals "is_word" = some (some (.ref f6)))
    (l6 : K.lookup f6 = some ⟨oc6, od6, .func (PySem.W.fnOf "is_word" "is_word" (defArgs s_is_word) (defBody s_is_word) (defScope s_is_word) .none kV6 dc6 pm6 an6 cd6 ct6), sl6⟩)
    (c6 : PySem.W.codeIn K cd6 "is_word" = true)
    (k6 : PySem.W.keepIn K (.ref f6) = true)
    (a7 : PySem.W.nsIn K mainGlobals "is_words" = some (some (.ref f7)))
    (l7 : K.lookup f7 = some ⟨oc7, od7, .func (PySem.W.fnOf "is_words" "is_words" (defArgs s_is_words) (defBody s_is_words) (defScope s_is_words) .none kV7 dc7 pm7 an7 cd7 ct7), sl7⟩)
    (c7 : PySem.W.codeIn K cd7 "is_words" = true)
    (k7 : PySem.W.keepIn K (.ref f7) = true)
    (a8 : PySem.W.nsIn K mainGlobals "is_board" = some (some (.ref f8)))
    (l8 : K.lookup f8 = some ⟨oc8, od8, .func (PySem.W.fnOf "is_board" "is_board" (defArgs s_is_board) (defBody s_is_board) (defScope s_is_board) .none kV8 dc8 pm8 an8 cd8 ct8), sl8⟩)
    (c8 : PySem.W.codeIn K cd8 "is_board" = true)
    (k8 : PySem.W.keepIn K (.ref f8) = true)
    (a9 : PySem.W.nsIn K mainGlobals "names_of" = some (some (.ref f9)))
    (l9 : K.lookup f9 = some ⟨oc9, od9, .func (PySem.W.fnOf "names_of" "names_of" (defArgs s_names_of) (defBody s_names_of) (defScope s_names_of) .none kV9 dc9 pm9 an9 cd9 ct9), sl9⟩)
    (c9 : PySem.W.codeIn K cd9 "names_of" = true)
    (k9 : PySem.W.keepIn K (.ref f9) = true)
    (a10 : PySem.W.findIn K (.ref CHall) "__init__" = some (some (.ref f10)))
    (i10 : PySem.W.isFn K (.ref f10) = true)
    (l10 : K.lookup f10 = some ⟨oc10, od10, .func (PySem.W.fnOf "__init__" "Hall.__init__" (defArgs s_Hall___init__) (defBody s_Hall___init__) (defScope s_Hall___init__) .none kV10 dc10 pm10 an10 cd10 ct10), sl10⟩)
    (c10 : PySem.W.codeIn K cd10 "Hall.__init__" = true)
    (k10 : PySem.W.keepIn K (.ref f10) = true)
    (a11 : PySem.W.nsIn K mainGlobals "_law_tape" = some (some (.ref f11)))
    (l11 : K.lookup f11 = some ⟨oc11, od11, .func (PySem.W.fnOf "_law_tape" "_law_tape" (defArgs s__law_tape) (defBody s__law_tape) (defScope s__law_tape) .none kV11 dc11 pm11 an11 cd11 ct11), sl11⟩)
    (c11 : PySem.W.codeIn K cd11 "_law_tape" = true)
    (k11 : PySem.W.keepIn K (.ref f11) = true)
    (a12 : PySem.W.nsIn K mainGlobals "_law_pick" = some (some (.ref f12)))
    (l12 : K.lookup f12 = some ⟨oc12, od12, .func (PySem.W.fnOf "_law_pick" "_law_pick" (defArgs s__law_pick) (defBody s__law_pick) (defScope s__law_pick) .none kV12 dc12 pm12 an12 cd12 ct12), sl12⟩)
    (c12 : PySem.W.codeIn K cd12 "_law_pick" = true)
    (k12 : PySem.W.keepIn K (.ref f12) = true)
    (a13 : PySem.W.nsIn K mainGlobals "are_pair" = some (some (.ref f13)))
    (l13 : K.lookup f13 = some ⟨oc13, od13, .func (PySem.W.fnOf "are_pair" "are_pair" (defArgs s_are_pair) (defBody s_are_pair) (defScope s_are_pair) .none kV13 dc13 pm13 an13 cd13 ct13), sl13⟩)
    (c13 : PySem.W.codeIn K cd13 "are_pair" = true)
    (k13 : PySem.W.keepIn K (.ref f13) = true)
    (a14 : PySem.W.nsIn K mainGlobals "pairs_of" = some (some (.ref f14)))
    (l14 : K.lookup f14 = some ⟨oc14, od14, .func (PySem.W.fnOf "pairs_of" "pairs_of" (defArgs s_pairs_of) (defBody s_pairs_of) (defScope s_pairs_of) .none kV14 dc14 pm14 an14 cd14 ct14), sl14⟩)
    (c14 : PySem.W.codeIn K cd14 "pairs_of" = true)
    (k14 : PySem.W.keepIn K (.ref f14) = true)
    (a15 : PySem.W.nsIn K mainGlobals "pairs" = some (some (.ref f15)))
    (l15 : K.lookup f15 = some ⟨oc15, od15, .func (PySem.W.fnOf "pairs" "pairs" (defArgs s_pairs) (defBody s_pairs) (defScope s_pairs) .none kV15 dc15 pm15 an15 cd15 ct15), sl15⟩)
    (c15 : PySem.W.codeIn K cd15 "pairs" = true)
    (k15 : PySem.W.keepIn K (.ref f15) = true)
    (a16 : PySem.W.nsIn K mainGlobals "_law_some" = some (some (.ref f16)))
    (l16 : K.lookup f16 = some ⟨oc16, od16, .func (PySem.W.fnOf "_law_some" "_law_some" (defArgs s__law_some) (defBody s__law_some) (defScope s__law_some) .none kV16 dc16 pm16 an16 cd16 ct16), sl16⟩)
    (c16 : PySem.W.codeIn K cd16 "_law_some" = true)
    (k16 : PySem.W.keepIn K (.ref f16) = true)
    (a17 : PySem.W.nsIn K mainGlobals "_law_word" = some (some (.ref f17)))
    (l17 : K.lookup f17 = some ⟨oc17, od17, .func (PySem.W.fnOf "_law_word" "_law_word" (defArgs s__law_word) (defBody s__law_word) (defScope s__law_word) .none kV17 dc17 pm17 an17 cd17 ct17), sl17⟩)
    (c17 : PySem.W.codeIn K cd17 "_law_word" = true)
    (k17 : PySem.W.keepIn K (.ref f17) = true)
    (a18 : PySem.W.nsIn K mainGlobals "_law_line" = some (some (.ref f18)))
    (l18 : K.lookup f18 = some ⟨oc18, od18, .func (PySem.W.fnOf "_law_line" "_law_line" (defArgs s__law_line) (defBody s__law_line) (defScope s__law_line) .none kV18 dc18 pm18 an18 cd18 ct18), sl18⟩)
    (c18 : PySem.W.codeIn K cd18 "_law_line" = true)
    (k18 : PySem.W.keepIn K (.ref f18) = true)
    (a19 : PySem.W.nsIn K mainGlobals "_law_boards" = some (some (.ref f19)))
    (l19 : K.lookup f19 = some ⟨oc19, od19, .func (PySem.W.fnOf "_law_boards" "_law_boards" (defArgs s__law_boards) (defBody s__law_boards) (defScope s__law_boards) .none kV19 dc19 pm19 an19 cd19 ct19), sl19⟩)
    (c19 : PySem.W.codeIn K cd19 "_law_boards" = true)
    (k19 : PySem.W.keepIn K (.ref f19) = true)
    (a20 : PySem.W.nsIn K mainGlobals "_law_are_pair" = some (some (.ref f20)))
    (l20 : K.lookup f20 = some ⟨oc20, od20, .func (PySem.W.fnOf "_law_are_pair" "_law_are_pair" (defArgs s__law_are_pair) (defBody s__law_are_pair) (defScope s__law_are_pair) .none kV20 dc20 pm20 an20 cd20 ct20), sl20⟩)
    (c20 : PySem.W.codeIn K cd20 "_law_are_pair" = true)
    (k20 : PySem.W.keepIn K (.ref f20) = true)
    (a21 : PySem.W.nsIn K mainGlobals "_law_pairs" = some (some (.ref f21)))
    (l21 : K.lookup f21 = some ⟨oc21, od21, .func (PySem.W.fnOf "_law_pairs" "_law_pairs" (defArgs s__law_pairs) (defBody s__law_pairs) (defScope s__law_pairs) .none kV21 dc21 pm21 an21 cd21 ct21), sl21⟩)
    (c21 : PySem.W.codeIn K cd21 "_law_pairs" = true)
    (k21 : PySem.W.keepIn K (.ref f21) = true)
    (a22 : PySem.W.nsIn K mainGlobals "clashes_of" = some (some (.ref f22)))
    (l22 : K.lookup f22 = some ⟨oc22, od22, .func (PySem.W.fnOf "clashes_of" "clashes_of" (defArgs s_clashes_of) (defBody s_clashes_of) (defScope s_clashes_of) .none kV22 dc22 pm22 an22 cd22 ct22), sl22⟩)
    (c22 : PySem.W.codeIn K cd22 "clashes_of" = true)
    (k22 : PySem.W.keepIn K (.ref f22) = true)
    (a23 : PySem.W.nsIn K mainGlobals "filled" = some (some (.ref f23)))
    (l23 : K.lookup f23 = some ⟨oc23, od23, .func (PySem.W.fnOf "filled" "filled" (defArgs s_filled) (defBody s_filled) (defScope s_filled) .none kV23 dc23 pm23 an23 cd23 ct23), sl23⟩)
    (c23 : PySem.W.codeIn K cd23 "filled" = true)
    (k23 : PySem.W.keepIn K (.ref f23) = true)
    (a24 : PySem.W.nsIn K mainGlobals "greatest_pairings" = some (some (.ref f24)))
    (l24 : K.lookup f24 = some ⟨oc24, od24, .func (PySem.W.fnOf "greatest_pairings" "greatest_pairings" (defArgs s_greatest_pairings) (defBody s_greatest_pairings) (defScope s_greatest_pairings) .none kV24 dc24 pm24 an24 cd24 ct24), sl24⟩)
    (c24 : PySem.W.codeIn K cd24 "greatest_pairings" = true)
    (k24 : PySem.W.keepIn K (.ref f24) = true)
    (a25 : PySem.W.nsIn K mainGlobals "is_ascending" = some (some (.ref f25)))
    (l25 : K.lookup f25 = some ⟨oc25, od25, .func (PySem.W.fnOf "is_ascending" "is_ascending" (defArgs s_is_ascending) (defBody s_is_ascending) (defScope s_is_ascending) .none kV25 dc25 pm25 an25 cd25 ct25), sl25⟩)
    (c25 : PySem.W.codeIn K cd25 "is_ascending" = true)
    (k25 : PySem.W.keepIn K (.ref f25) = true)
    (a26 : PySem.W.nsIn K mainGlobals "are_apart" = some (some (.ref f26)))
    (l26 : K.lookup f26 = some ⟨oc26, od26, .func (PySem.W.fnOf "are_apart" "are_apart" (defArgs s_are_apart) (defBody s_are_apart) (defScope s_are_apart) .none kV26 dc26 pm26 an26 cd26 ct26), sl26⟩)
    (c26 : PySem.W.codeIn K cd26 "are_apart" = true)
    (k26 : PySem.W.keepIn K (.ref f26) = true)
    (a27 : PySem.W.nsIn K mainGlobals "is_couple" = some (some (.ref f27)))
    (l27 : K.lookup f27 = some ⟨oc27, od27, .func (PySem.W.fnOf "is_couple" "is_couple" (defArgs s_is_couple) (defBody s_is_couple) (defScope s_is_couple) .none kV27 dc27 pm27 an27 cd27 ct27), sl27⟩)
    (c27 : PySem.W.codeIn K cd27 "is_couple" = true)
    (k27 : PySem.W.keepIn K (.ref f27) = true)
    (a28 : PySem.W.nsIn K mainGlobals "is_pairing_of" = some (some (.ref f28)))
    (l28 : K.lookup f28 = some ⟨oc28, od28, .func (PySem.W.fnOf "is_pairing_of" "is_pairing_of" (defArgs s_is_pairing_of) (defBody s_is_pairing_of) (defScope s_is_pairing_of) .none kV28 dc28 pm28 an28 cd28 ct28), sl28⟩)
    (c28 : PySem.W.codeIn K cd28 "is_pairing_of" = true)
    (k28 : PySem.W.keepIn K (.ref f28) = true)
    (a29 : PySem.W.nsIn K mainGlobals "is_pairing" = some (some (.ref f29)))
    (l29 : K.lookup f29 = some ⟨oc29, od29, .func (PySem.W.fnOf "is_pairing" "is_pairing" (defArgs s_is_pairing) (defBody s_is_pairing) (defScope s_is_pairing) .none kV29 dc29 pm29 an29 cd29 ct29), sl29⟩)
    (c29 : PySem.W.codeIn K cd29 "is_pairing" = true)
    (k29 : PySem.W.keepIn K (.ref f29) = true)
    (a30 : PySem.W.nsIn K mainGlobals "check_boards" = some (some (.ref f30)))
    (l30 : K.lookup f30 = some ⟨oc30, od30, .func (PySem.W.fnOf "check_boards" "check_boards" (defArgs s_check_boards) (defBody s_check_boards) (defScope s_check_boards) .none kV30 dc30 pm30 an30 cd30 ct30), sl30⟩)
    (c30 : PySem.W.codeIn K cd30 "check_boards" = true)
    (k30 : PySem.W.keepIn K (.ref f30) = true)
    (a31 : PySem.W.nsIn K mainGlobals "pairings" = some (some (.ref f31)))
    (l31 : K.lookup f31 = some ⟨oc31, od31, .func (PySem.W.fnOf "pairings" "pairings" (defArgs s_pairings) (defBody s_pairings) (defScope s_pairings) .none kV31 dc31 pm31 an31 cd31 ct31), sl31⟩)
    (c31 : PySem.W.codeIn K cd31 "pairings" = true)
    (k31 : PySem.W.keepIn K (.ref f31) = true)
    (a32 : PySem.W.nsIn K mainGlobals "_law_flag" = some (some (.ref f32)))
    (l32 : K.lookup f32 = some ⟨oc32, od32, .func (PySem.W.fnOf "_law_flag" "_law_flag" (defArgs s__law_flag) (defBody s__law_flag) (defScope s__law_flag) .none kV32 dc32 pm32 an32 cd32 ct32), sl32⟩)
    (c32 : PySem.W.codeIn K cd32 "_law_flag" = true)
    (k32 : PySem.W.keepIn K (.ref f32) = true)
    (a33 : PySem.W.nsIn K mainGlobals "_law_int" = some (some (.ref f33)))
    (l33 : K.lookup f33 = some ⟨oc33, od33, .func (PySem.W.fnOf "_law_int" "_law_int" (defArgs s__law_int) (defBody s__law_int) (defScope s__law_int) .none kV33 dc33 pm33 an33 cd33 ct33), sl33⟩)
    (c33 : PySem.W.codeIn K cd33 "_law_int" = true)
    (k33 : PySem.W.keepIn K (.ref f33) = true)
    (a34 : PySem.W.nsIn K mainGlobals "_law_is_pairing" = some (some (.ref f34)))
    (l34 : K.lookup f34 = some ⟨oc34, od34, .func (PySem.W.fnOf "_law_is_pairing" "_law_is_pairing" (defArgs s__law_is_pairing) (defBody s__law_is_pairing) (defScope s__law_is_pairing) .none kV34 dc34 pm34 an34 cd34 ct34), sl34⟩)
    (c34 : PySem.W.codeIn K cd34 "_law_is_pairing" = true)
    (k34 : PySem.W.keepIn K (.ref f34) = true)
    (a35 : PySem.W.nsIn K mainGlobals "_law_deep" = some (some (.ref f35)))
    (l35 : K.lookup f35 = some ⟨oc35, od35, .func (PySem.W.fnOf "_law_deep" "_law_deep" (defArgs s__law_deep) (defBody s__law_deep) (defScope s__law_deep) .none kV35 dc35 pm35 an35 cd35 ct35), sl35⟩)
    (c35 : PySem.W.codeIn K cd35 "_law_deep" = true)
    (k35 : PySem.W.keepIn K (.ref f35) = true)
    (a36 : PySem.W.nsIn K mainGlobals "_law_bent" = some (some (.ref f36)))
    (l36 : K.lookup f36 = some ⟨oc36, od36, .func (PySem.W.fnOf "_law_bent" "_law_bent" (defArgs s__law_bent) (defBody s__law_bent) (defScope s__law_bent) .none kV36 dc36 pm36 an36 cd36 ct36), sl36⟩)
    (c36 : PySem.W.codeIn K cd36 "_law_bent" = true)
    (k36 : PySem.W.keepIn K (.ref f36) = true)
    (a37 : PySem.W.nsIn K mainGlobals "law" = some (some (.ref f37)))
    (l37 : K.lookup f37 = some ⟨oc37, od37, .func (PySem.W.fnOf "law" "law" (defArgs s_law) (defBody s_law) (defScope s_law) .none kV37 dc37 pm37 an37 cd37 ct37), sl37⟩)
    (c37 : PySem.W.codeIn K cd37 "law" = true)
    (k37 : PySem.W.keepIn K (.ref f37) = true)
    (hc_a : PySem.W.findIn K (.ref CHall) "__class__" = some (some (.builtin "object.__class__")))
    (hc_n : PySem.W.specialIn K (.builtin "object.__class__") "__get__" = some (some (.builtin "getset_descriptor.__get__")))
    (hc_t : PySem.W.takesIn K (.builtin "object.__class__") = some true)
    (hc_m : PySem.W.mroIn K CHall (.type "object") = some true)
    (hc_kt : PySem.W.subIn K (.ref CHall) (.type "tuple") = some false)
    (hc_ks : PySem.W.subIn K (.ref CHall) (.type "str") = some false)
    (hc_ki : PySem.W.subIn K (.ref CHall) (.type "int") = some false)
    (hc_kb : PySem.W.subIn K (.ref CHall) (.type "bool") = some false)
    (pg_Hall : PySem.W.plainGet K CHall Str.empty = true)
    (hd_Hall : PySem.W.hasDictIn K CHall = true)
    (po_Hall : PySem.W.plainOver K CHall = true)
    (sa_Hall : PySem.W.findIn K (.ref CHall) "__setattr__" = some (some (.builtin "object.__setattr__")))
    (mk_Hall : PySem.W.makesIn K CHall = true)
    (kc_Hall : PySem.W.keepIn K (.ref CHall) = true)
    (n_Hall_boards : PySem.W.findIn K (.ref CHall) "boards" = some none)
    (n_Hall_names : PySem.W.findIn K (.ref CHall) "names" = some none)
    (z_all : PySem.W.nsIn K mainGlobals "all" = some none)
    (z_bool : PySem.W.nsIn K mainGlobals "bool" = some none)
    (z_enumerate : PySem.W.nsIn K mainGlobals "enumerate" = some none)
    (z_int : PySem.W.nsIn K mainGlobals "int" = some none)
    (z_isinstance : PySem.W.nsIn K mainGlobals "isinstance" = some none)
    (z_len : PySem.W.nsIn K mainGlobals "len" = some none)
    (z_list : PySem.W.nsIn K mainGlobals "list" = some none)
    (z_max : PySem.W.nsIn K mainGlobals "max" = some none)
    (z_range : PySem.W.nsIn K mainGlobals "range" = some none)
    (z_repr : PySem.W.nsIn K mainGlobals "repr" = some none)
    (z_set : PySem.W.nsIn K mainGlobals "set" = some none)
    (z_sorted : PySem.W.nsIn K mainGlobals "sorted" = some none)
    (z_str : PySem.W.nsIn K mainGlobals "str" = some none)
    (z_sum : PySem.W.nsIn K mainGlobals "sum" = some none)
    (z_tuple : PySem.W.nsIn K mainGlobals "tuple" = some none)
    (z_zip : PySem.W.nsIn K mainGlobals "zip" = some none)
    (g_MOST_BEGUN : PySem.W.nsIn K mainGlobals "MOST_BEGUN" = some (some (.int 20 tMOST_BEGUN)))
    (g_MOST_BOARDS_halls : PySem.W.nsIn K mainGlobals "MOST_BOARDS_halls" = some (some (.int 12 tMOST_BOARDS_halls)))
    (g_MOST_BOARDS_pairs : PySem.W.nsIn K mainGlobals "MOST_BOARDS_pairs" = some (some (.int 24 tMOST_BOARDS_pairs)))
    (g_MOST_PAIRINGS : PySem.W.nsIn K mainGlobals "MOST_PAIRINGS" = some (some (.int 2000 tMOST_PAIRINGS))) :
    ∃ fd : FuncData, (∀ (s : Shared) (v : Value), BindsTo s fd ⟨[v], []⟩ [("script", v)]) ∧ ∀ base : Heap, K.In base → base.Ns mainGlobals mg → Nm.FnG l.prog w K mg base 10 fa fd ["script"] (sp_law K) := by
  have e := hfa.symm.trans (PySem.W.mg_of X G a37)
  cases e
  have F1 := fun_mk (st := s_is_integer) l1 c1 k1
  have F2 := fun_mk (st := s_is_within) l2 c2 k2
  have F3 := fun_mk (st := s_is_side) l3 c3 k3
  have F4 := fun_mk (st := s_is_lettered) l4 c4 k4
  have F5 := fun_mk (st := s_is_name) l5 c5 k5
  have F6 := fun_mk (st := s_is_word) l6 c6 k6
  have F7 := fun_mk (st := s_is_words) l7 c7 k7
  have F8 := fun_mk (st := s_is_board) l8 c8 k8
  have F9 := fun_mk (st := s_names_of) l9 c9 k9
  have F10 := fun_mk (st := s_Hall___init__) l10 c10 k10
  have F11 := fun_mk (st := s__law_tape) l11 c11 k11
  have F12 := fun_mk (st := s__law_pick) l12 c12 k12
  have F13 := fun_mk (st := s_are_pair) l13 c13 k13
  have F14 := fun_mk (st := s_pairs_of) l14 c14 k14
  have F15 := fun_mk (st := s_pairs) l15 c15 k15
  have F16 := fun_mk (st := s__law_some) l16 c16 k16
  have F17 := fun_mk (st := s__law_word) l17 c17 k17
  have F18 := fun_mk (st := s__law_line) l18 c18 k18
  have F19 := fun_mk (st := s__law_boards) l19 c19 k19
  have F20 := fun_mk (st := s__law_are_pair) l20 c20 k20
  have F21 := fun_mk (st := s__law_pairs) l21 c21 k21
  have F22 := fun_mk (st := s_clashes_of) l22 c22 k22
  have F23 := fun_mk (st := s_filled) l23 c23 k23
  have F24 := fun_mk (st := s_greatest_pairings) l24 c24 k24
  have F25 := fun_mk (st := s_is_ascending) l25 c25 k25
  have F26 := fun_mk (st := s_are_apart) l26 c26 k26
  have F27 := fun_mk (st := s_is_couple) l27 c27 k27
  have F28 := fun_mk (st := s_is_pairing_of) l28 c28 k28
  have F29 := fun_mk (st := s_is_pairing) l29 c29 k29
  have F30 := fun_mk (st := s_check_boards) l30 c30 k30
  have F31 := fun_mk (st := s_pairings) l31 c31 k31
  have F32 := fun_mk (st := s__law_flag) l32 c32 k32
  have F33 := fun_mk (st := s__law_int) l33 c33 k33
  have F34 := fun_mk (st := s__law_is_pairing) l34 c34 k34
  have F35 := fun_mk (st := s__law_deep) l35 c35 k35
  have F36 := fun_mk (st := s__law_bent) l36 c36 k36
  have F37 := fun_mk (st := s_law) l37 c37 k37
  have T : Txt K mg := ⟨⟨_, _, F1, PySem.W.mg_of X G a1⟩,
    ⟨_, _, F2, PySem.W.mg_of X G a2⟩,
    ⟨_, _, F3, PySem.W.mg_of X G a3⟩,
    ⟨_, _, F4, PySem.W.mg_of X G a4⟩,
    ⟨_, _, F5, PySem.W.mg_of X G a5⟩,
    ⟨_, _, F6, PySem.W.mg_of X G a6⟩,
    ⟨_, _, F7, PySem.W.mg_of X G a7⟩,
    ⟨_, _, F8, PySem.W.mg_of X G a8⟩,
    ⟨_, _, F9, PySem.W.mg_of X G a9⟩,
    ⟨_, _, F11, PySem.W.mg_of X G a11⟩,
    ⟨_, _, F12, PySem.W.mg_of X G a12⟩,
    ⟨_, _, F13, PySem.W.mg_of X G a13⟩,
    ⟨_, _, F14, PySem.W.mg_of X G a14⟩,
    ⟨_, _, F15, PySem.W.mg_of X G a15⟩,
    ⟨_, _, F16, PySem.W.mg_of X G a16⟩,
    ⟨_, _, F17, PySem.W.mg_of X G a17⟩,
    ⟨_, _, F18, PySem.W.mg_of X G a18⟩,
    ⟨_, _, F19, PySem.W.mg_of X G a19⟩,
    ⟨_, _, F20, PySem.W.mg_of X G a20⟩,
    ⟨_, _, F21, PySem.W.mg_of X G a21⟩,
    ⟨_, _, F22, PySem.W.mg_of X G a22⟩,
    ⟨_, _, F23, PySem.W.mg_of X G a23⟩,
    ⟨_, _, F24, PySem.W.mg_of X G a24⟩,
    ⟨_, _, F25, PySem.W.mg_of X G a25⟩,
    ⟨_, _, F26, PySem.W.mg_of X G a26⟩,
    ⟨_, _, F27, PySem.W.mg_of X G a27⟩,
    ⟨_, _, F28, PySem.W.mg_of X G a28⟩,
    ⟨_, _, F29, PySem.W.mg_of X G a29⟩,
    ⟨_, _, F30, PySem.W.mg_of X G a30⟩,
    ⟨_, _, F31, PySem.W.mg_of X G a31⟩,
    ⟨_, _, F32, PySem.W.mg_of X G a32⟩,
    ⟨_, _, F33, PySem.W.mg_of X G a33⟩,
    ⟨_, _, F34, PySem.W.mg_of X G a34⟩,
    ⟨_, _, F35, PySem.W.mg_of X G a35⟩,
    ⟨_, _, F36, PySem.W.mg_of X G a36⟩,
    ⟨_, _, F37, PySem.W.mg_of X G a37⟩,
    PySem.W.mg_none_of X G z_all,
    PySem.W.mg_none_of X G z_bool,
    PySem.W.mg_none_of X G z_enumerate,
    PySem.W.mg_none_of X G z_int,
    PySem.W.mg_none_of X G z_isinstance,
    PySem.W.mg_none_of X G z_len,
    PySem.W.mg_none_of X G z_list,
    PySem.W.mg_none_of X G z_max,
    PySem.W.mg_none_of X G z_range,
    PySem.W.mg_none_of X G z_repr,
    PySem.W.mg_none_of X G z_set,
    PySem.W.mg_none_of X G z_sorted,
    PySem.W.mg_none_of X G z_str,
    PySem.W.mg_none_of X G z_sum,
    PySem.W.mg_none_of X G z_tuple,
    PySem.W.mg_none_of X G z_zip,
    ⟨_, PySem.W.mg_of X G g_MOST_BEGUN, ⟨_, rfl⟩⟩,
    ⟨_, PySem.W.mg_of X G g_MOST_BOARDS_halls, ⟨_, rfl⟩⟩,
    ⟨_, PySem.W.mg_of X G g_MOST_BOARDS_pairs, ⟨_, rfl⟩⟩,
    ⟨_, PySem.W.mg_of X G g_MOST_PAIRINGS, ⟨_, rfl⟩⟩,
    ⟨_, _, _, ⟨pg_Hall, hd_Hall, po_Hall, sa_Hall⟩, ⟨mk_Hall, a10, i10, kc_Hall⟩, PySem.W.mg_of X G a_Hall, F10, n_Hall_boards, n_Hall_names⟩,
    fun C h => by
      have e := h.symm.trans (PySem.W.mg_of X G a_Hall)
      cases e
      exact ⟨⟨pg_Hall, hd_Hall, po_Hall, sa_Hall⟩, hc_a, hc_n, hc_t, hc_m, kit_own hc_kt (by decide +kernel), kit_own hc_ks (by decide +kernel), kit_own hc_ki (by decide +kernel), kit_own hc_kb (by decide +kernel)⟩⟩
  exact ⟨PySem.W.fnOf "law" "law" (defArgs s_law) (defBody s_law) (defScope s_law) .none kV37 dc37 pm37 an37 cd37 ct37, fun s v => .of_eq rfl, fun base _ _ => ok_law F37 T⟩
theorem walk {l : PySem.W.OpenLaw} {q : Program} {loose : List Str} {XP : (Str → Option Value) → Heap → Prop} {YP : World → Heap → Prop} {d : DefRec} {K : Params → PySem.W.Frag} (hn : l.most = some 63) (hdf : d.params.defaults = [])
    (hY : ∀ (w : World) (h : Heap), YP w h → (K w.params).In h)
    (F : ∀ (w : World) (mg : Str → Option Value) (fa : Addr) (h : Heap), (K w.params).In h → h.Ns mainGlobals mg → mg d.name = some (.ref fa) →
      ∃ fd : FuncData, (∀ (s : Shared) (u : Value), BindsTo s fd ⟨[u], []⟩ [("script", u)]) ∧ ∀ base : Heap, (K w.params).In base → base.Ns mainGlobals mg → Nm.FnG l.prog w (K w.params) mg base 10 fa fd ["script"] (sp_law (K w.params))) :
    PySem.W.WalkO q loose XP YP l.row.toRowW d [] (fun f vs => PySem.call f vs) :=
  Nm.walk_ofG (n := 63) (k := 10) (x := "script") (sp := fun w => sp_law (K w.params)) hn (by decide) hdf ⟨rfl, by decide, by decide⟩ hY F (fun _ _ a ns hS => ⟨a, ns, rfl, hS, fun _ => rfl⟩)
end K24
open PySem PySem.W PyProof.Rows
set_option maxRecDepth 100000 in
set_option maxHeartbeats 0 in
theorem PySem.Challenge.cw_untoldgames_k24_pairings_judged_holds : PySem.Challenge.rw_untoldgames_k24_pairings_judged.Holds := by
  w_on; o_law; k_head; (case hw => w_witness2)
  k_fill
  refine K24.walk (l := PySem.Challenge.rw_untoldgames_k24_pairings_judged) rfl rfl (fun w h Y => PySem.W.kIn_of Y) ?F
  case F =>
    intro w mg fa h KX G hmg
    refine' K24.all_mk KX G hmg ?a_Hall ?a1 ?l1 ?c1 ?k1 ?a2 ?l2 ?c2 ?k2 ?a3 ?l3 ?c3 ?k3 ?a4 ?l4 ?c4 ?k4 ?a5 ?l5 ?c5 ?k5 ?a6 ?l6 ?c6 ?k6 ?a7 ?l7 ?c7 ?k7 ?a8 ?l8 ?c8 ?k8 ?a9 ?l9 ?c9 ?k9 ?a10 ?i10 ?l10 ?c10 ?k10 ?a11 ?l11 ?c11 ?k11 ?a12 ?l12 ?c12 ?k12 ?a13 ?l13 ?c13 ?k13 ?a14 ?l14 ?c14 ?k14 ?a15 ?l15 ?c15 ?k15 ?a16 ?l16 ?c16 ?k16 ?a17 ?l17 ?c17 ?k17 ?a18 ?l18 ?c18 ?k18 ?a19 ?l19 ?c19 ?k19 ?a20 ?l20 ?c20 ?k20 ?a21 ?l21 ?c21 ?k21 ?a22 ?l22 ?c22 ?k22 ?a23 ?l23 ?c23 ?k23 ?a24 ?l24 ?c24 ?k24 ?a25 ?l25 ?c25 ?k25 ?a26 ?l26 ?c26 ?k26 ?a27 ?l27 ?c27 ?k27 ?a28 ?l28 ?c28 ?k28 ?a29 ?l29 ?c29 ?k29 ?a30 ?l30 ?c30 ?k30 ?a31 ?l31 ?c31 ?k31 ?a32 ?l32 ?c32 ?k32 ?a33 ?l33 ?c33 ?k33 ?a34 ?l34 ?c34 ?k34 ?a35 ?l35 ?c35 ?k35 ?a36 ?l36 ?c36 ?k36 ?a37 ?l37 ?c37 ?k37 ?hc_a ?hc_n ?hc_t ?hc_m ?hc_kt ?hc_ks ?hc_ki ?hc_kb ?pg_Hall ?hd_Hall ?po_Hall ?sa_Hall ?mk_Hall ?kc_Hall ?n_Hall_boards ?n_Hall_names ?z_all ?z_bool ?z_enumerate ?z_int ?z_isinstance ?z_len ?z_list ?z_max ?z_range ?z_repr ?z_set ?z_sorted ?z_str ?z_sum ?z_tuple ?z_zip ?g_MOST_BEGUN ?g_MOST_BOARDS_halls ?g_MOST_BOARDS_pairs ?g_MOST_PAIRINGS
    (case a_Hall => k_is)
    (case a1 => k_is)
    (case l1 => k_is)
    (case c1 => k_is)
    (case k1 => k_is)
    (case a2 => k_is)
    (case l2 => k_is)
    (case c2 => k_is)
    (case k2 => k_is)
    (case a3 => k_is)
    (case l3 => k_is)
    (case c3 => k_is)
    (case k3 => k_is)
    (case a4 => k_is)
    (case l4 => k_is)
    (case c4 => k_is)
    (case k4 => k_is)
    (case a5 => k_is)
    (case l5 => k_is)
    (case c5 => k_is)
    (case k5 => k_is)
    (case a6 => k_is)
    (case l6 => k_is)
    (case c6 => k_is)
    (case k6 => k_is)
    (case a7 => k_is)
    (case l7 => k_is)
    (case c7 => k_is)
    (case k7 => k_is)
    (case a8 => k_is)
    (case l8 => k_is)
    (case c8 => k_is)
    (case k8 => k_is)
    (case a9 => k_is)
    (case l9 => k_is)
    (case c9 => k_is)
    (case k9 => k_is)
    (case a10 => k_is)
    (case i10 => k_is)
    (case l10 => k_is)
    (case c10 => k_is)
    (case k10 => k_is)
    (case a11 => k_is)
    (case l11 => k_is)
    (case c11 => k_is)
    (case k11 => k_is)
    (case a12 => k_is)
    (case l12 => k_is)
    (case c12 => k_is)
    (case k12 => k_is)
    (case a13 => k_is)
    (case l13 => k_is)
    (case c13 => k_is)
    (case k13 => k_is)
    (case a14 => k_is)
    (case l14 => k_is)
    (case c14 => k_is)
    (case k14 => k_is)
    (case a15 => k_is)
    (case l15 => k_is)
    (case c15 => k_is)
    (case k15 => k_is)
    (case a16 => k_is)
    (case l16 => k_is)
    (case c16 => k_is)
    (case k16 => k_is)
    (case a17 => k_is)
    (case l17 => k_is)
    (case c17 => k_is)
    (case k17 => k_is)
    (case a18 => k_is)
    (case l18 => k_is)
    (case c18 => k_is)
    (case k18 => k_is)
    (case a19 => k_is)
    (case l19 => k_is)
    (case c19 => k_is)
    (case k19 => k_is)
    (case a20 => k_is)
    (case l20 => k_is)
    (case c20 => k_is)
    (case k20 => k_is)
    (case a21 => k_is)
    (case l21 => k_is)
    (case c21 => k_is)
    (case k21 => k_is)
    (case a22 => k_is)
    (case l22 => k_is)
    (case c22 => k_is)
    (case k22 => k_is)
    (case a23 => k_is)
    (case l23 => k_is)
    (case c23 => k_is)
    (case k23 => k_is)
    (case a24 => k_is)
    (case l24 => k_is)
    (case c24 => k_is)
    (case k24 => k_is)
    (case a25 => k_is)
    (case l25 => k_is)
    (case c25 => k_is)
    (case k25 => k_is)
    (case a26 => k_is)
    (case l26 => k_is)
    (case c26 => k_is)
    (case k26 => k_is)
    (case a27 => k_is)
    (case l27 => k_is)
    (case c27 => k_is)
    (case k27 => k_is)
    (case a28 => k_is)
    (case l28 => k_is)
    (case c28 => k_is)
    (case k28 => k_is)
    (case a29 => k_is)
    (case l29 => k_is)
    (case c29 => k_is)
    (case k29 => k_is)
    (case a30 => k_is)
    (case l30 => k_is)
    (case c30 => k_is)
    (case k30 => k_is)
    (case a31 => k_is)
    (case l31 => k_is)
    (case c31 => k_is)
    (case k31 => k_is)
    (case a32 => k_is)
    (case l32 => k_is)
    (case c32 => k_is)
    (case k32 => k_is)
    (case a33 => k_is)
    (case l33 => k_is)
    (case c33 => k_is)
    (case k33 => k_is)
    (case a34 => k_is)
    (case l34 => k_is)
    (case c34 => k_is)
    (case k34 => k_is)
    (case a35 => k_is)
    (case l35 => k_is)
    (case c35 => k_is)
    (case k35 => k_is)
    (case a36 => k_is)
    (case l36 => k_is)
    (case c36 => k_is)
    (case k36 => k_is)
    (case a37 => k_is)
    (case l37 => k_is)
    (case c37 => k_is)
    (case k37 => k_is)
    (case hc_a => k_is)
    (case hc_n => k_is)
    (case hc_t => k_is)
    (case hc_m => k_is)
    (case hc_kt => k_is)
    (case hc_ks => k_is)
    (case hc_ki => k_is)
    (case hc_kb => k_is)
    (case pg_Hall => k_is)
    (case hd_Hall => k_is)
    (case po_Hall => k_is)
    (case sa_Hall => k_is)
    (case mk_Hall => k_is)
    (case kc_Hall => k_is)
    (case n_Hall_boards => k_is)
    (case n_Hall_names => k_is)
    (case z_all => k_is)
    (case z_bool => k_is)
    (case z_enumerate => k_is)
    (case z_int => k_is)
    (case z_isinstance => k_is)
    (case z_len => k_is)
    (case z_list => k_is)
    (case z_max => k_is)
    (case z_range => k_is)
    (case z_repr => k_is)
    (case z_set => k_is)
    (case z_sorted => k_is)
    (case z_str => k_is)
    (case z_sum => k_is)
    (case z_tuple => k_is)
    (case z_zip => k_is)
    (case g_MOST_BEGUN => k_is)
    (case g_MOST_BOARDS_halls => k_is)
    (case g_MOST_BOARDS_pairs => k_is)
    (case g_MOST_PAIRINGS => k_is)
#print axioms PySem.Challenge.cw_untoldgames_k24_pairings_judged_holds
