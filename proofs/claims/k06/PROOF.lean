import PyProof.Rows.All
import Wide.All
import OpenK.AllK
import Wide.FinOn
import HandS.ForMost
import HandS.SetBool
import PyProof.Rows.SortShellAny
import KE.GoesMore
import KE.GoesEnum
import HandS.Walk
import HandS.TupMul
import HandS.Codes
import HandS.IsInst
import HandS.Zip
import HandS.SortRule
import HandS.Deep
import KE.LtData
import HandS.TupAny
import PyProof.Rows.StrMeet
import PyProof.Rows.SortKeyStr
import HandS.DictComp
import HandS.DictTup
import HandS.Conv
import HandS.Style
import KE.KDictSum
import KE.KDictDisplayH
import HandS.SortKw
import KE.DatumOrd
import PyProof.ReprRoads
import HandS.WordsDict
import KE.GoesZip
import PyProof.ReprLen
import HandS.TupLe
import HandS.Steps
import HandS.Flow
import PySem.Challenge.RW_untoldgames_k06_whole_what_a_knowing_gue
set_option Elab.async false
set_option linter.all false
set_option maxRecDepth 100000
set_option maxHeartbeats 4000000
/-! Sets of texts: what stands there, a text more, a comprehension that makes one, sorted of it. -/
namespace Nm
open PySem PySem.Spec PyProof.Rows L2
section
variable {P : Program} {w : World} {A : Around} {E : Value → Shared → Prop} {s : Shared} {a : Addr} {o : Obj}
/-- the end of an addition: the set is stored, and laid out anew if it is too full -/
theorem tailG {g : Bool → Sem Unit} (hg : ∀ (b : Bool) (z : Shared) (U : Unit → Shared → Prop), U () z → wpAny (model P w) A (g b) U E z)
    {es fs : Array (Int × Value)} {ep : Nat} {t u : SetTable} {dm : Bool} {R : Option Bool → Shared → Prop}
    (ho : s.heap.get? a = some o) (hd : o.data = .set es ep t) (hb : fs.size < scanBound) (hf : u.fits fs.size = true) (hr : Ris u.place.toList)
    (hR : ∀ h' (es' : Array (Int × Value)) (ep' : Nat) (t' : SetTable), Heap.SameBut a s.heap h' → h'.get? a = some { o with data := .set es' ep' t' } → es'.toList.Perm fs.toList → t'.fits es'.size = true →
      Ris t'.place.toList → t'.led = u.led → R (some true) { s with heap := h' }) :
    wpAny (model P w) A (do
        storeSet a fs u
        if (!dm && u.tooFull) = true then do
            g (relayAll u fs (SetTable.grown fs.size)).2.2
            storeSet a (relayAll u fs (SetTable.grown fs.size)).1 (relayAll u fs (SetTable.grown fs.size)).2.1
            pure (some true)
          else pure (some true)) R E s := by
  have at1 := store_at (es' := fs) (t' := u) ho hd
  have same1 := Heap.SameBut.update s.heap a (Obj.putSet fs u)
  refine wpAny_bind (wpAny_storeSet_of ho hd ?_ (fits_of_scanBound hb))
  split
  · have perm := relayAll_perm u fs (SetTable.grown fs.size)
    have fit3 := relayAll_fits u fs (SetTable.grown fs.size)
    have ris3 := relayAll_ris u fs (SetTable.grown fs.size)
    have led3 := relayAll_led u fs (SetTable.grown fs.size)
    generalize relayAll u fs (SetTable.grown fs.size) = Z at perm fit3 ris3 led3 ⊢
    obtain ⟨gs, v, gave⟩ := Z
    dsimp only at perm fit3 ris3 led3 ⊢
    have size3 : gs.size = fs.size := by
      have q := perm.length_eq
      rwa [Array.length_toList, Array.length_toList] at q
    refine wpAny_bind (hg _ _ _ ?_)
    refine wpAny_bind (wpAny_storeSet_of at1 rfl ?_ (fits_of_scanBound (by rw [size3]; exact hb)))
    have at3 := store_at (es' := gs) (t' := v) at1 rfl
    exact wpAny_pure (hR _ gs _ v (same1.trans (Heap.SameBut.update _ a _)) at3 perm fit3 ris3 led3)
  · exact wpAny_pure (hR _ fs _ u same1 at1 (List.Perm.refl _) hf hr rfl)
/-- a key is added whose hash is known: it is there, or it comes in -/
theorem addG {κ : Type} [DecidableEq κ] {knd : PySem.KeyKind P w κ} {k : κ} {x : Value} {es : Array (Int × Value)} {ep : Nat} {t : SetTable} {Q : Bool → Shared → Prop}
    (hk : knd.is k x = true) (hx : x.scannable = true) (ho : s.heap.get? a = some o) (hd : o.data = .set es ep t) (hel : ElemsOf knd es.toList) (hb : es.size + 1 < scanBound) (hf : t.fits es.size = true) (hr : Ris t.place.toList)
    (old : (∃ e ∈ es.toList, knd.is k e.2 = true) → Q false s)
    (new : (∀ e ∈ es.toList, knd.is k e.2 = false) → ∀ h' (es' : Array (Int × Value)) (ep' : Nat) (t' : SetTable), Heap.SameBut a s.heap h' → h'.get? a = some { o with data := .set es' ep' t' } →
      es'.toList.Perm ((knd.hash k, x) :: es.toList) → t'.fits es'.size = true → Ris t'.place.toList → t'.led = t.led → Q true { s with heap := h' }) :
    wpAny (model P w) A (setAddHashed a x (knd.hash k)) Q E s := by
  unfold setAddHashed setAddHashedIn
  refine wpAny_holding (wpAny_bind (wpAny_setState_of ho hd hf ?_))
  dsimp only
  rw [byScan_of hx (Nat.lt_of_succ_lt hb) hel]
  simp only [↓reduceIte]
  unfold setAddByScan
  refine wpAny_bind (wpAny_bind (wpAny_rule ?_))
  refine wpAny_bind (wpAny_setScan_of hk ho hd hf hel ?_)
  cases met : List.findIdx? (fun e => knd.is k e.2) es.toList with
  | some j =>
    dsimp only
    obtain ⟨hj, pj, _⟩ := List.findIdx?_eq_some_iff_getElem.mp met
    exact wpAny_pure (wpAny_pure (old ⟨_, List.getElem_mem hj, pj⟩))
  | none =>
    dsimp only
    have no : ∀ e ∈ es.toList, knd.is k e.2 = false := fun e he => List.findIdx?_eq_none_iff.mp met e he
    have gw : ∀ (b : Bool) {z : Shared} {U : Unit → Shared → Prop}, U () z → wpAny (model P w) A (match b with | true => rule "set.scan.the-table-gave-way" | false => pure ()) U E z := fun b z U q => by
      cases b
      · exact wpAny_pure q
      · exact wpAny_rule q
    have perm := layNew_perm t es (knd.hash k) x
    have fit1 := layNew_fits t es (knd.hash k) x
    have ris1 := layNew_ris t es (knd.hash k) x hr
    have led1 := layNew_led t es (knd.hash k) x
    generalize layNew t es (knd.hash k) x = Z at perm fit1 ris1 led1 ⊢
    obtain ⟨fs, u, dm, gave⟩ := Z
    dsimp only at perm fit1 ris1 led1 ⊢
    rw [Array.toList_push] at perm
    have pc : fs.toList.Perm ((knd.hash k, x) :: es.toList) := perm.trans (List.perm_append_singleton _ _)
    have size1 : fs.size < scanBound := by
      have q := pc.length_eq
      rw [List.length_cons, Array.length_toList, Array.length_toList] at q
      omega
    have fin : ∀ (u' : SetTable), u'.led = u.led → ∀ h' (es' : Array (Int × Value)) (ep' : Nat) (t' : SetTable), Heap.SameBut a s.heap h' → h'.get? a = some { o with data := .set es' ep' t' } → es'.toList.Perm fs.toList →
        t'.fits es'.size = true → Ris t'.place.toList → t'.led = u'.led → Q true { s with heap := h' } := fun u' e h' es' ep' t' sb g p f r l =>
      new no h' es' ep' t' sb g (p.trans pc) f r (l.trans (e.trans led1))
    refine wpAny_bind (gw _ ?_)
    split
    · refine wpAny_bind ?_
      rw [hashByValue_scannable 8 hx]
      refine wpAny_pure ?_
      refine tailG ?_ ho hd size1 ?_ ?_ ?_
      · intro b z U q
        cases b
        · exact wpAny_pure q
        · exact wpAny_rule q
      · first
          | exact fit1
          | (split <;> first | exact fit1 | exact SetTable.fits_plain_off fit1)
      · first
          | exact ris1
          | (split <;> exact ris1)
      · intro h' es' ep' t' sb g p f r l
        dsimp only
        refine wpAny_pure (fin _ ?_ h' es' ep' t' sb g p f r l)
        first
          | rfl
          | (split <;> rfl)
    · refine wpAny_bind (wpAny_pure ?_)
      simp only [↓reduceIte]
      refine tailG ?_ ho hd size1 fit1 ris1 ?_
      · intro b z U q
        cases b
        · exact wpAny_pure q
        · exact wpAny_rule q
      · intro h' es' ep' t' sb g p f r l
        dsimp only
        exact wpAny_pure (fin u rfl h' es' ep' t' sb g p f r l)
end
/-! ### a set of texts -/
def nm (e : Int × Value) : Str := match e.2 with | .str x _ => x | _ => Str.empty
def Tx (w : World) (e : Int × Value) : Prop := ∃ x t, e.2 = Value.str x t ∧ e.1 = hashStr w x
/-- the set at a has just the texts ks, each once -/
def Has (w : World) (h : Heap) (a : Addr) (ks : List Str) : Prop :=
  ∃ o es ep t, h.get? a = some o ∧ o.ExactSet ∧ o.data = .set es ep t ∧ (∀ e ∈ es.toList, Tx w e) ∧ (es.toList.map nm).Perm ks ∧ ks.Nodup ∧ ks.length < scanBound ∧ t.fits es.size = true ∧ Ris t.place.toList ∧
    (w.params.followText "set-order" = true ∨ t.led = true)
def plus (ks : List Str) (k : Str) : List Str := if k ∈ ks then ks else k :: ks
section
variable {P : Program} {w : World} {A : Around} {E : Value → Shared → Prop} {s : Shared} {a : Addr} {ks : List Str} {h h' : Heap}
theorem Has.at (R : Has w h a ks) (k : ∀ o, h.get? a = some o → h'.get? a = some o) : Has w h' a ks := by
  obtain ⟨o, es, ep, t, ho, r⟩ := R
  exact ⟨o, es, ep, t, k o ho, r⟩
theorem tx_elems {l : List (Int × Value)} (g : ∀ e ∈ l, Tx w e) : ElemsOf (strKind P w) l := fun e he => by
  obtain ⟨x, t, e1, e2⟩ := g e he
  refine ⟨⟨x, ?_, e2⟩, ?_⟩
  · rw [e1]
    exact strKind_is P w x t
  · rw [e1]
    rfl
theorem tx_is {e : Int × Value} (g : Tx w e) (k : Str) : (strKind P w).is k e.2 = true ↔ nm e = k := by
  obtain ⟨x, t, e1, _⟩ := g
  have n : nm e = x := by unfold nm; rw [e1]
  rw [n, e1]
  constructor
  · intro q
    exact (strKind P w).inj _ _ _ (strKind_is P w x t) q
  · intro q
    subst q
    exact strKind_is P w x t
theorem size_of {es : Array (Int × Value)} (p : (es.toList.map nm).Perm ks) : es.size = ks.length := by
  have q := p.length_eq
  rwa [List.length_map, Array.length_toList] at q
/-- one text more -/
theorem add_raw {k : Str} {tk : Tok} {Q : Value → Shared → Prop} (R : Has w s.heap a ks) (room : ks.length + 1 < scanBound)
    (hQ : ∀ h', Heap.SameBut a s.heap h' → Has w h' a (plus ks k) → Q .none { s with heap := h', toks := s.toks + 1 }) :
    wpAny (model P w) A (call (.builtin "set.add") [.ref a, .str k tk]) Q E s := by
  obtain ⟨o, es, ep, t, ho, hex, hd, g, pm, nd, hb, hf, hr, hl⟩ := R
  have hsz := size_of pm
  have hS : s.TypeIs (.ref a) "set" := ⟨o, ho, hex.1⟩
  refine wpAny_call_entry F.slot_set_add hS F.entry_set_add ?_ (F.args_set_add_2 _ _)
  unfold Builtin.«set.add» Builtin.Frozenset.oneOther
  simp only [List.isEmpty_nil, bind_assoc]
  unfold Builtin.Frozenset.addrOf setAdd
  refine wpAny_bind (wpAny_pure ?_)
  try dsimp only
  refine wpAny_bind (wpAny_pure ?_)
  try dsimp only
  refine wpAny_bind (wpAny_holding (wpAny_bind ((strKind P w).pyHash (strKind_is P w k tk) ?_)))
  have mem : (∃ e ∈ es.toList, (strKind P w).is k e.2 = true) ↔ k ∈ ks := by
    rw [← pm.mem_iff, List.mem_map]
    exact ⟨fun ⟨e, he, q⟩ => ⟨e, he, (tx_is (g e he) k).1 q⟩, fun ⟨e, he, q⟩ => ⟨e, he, (tx_is (g e he) k).2 q⟩⟩
  refine addG (knd := strKind P w) (s := { s with toks := s.toks + 1 }) (strKind_is P w k tk) rfl ho hd (tx_elems g) (by rw [hsz]; exact room) hf hr ?_ ?_
  · intro there
    have hk : k ∈ ks := mem.1 there
    have ek : plus ks k = ks := if_pos hk
    refine wpAny_pure ⟨_, rfl, hQ s.heap (Heap.SameBut.refl a s.heap) ?_⟩
    rw [ek]
    exact ⟨o, es, ep, t, ho, hex, hd, g, pm, nd, hb, hf, hr, hl⟩
  · intro no h' es' ep' t' sb ho' p f r l
    have hk : k ∉ ks := fun z => by
      obtain ⟨e, he, q⟩ := mem.2 z
      rw [no e he] at q
      cases q
    have ek : plus ks k = k :: ks := if_neg hk
    refine wpAny_pure ⟨_, rfl, hQ h' sb ?_⟩
    rw [ek]
    refine ⟨_, es', ep', t', ho', hex, rfl, fun e he => ?_, ?_, List.nodup_cons.mpr ⟨hk, nd⟩, room, f, r, hl.imp id fun z => l.trans z⟩
    · rcases List.mem_cons.mp (p.mem_iff.mp he) with z | z
      · rw [z]
        exact ⟨k, tk, rfl, rfl⟩
      · exact g e z
    · exact (p.map nm).trans (pm.cons k)
theorem has_fresh {h : Heap} (w : World) : Has w (h.push { cls := .type "set", dict := none, data := .set #[] 0 (.fresh 0 0 (!w.params.followText "set-order")) }) h.objs.size [] := by
  refine ⟨_, #[], 0, _, Heap.get?_push_size _ rfl, ⟨rfl, rfl, rfl⟩, rfl, (fun e he => by simp at he), List.Perm.refl _, List.nodup_nil, by decide, by rfl, List.Pairwise.nil, ?_⟩
  show _ ∨ (!w.params.followText "set-order") = true
  cases w.params.followText "set-order" with
  | false => exact .inr rfl
  | true => exact .inl rfl
end
/-- a set of texts as a tracked thing -/
def TxO (w : World) (a : Addr) (ks : List Str) : HO := .ext fun h => Has w h a ks
theorem txO_new {w : World} {P : Program} {H : Hp} {h : Heap} {a : Addr} {ks : List Str} (R : Has w h a ks) : ObjOk P w H h a (TxO w a ks) := by
  have ⟨o, _, _, _, ho, _⟩ := R
  exact ⟨R, ⟨o, ho⟩, fun h1 h2 p k => Has.at p k⟩
section
variable {X : Cx}
theorem txO_get {pins : List (Addr × Obj)} {σ : L2.St} {H : Hp} {s : Shared} {a : Addr} {ks : List Str} (I : Inv X pins σ H s) (ha : H a = some (TxO X.w a ks)) : Has X.w s.heap a ks := (I.hok a _ ha).1
theorem add_ok {pins : List (Addr × Obj)} {σ : L2.St} {H : Hp} {s : Shared} {E : Value → Shared → Prop} {D : Addr} {ks : List Str} {k : Str} {tk : Tok} {Q : Value → Shared → Prop} (I : Inv X pins σ H s) (hD : H D = some (TxO X.w D ks)) (room : ks.length + 1 < scanBound)
    (q : ∀ s', Inv X pins σ (upd H D (TxO X.w D (plus ks k))) s' → Q .none s') : wpAny (model X.prog X.w) X.A (call (.builtin "set.add") [.ref D, .str k tk]) Q E s := by
  refine add_raw (txO_get I hD) room fun h' sb new => ?_
  have there : ∃ u, h'.get? D = some u := by
    obtain ⟨o, _, _, _, ho, _⟩ := new
    exact ⟨o, ho⟩
  exact q _ (I.write (e := D) (t' := s.toks + 1) (by rw [hD]; trivial) (.inl rfl) (fun b u hb hu => (sb.2 b hb).trans hu) there (txO_new new))
/-! ### sorted of it -/
def rSortTx (w : World) : List V → Hp → VK → Prop := fun vs H Q => ∃ (a : Addr) (ks : List Str), vs = [V.ref a] ∧ H a = some (TxO w a ks) ∧ ks.length < 64 ∧
  ∀ (ys : List Str) (p : Addr), ys.Perm ks → sortedS ys = true → H p = none → Q (.ref p) (upd H p (.lst (ys.map V.str)))
end
/-- all of them, each once -/
def gathered (xs : List Str) : List Str := xs.foldl plus []
theorem plus_mem {ks : List Str} {k x : Str} : x ∈ plus ks k ↔ x = k ∨ x ∈ ks := by
  unfold plus
  by_cases h : k ∈ ks
  · rw [if_pos h]
    exact ⟨.inr, fun z => z.elim (fun e => e ▸ h) id⟩
  · rw [if_neg h, List.mem_cons]
theorem plus_nd {ks : List Str} {k : Str} (nd : ks.Nodup) : (plus ks k).Nodup := by
  unfold plus
  by_cases h : k ∈ ks
  · rw [if_pos h]
    exact nd
  · rw [if_neg h]
    exact List.nodup_cons.mpr ⟨h, nd⟩
theorem plus_len (ks : List Str) (k : Str) : (plus ks k).length ≤ ks.length + 1 := by
  unfold plus
  by_cases h : k ∈ ks
  · rw [if_pos h]
    exact Nat.le_succ _
  · rw [if_neg h]
    exact Nat.le_refl _
theorem fold_facts : ∀ (xs ks : List Str), ks.Nodup → (xs.foldl plus ks).Nodup ∧ (∀ x, x ∈ xs.foldl plus ks ↔ x ∈ xs ∨ x ∈ ks) ∧ (xs.foldl plus ks).length ≤ ks.length + xs.length
  | [], ks, nd => ⟨nd, fun x => by simp, by simp⟩
  | k :: xs, ks, nd => by
    obtain ⟨h1, h2, h3⟩ := fold_facts xs (plus ks k) (plus_nd nd)
    refine ⟨h1, fun x => ?_, ?_⟩
    · rw [List.foldl_cons, h2 x, plus_mem, List.mem_cons]
      constructor
      · rintro (h | h | h)
        · exact .inl (.inr h)
        · exact .inl (.inl h)
        · exact .inr h
      · rintro ((h | h) | h)
        · exact .inr (.inl h)
        · exact .inl h
        · exact .inr (.inr h)
    · rw [List.foldl_cons, List.length_cons]
      have := plus_len ks k
      omega
theorem gathered_facts (xs : List Str) : (gathered xs).Nodup ∧ (∀ x, x ∈ gathered xs ↔ x ∈ xs) ∧ (gathered xs).length ≤ xs.length := by
  obtain ⟨h1, h2, h3⟩ := fold_facts xs [] List.nodup_nil
  refine ⟨h1, fun x => ?_, ?_⟩
  · show x ∈ xs.foldl plus [] ↔ _
    rw [h2 x]
    simp
  · show (xs.foldl plus []).length ≤ xs.length
    simpa using h3
theorem gathered_snoc (xs : List Str) (k : Str) : gathered (xs ++ [k]) = plus (gathered xs) k := by
  unfold gathered
  rw [List.foldl_append]
  rfl
end Nm
namespace Nm
open PySem PySem.Spec PyProof.Rows L2
section
variable {P : Program} {w : World} {A : Around} {E : Value → Shared → Prop} {s : Shared} {a : Addr}
theorem strs_of : ∀ (l : List Value) (ks : List Str), Paired (fun v k => ∃ t, v = Value.str k t) l ks → StrsAre l ks
  | _, _, .nil => .nil
  | _, _, .cons h r => by
    obtain ⟨t, e⟩ := h
    subst e
    exact .cons _ t (strs_of _ _ r)
def tx (v : Value) : Str := match v with | .str x _ => x | _ => Str.empty
theorem strs_tx : ∀ (l : List Value), (∀ v ∈ l, ∃ x t, v = Value.str x t) → StrsAre l (l.map tx)
  | [], _ => .nil
  | v :: l, h => by
    obtain ⟨x, t, e⟩ := h v List.mem_cons_self
    subst e
    exact .cons x t (strs_tx l fun u hu => h u (List.mem_cons_of_mem _ hu))
theorem sorted_raw {ks : List Str} {Q : Value → Shared → Prop} (R : Has w s.heap a ks) (hh : A.handled = none)
    (hQ : ∀ s' p (out : Array Value) (c : Nat) (ys : List Str), (∀ b o, s.heap.get? b = some o → s'.heap.get? b = some o) → s'.gens = s.gens → s'.os = s.os → s.heap.objs.size ≤ p →
      s'.heap.get? p = some (seqObj "list" out c) → StrsAre out.toList ys → ys.Perm ks → sortedS ys = true → Q (.ref p) s') :
    wpAny (model P w) A (call (.builtin "sorted") [.ref a]) Q E s := by
  obtain ⟨o, es, ep, t, ho, hex, hd, g, pm, nd, hb, hf, hr, hl⟩ := R
  have hsz := size_of pm
  refine Calls.call_function_entry kind_sorted plain_sorted entry_sorted (args_sorted1 _) ?_
  unfold Builtin.«sorted»
  refine wpAny_bind (m := checkCount "sorted" 1 1 _) (wpAny_pure ?_)
  refine wpAny_bind (collect_set (A := A.in1) hh ⟨o, ho, hex.1, hd⟩ hf (by rw [hsz]; exact hb) hr hl fun s1 vs k1 hz g1 o1 q => ?_)
  have len : vs.length ≤ sizeLine := by
    have z : vs.length = es.size := by rw [q.length_eq, List.length_map, Array.length_toList]
    rw [z, hsz]
    exact fits_of_scanBound hb
  have hS : StrsAre vs (vs.map tx) := strs_tx vs fun v hv => by
    obtain ⟨e, he, z⟩ := List.mem_map.mp (q.mem_iff.mp hv)
    obtain ⟨x, tk, h1, _⟩ := g e he
    exact ⟨x, tk, by rw [← z]; exact h1⟩
  have pk : (vs.map tx).Perm ks := by
    have z := q.map tx
    rw [List.map_map] at z
    exact z.trans pm
  refine wpAny_bind (wpAny_newList ?_ len)
  have hoL : (s1.heap.push (seqObj "list" vs.toArray 0)).get? s1.heap.objs.size = some (seqObj "list" vs.toArray 0) := Heap.get?_push_size _ rfl
  refine wpAny_bind (wpAny_holding (wpAny_call_entry slot_list_sort ⟨_, hoL, rfl⟩ entry_list_sort
    (list_sort_treeKAny strKind_oneLt hoL hS.keysOf (fun v₁ v₂ rest e => keyKind_strs (by rw [← e]; exact hS)) len fun st' hp hs => ?_) (args_list_sort _)))
  obtain ⟨ys, b1, b2, b3⟩ := sorted_out_str hS hp hs
  obtain ⟨c, hc⟩ := sortedHeap_at (vs := vs) (out := (arrOf st').map (·.2)) hoL
  refine ⟨_, rfl, wpAny_pure ⟨_, rfl, hQ _ s1.heap.objs.size _ c ys (fun b u e => ?_) g1 o1 hz hc b1 (b2.trans pk) b3⟩⟩
  have z := k1 b u e
  have lt := Heap.lt_size z
  show (sortedHeap (s1.heap.push (seqObj "list" vs.toArray 0)) s1.heap.objs.size vs ((arrOf st').map (·.2))).get? b = some u
  rw [sortedHeap_old (Nat.ne_of_lt lt) (by rw [size_push']; exact Nat.lt_succ_of_lt lt)]
  exact Heap.get?_push_of_some _ z
end
section
variable {X : Cx}
theorem cr_sortTx (hc : X.calm = true) : CallR X (.builtin "sorted") (rSortTx X.w) := by
  intro pins s σ H vs us Q I r h
  obtain ⟨a, ks, rfl, ha, h64, q⟩ := h
  rw [Vals.ref1 r]
  refine sorted_raw (txO_get I ha) (I.ok.hd hc) fun s' p out c ys k g o hp hg hS pm so => ?_
  have len : (ys.map V.str).length ≤ sizeLine := by
    rw [List.length_map, pm.length_eq]
    exact small64 h64
  have hn : H p = none := I.hok.fresh hp
  have J : Inv X pins σ (upd H p (.lst (ys.map V.str))) { s with heap := s'.heap, gens := s'.gens, drawn := s'.drawn, toks := s'.toks } :=
    I.call (ch := []) (Un.laid k hp hn) (I.hok.laid k hp ⟨len, out.toList, c, vals_of_strs hS, hg⟩) (by rw [g]; exact I.bare) (fun _ z => nomatch z)
  have e : s' = { s with heap := s'.heap, gens := s'.gens, drawn := s'.drawn, toks := s'.toks } := by
    cases s'
    cases s
    cases o
    rfl
  rw [e]
  exact ⟨.ref p, _, J, rfl, q ys p pm so hn⟩
end
end Nm
namespace Nm
open PySem PySem.Spec PyProof.Rows L2
section
variable {X : Cx}
/-- what a set display by a walk asks, its element being a text -/
def tNm (w : World) (wi : TI) (g : TG) (te : TE) (vs : List Nat) : TE := fun σ H Q => wi σ H fun J H1 => ∀ D, H1 D = none → ∃ W : Nat → Nat → Hp → Prop,
  (∃ m, W 0 m (upd H1 D (TxO w D []))) ∧ ∀ i m H, W i m H → (J.stop i H ∧ Q (.ref D) H) ∨ (J.go i H ∧ ∃ Nx : Hp → Prop, (∀ H', Nx H' → ∃ m', m' < m ∧ W (i + 1) m' H') ∧
    ∀ x H', J.yld i H x H' → g x (wipe σ vs) H' fun σ2 H2 => wipe σ2 vs = wipe σ vs ∧ te σ2 H2 fun y H4 =>
      ∃ (c : Str) (ks : List Str), y = .str c ∧ H4 D = some (TxO w D ks) ∧ ks.length + 1 < scanBound ∧ Nx (upd H4 D (TxO w D (plus ks c))))
/-- a new set as the model makes it -/
abbrev setObj (X : Cx) : Obj := { cls := .type "set", dict := none, data := .set #[] 0 (.fresh 0 0 (!X.w.params.followText "set-order")) }
theorem pe_nm {elt tg iter : Expr} {scope : Scope} {own : List (PySem.Str × Nat)} {pos : Pos} {wi : TI} {g : TG} {te : TE} (hc : X.calm = true) (hN : X.N.Nodup) (hi : PI X tg iter wi) (ok : BlkOk X.N X.env.scope scope own)
    (hg : ∀ (s : Shared) (H : Hp) (C : Addr) (cl : List (PySem.Str × Addr)) (fp : List Addr), PG (X.blk s H scope (compEnvC scope cl C X.env) fp) tg g)
    (he : ∀ (s : Shared) (H : Hp) (C : Addr) (cl : List (PySem.Str × Addr)) (fp : List Addr), PE (X.blk s H scope (compEnvC scope cl C X.env) fp) elt te)
    (hs : ∀ x, foldedSetIterable iter X.env x = pure x := by intro _; rfl) : PE X (.SetComp elt [⟨tg, iter, [], 0⟩] scope pos) (tNm X.w wi g te (own.map (·.2))) := by
  refine ⟨fun pins s σ H Q I h => ?_⟩
  rw [PpSet.eval_SetComp]
  have closed : ∀ y ∈ scope.names, y.2 = .free → ∃ c, X.env.cells.lookup y.1 = some c := fun y hy e => (ok.free y hy e).elim (fun k => I.ok.has _ (.inl k)) fun k => I.ok.has _ (.inr k)
  refine wpAny_comprehension_free (use := none) rfl hs (closure_ok closed) ok.kind (fun y hy e => by rw [ok.uniq y hy, e]) (thn (hi.run pins s σ H _ I h) fun xv s1 hx => thn hx fun itv s2 h2 => ?_)
  obtain ⟨it, fp, tn, J, H2, e, I2, T, st2, f2, q⟩ := h2
  subst e
  refine PpSet.newSet_ok (newEnv_comp ?_)
  generalize hD : s2.heap.objs.size = D
  have hDn : H2 D = none := I2.hok.fresh (Nat.le_of_eq hD)
  obtain ⟨W, ⟨m0, w0⟩, turn⟩ := q D hDn
  generalize hs3 : ({ s2 with heap := s2.heap.push (setObj X) } : Shared) = s3
  have h3 : s3.heap = s2.heap.push (setObj X) := by rw [← hs3]
  generalize hH3 : upd H2 D (TxO X.w D []) = H3 at w0
  have I3 : Inv X pins σ H3 s3 := by
    rw [← hs3, ← hH3]
    refine I2.laid (t' := s2.toks) (fun b o e => Heap.get?_push_of_some _ e) (Nat.le_of_eq hD) ?_
    rw [← hD]
    exact txO_new (has_fresh X.w)
  have below : ∀ b ∈ fp, b < s2.heap.objs.size := fun b hb => by
    obtain ⟨o, e, _⟩ := T.obj _ _ st2 b hb
    exact Heap.lt_size e
  have f3 : ∀ b ∈ fp, FpOk X pins H3 b ∧ b < s3.heap.objs.size := fun b hb => by
    have lt := below b hb
    have ne : b ≠ D := by rw [← hD]; exact Nat.ne_of_lt lt
    refine ⟨⟨?_, (f2 b hb).2⟩, by rw [h3, Heap.size_push]; exact Nat.lt_succ_of_lt lt⟩
    rw [← hH3, upd_ne ne]
    exact (f2 b hb).1
  have st3 : tn 0 s3.heap := T.keep _ _ _ st2 fun b _ o e => by rw [h3]; exact Heap.get?_push_of_some _ e
  have I4 := block_start I3 ok hN f3
  generalize hcl : cellsFrom (s3.heap.objs.size + 1) scope.names (cloFrom X.env.cells scope.names []) = cl at I4
  have pg := hg s3 H3 s3.heap.objs.size cl fp
  have pe := he s3 H3 s3.heap.objs.size cl fp
  have goal : codeAny (model X.prog X.w) X.A (.compStart (.SetComp elt [⟨tg, iter, [], 0⟩] scope pos) 0 (.ref it) (.ref D) (compEnvC scope cl s3.heap.objs.size X.env))
      (compPost (model X.prog X.w) X.A X.xe none (EP X pins σ Q) (.ref D) s3.heap.objs.size) { s3 with heap := pushCells (s3.heap.push { cls := .type "dict", data := .dict #[] }) scope.names } := by
    have free3 : ∀ b ∈ fp, H3 b = none := fun b hb => (f3 b hb).1.1
    generalize hce : compEnvC scope cl s3.heap.objs.size X.env = ce at I4 pg pe ⊢
    have locals : ce.locals = s3.heap.objs.size := by subst hce; rfl
    generalize hs4 : ({ s3 with heap := pushCells (s3.heap.push { cls := .type "dict", data := .dict #[] }) scope.names } : Shared) = s4 at I4 ⊢
    have st4 : tn 0 s4.heap := T.keep _ _ _ st3 fun b _ o e => by rw [← hs4]; exact pushCells_keeps _ _ _ _ (Heap.get?_push_of_some _ e)
    have stat : ∀ {σ' : L2.St} {H' : Hp} {s' : Shared}, Inv (X.blk s3 H3 scope ce fp) [] σ' H' s' → (∀ b ∈ fp, H' b = none) → ∀ b ∈ fp, FpOk (X.blk s3 H3 scope ce fp) [] H' b := fun {σ' H' s'} I' hn b hb =>
      ⟨hn b hb, (I'.ok.exf b hb).1, I'.ok.exfs b hb, .inl hb, fun x c e => (I'.ok.exf b hb).2 x c e, fun p hp => absurd (show p ∈ ([] : List (Addr × Obj)) ++ [] from hp) (by simp)⟩
    have loop : codeAny (model X.prog X.w) X.A (.compLoop (.SetComp elt [⟨tg, iter, [], 0⟩] scope pos) 0 (.ref it) (.ref D) ce) (compPost (model X.prog X.w) X.A X.xe none (EP X pins σ Q) (.ref D) s3.heap.objs.size) s4 := by
      refine PpSet.compLoopS_any (fun n s' => ∃ i H', Inv (X.blk s3 H3 scope ce fp) [] (wipe σ (own.map (·.2))) H' s' ∧ tn i s'.heap ∧ (∀ b ∈ fp, H' b = none) ∧ W i n H') ?_ m0 ⟨0, H3, I4, st4, free3, w0⟩
      rintro n s5 ⟨i, H5, I5, st5, n5, w5⟩
      rcases turn i n H5 w5 with ⟨stop, qq⟩ | ⟨go, Nx, hNx, step⟩
      · refine thnF (T.done (X.blk s3 H3 scope ce fp) rfl rfl rfl hc i [] s5 _ H5 (fun _ _ => False) I5 (stat I5 n5) st5 stop) fun r s6 ⟨hr, I6⟩ => ?_
        subst hr
        have I7 : Inv X pins σ H5 s6 := I3.call' (ch := fp) I6.os I6.base I6.hok I6.bare fun b hb => by
          have z := (f3 b hb).1
          exact ⟨z.2.2.2.1, z.2.1, z.2.2.2.2.1, z.2.2.2.2.2⟩
        have nC : H5 s3.heap.objs.size = none := by
          rw [← locals]
          exact I6.free
        obtain ⟨m, hn, _⟩ := I6.loc
        have hn' : s6.heap.Ns s3.heap.objs.size m := by
          rw [← locals]
          exact hn
        refine ⟨m, hn', fun h'' sb => ?_⟩
        obtain ⟨z0, z1, z2, z3, z4, z5⟩ := I3.fpOk (Nat.le_refl _) nC
        exact ⟨.ref D, H5, I7.turned (t' := s6.toks) (fun b o hb e => (sb.2 b hb).trans e) z0 z1 z3 z4 z5, rfl, qq⟩
      · refine thnF (T.item (X.blk s3 H3 scope ce fp) rfl rfl rfl hc i [] s5 _ H5 (fun _ _ => False) I5 (stat I5 n5) st5 go) fun r s6 ⟨u, hr, h6⟩ => ?_
        subst hr
        refine thnF h6 fun _ s7 ⟨x, H7, I7, r7, y7, st7, n7⟩ => ?_
        have I7' := I7.pinned (stat I7 n7) (T.obj _ _ st7)
        refine thnF (pg.run _ s7 _ H7 x u _ I7' r7 (step x H7 y7)) fun _ s8 ⟨σ8, H8, I8, hw8, q8⟩ => ?_
        refine wpAny_pure ?_
        rw [if_pos rfl]
        refine thnF (pe.run _ s8 σ8 H8 _ I8 q8) fun z s10 ⟨yv, H10, I10, r10, c, ks, ey, hD10, room, nx⟩ => ?_
        subst ey
        obtain ⟨tk, ez⟩ := (show ∃ t, z = Value.str c t from r10)
        subst ez
        refine add_ok (X := X.blk s3 H3 scope ce fp) I10 hD10 room fun s11 I11 => ?_
        obtain ⟨m', hm, w'⟩ := hNx _ nx
        have pin' : ∀ b ∈ fp, ∀ o, s7.heap.get? b = some o → s11.heap.get? b = some o ∧ upd H10 D (TxO (X.blk s3 H3 scope ce fp).w D (plus ks c)) b = none := fun b hb o e =>
          let z := I11.pin (b, o) (List.mem_append_right _ (List.mem_append_right _ (mem_pinsAt hb e)))
          ⟨z.1, z.2.1⟩
        have len : (wipe σ (own.map (·.2))).length = σ8.length := by rw [← hw8, wipe_length]
        refine ⟨m', hm, i + 1, _, (I11.unpinned (pins := [])).weak len (fun j v e => ?_), T.keep _ _ _ st7 fun b hb o e => (pin' b hb o e).1, fun b hb => ?_, w'⟩
        · rw [← hw8] at e
          exact (wipe_some e).1
        · obtain ⟨o, e, _⟩ := T.obj _ _ st7 b hb
          exact (pin' b hb o e).2
    exact PpSet.codeAny_compStart_set loop (T.self X.A 0 _ _ _ st4 loop)
  exact goal
/-- over a tuple that stands still -/
theorem nm_tup {w : World} {K : PySem.W.Frag} {a : Addr} {xs : List V} {g : TG} {te : TE} {vs : List Nat} {σ : L2.St} {H1 : Hp} {D : Addr} {Qd : Hp → Prop} (Pv : Nat → Hp → Prop) (h0 : Pv 0 (upd H1 D (TxO w D [])))
    (hl : ∀ i H, i ≤ xs.length → Pv i H → SqT K H a xs)
    (hs : ∀ i x H, xs[i]? = some x → Pv i H → g x (wipe σ vs) H fun σ2 H2 => wipe σ2 vs = wipe σ vs ∧ te σ2 H2 fun y H4 =>
      ∃ (c : Str) (ks : List Str), y = .str c ∧ H4 D = some (TxO w D ks) ∧ ks.length + 1 < scanBound ∧ Pv (i + 1) (upd H4 D (TxO w D (plus ks c)))) (hd : ∀ H, Pv xs.length H → Qd H) :
    ∃ W : Nat → Nat → Hp → Prop, (∃ m, W 0 m (upd H1 D (TxO w D []))) ∧ ∀ i m H, W i m H → ((Itt K a).stop i H ∧ Qd H) ∨ ((Itt K a).go i H ∧ ∃ Nx : Hp → Prop, (∀ H', Nx H' → ∃ m', m' < m ∧ W (i + 1) m' H') ∧
      ∀ x H', (Itt K a).yld i H x H' → g x (wipe σ vs) H' fun σ2 H2 => wipe σ2 vs = wipe σ vs ∧ te σ2 H2 fun y H4 =>
        ∃ (c : Str) (ks : List Str), y = .str c ∧ H4 D = some (TxO w D ks) ∧ ks.length + 1 < scanBound ∧ Nx (upd H4 D (TxO w D (plus ks c)))) := by
  refine ⟨fun i m H => m = xs.length - i ∧ i ≤ xs.length ∧ Pv i H, ⟨xs.length, by simp, Nat.zero_le _, h0⟩, ?_⟩
  rintro i m H ⟨rfl, hi, p⟩
  have q := hl i H hi p
  rcases Nat.lt_or_ge i xs.length with lt | ge
  · refine .inr ⟨⟨xs, xs[i], q, by simp [lt]⟩, Pv (i + 1), fun H' p' => ⟨xs.length - (i + 1), by omega, rfl, lt, p'⟩, fun x H' y => ?_⟩
    obtain ⟨e, y⟩ := y
    subst e
    exact hs i x _ (y xs q) p
  · have e : i = xs.length := by omega
    subst e
    exact .inl ⟨⟨xs, q, Nat.le_refl _⟩, hd H p⟩
end
end Nm
namespace Nm
open PySem PySem.Spec PyProof.Rows L2
open Sem (wp)
abbrev enumObj (it : Addr) : Obj := { cls := .type "enumerate", data := .fields #[.none, .bool false, .ref it, rawInt 0, .none, .none] }
theorem meets_enum1 {v : Value} {o : Obj} {G : Heap → Prop} (B : Begins v o G) :
    Meets (Builtin.«enumerate.__new__» ⟨[.type "enumerate", v], []⟩) (fun _ R s => G s.heap ∧ R (.ok (.ret (.ref (s.heap.push o).objs.size))) { s with heap := (s.heap.push o).push (enumObj s.heap.objs.size) }) :=
  .of_wp fun prog w A R s h => by
    obtain ⟨hp, g, d, tk, os⟩ := s
    obtain ⟨h1, h⟩ := h
    have sub := sub_enumerate
    have begins : ∀ {A' : Around} {E : Value → Shared → Prop} {Q : Value → Shared → Prop}, Q (.ref hp.objs.size) ⟨hp.push o, g, d, tk, os⟩ → wpAny (model prog w) A' (pyIter v) Q E ⟨hp, g, d, tk, os⟩ := fun q => B.iter prog w _ _ ⟨hp, g, d, tk, os⟩ _ h1 q
    wp_walk
    refine wpAny_stack_any fun st => wpAny_pure ?_
    split
    · rename_i c _ _ _ _ _
      cases (c == Value.type "enumerate") <;> (wp_walk using begins; exact ⟨_, rfl, h⟩)
    · wp_walk using begins
      exact ⟨_, rfl, h⟩
section
variable {prog : Program} {w : World} {A : Around} {E : Value → Shared → Prop} {s : Shared}
theorem call_enum1 {v : Value} {o : Obj} {G : Heap → Prop} {Q : Value → Shared → Prop} (B : Begins v o G) (h1 : G s.heap)
    (h : ∀ h', IsEnum h' (s.heap.objs.size + 1) s.heap.objs.size 0 .none → h'.get? s.heap.objs.size = some o → h'.objs.size = s.heap.objs.size + 2 → (∀ b u, s.heap.get? b = some u → h'.get? b = some u) →
      Q (.ref (s.heap.objs.size + 1)) { s with heap := h' }) : wpAny (model prog w) A (call (.type "enumerate") [v]) Q E s := by
  have one : (s.heap.push o).objs.size = s.heap.objs.size + 1 := Heap.size_push ..
  have made : IsEnum ((s.heap.push o).push (enumObj s.heap.objs.size)) (s.heap.objs.size + 1) s.heap.objs.size 0 .none := by
    have q := Heap.get?_push_size (s.heap.push o) (o := enumObj s.heap.objs.size) rfl
    rw [one] at q
    exact q
  refine callType_new F.called_enumerate (by decide) (F.typeCall_enumerate_1 _) (F.newCall_enumerate_1 _) (fun obj => F.args_object_init_2 obj _) F.entry_enumerate_new (meets_enum1 B) ⟨h1, ?_⟩
  show _ ∧ _
  rw [one]
  exact ⟨⟨_, made, rfl⟩, h _ made (Heap.get?_push_of_some _ (Heap.get?_push_size _ B.free)) (by rw [Heap.size_push, one]) fun b u x => Heap.get?_push_of_some _ (Heap.get?_push_of_some _ x)⟩
end
/-- enumerate of a tuple that stands still: each item in a new pair -/
def Itu (K : PySem.W.Frag) (a : Addr) : It :=
  ⟨fun i H => ∃ (xs : List V) (x : V), SqT K H a xs ∧ xs[i]? = some x,
   fun i H v H' => ∃ T x, v = .ref T ∧ H T = none ∧ H' = upd H T (.tup [.int (i : Nat), x]) ∧ ∀ xs, SqT K H a xs → xs[i]? = some x,
   fun i H => ∃ xs : List V, SqT K H a xs ∧ xs.length ≤ i⟩
theorem turn_itu {P : Program} {w : World} {K : PySem.W.Frag} {elts : List Expr} {kk : Nat} {tpos : Pos} (a e it : Addr) (hei : e ≠ it) (hea : e ≠ a) (hia : a ≠ it) :
    Turn P w K (.Tuple elts kk tpos) (Itu K a) [e, it] e (fun i h => (∃ old, IsEnum h e it ((i : Nat) : Int) old) ∧ h.IsTupleIter it a i) where
  mem := by simp
  obj := fun i h st b hb => by
    obtain ⟨⟨old, he⟩, ⟨o, ho, hc, hd⟩⟩ := st
    rcases (show b = e ∨ b = it by simpa using hb) with z | z
    · rw [z]
      exact ⟨_, he, fun v q => nomatch q⟩
    · rw [z]
      exact ⟨o, ho, fun v q => by rw [hd] at q; cases q⟩
  keep := fun i h h' st k => ⟨st.1.imp fun old he => k e (by simp) _ he, st.2.at fun o q => k it (by simp) o q⟩
  item := by
    intro X hP hw hK hc i pins s σ H E I hf st hg
    subst hP hw hK
    obtain ⟨⟨old, he⟩, hit⟩ := st
    obtain ⟨xs, x, hq, hx⟩ := hg
    obtain ⟨its, rv, p, hz⟩ := I.tuple hq
    obtain ⟨u, hu, ru⟩ := rv.get hx
    have lte : e < s.heap.objs.size := Heap.lt_size he
    have lti : it < s.heap.objs.size := by
      obtain ⟨_, q, _⟩ := hit
      exact Heap.lt_size q
    have li : i < its.toArray.size := by
      have q := (List.getElem?_eq_some_iff.mp hu).1
      simpa using q
    refine wpAny_pyNext_enum_itemD (Draws.tuple (A := X.A.in1) (I.ok.hd hc) it a hia its.toArray) he ⟨hit, p⟩ li hei (by simp [hei, hea]) fun y h' tk hy ho hst' hT hsz hk => ?_
    have ey : y = u := by
      rw [show its.toArray[i]? = some u by simpa using hu] at hy
      exact (Option.some.inj hy).symm
    subst ey
    refine ⟨_, rfl, wpAny_letOwnedTupleGo_enum (s := { s with heap := h', toks := tk + 1 }) ho fun h'' he' sb => ?_⟩
    have hT2 : h''.get? s.heap.objs.size = some { cls := .type "tuple", data := .seq #[.int i tk, y] } := (sb.2 _ (Nat.ne_of_gt lte)).trans hT
    have new : ObjOk X.prog X.w (upd H s.heap.objs.size (.tup [.int (i : Nat), x])) h'' s.heap.objs.size (.tup [.int (i : Nat), x]) :=
      ⟨by show 2 ≤ sizeLine; decide, [.int i tk, y], .cons ⟨_, rfl⟩ (.cons ru .nil), ⟨_, hT2, rfl, _, rfl⟩⟩
    have I1 : Inv X pins σ (upd H s.heap.objs.size (.tup [.int (i : Nat), x])) { s with heap := h'', toks := tk + 1 } :=
      I.turnedNew (ch := [e, it]) (fun b ob hb q => (sb.2 b (fun z => hb (by simp [z]))).trans (hk b ob (fun z => hb (by simp [z])) (fun z => hb (by simp [z])) q)) hf (Nat.le_refl _) new
    refine ⟨.ref s.heap.objs.size, _, I1, rfl, ⟨_, x, rfl, I.hok.fresh (Nat.le_refl _), rfl, fun ys hys => by rw [I.tuple_inj hys hq]; exact hx⟩, ⟨⟨y, ?_⟩, hst'.1.at fun o q => (sb.2 it (Ne.symm hei)).trans q⟩, fun b hb => ?_⟩
    · rw [show ((i + 1 : Nat) : Int) = (i : Int) + 1 by omega]
      exact he'
    · have lt : b < s.heap.objs.size := by
        rcases (show b = e ∨ b = it by simpa using hb) with z | z
        · rw [z]; exact lte
        · rw [z]; exact lti
      rw [upd_ne (Nat.ne_of_lt lt)]
      exact (hf b hb).1
  done := by
    intro X hP hw hK hc i pins s σ H E I hf st hg
    subst hP hw hK
    obtain ⟨⟨old, he⟩, hit⟩ := st
    obtain ⟨xs, hq, hx⟩ := hg
    obtain ⟨its, rv, p, hz⟩ := I.tuple hq
    obtain ⟨f0, f1, f2, f3, f4, f5⟩ := hf it (by simp)
    have hl := rv.length
    have D : Draws X.prog X.w X.A.in1 it [it, a] i (fun _ _ => True) (fun j h => j = i ∧ h.IsTupleIter it a j ∧ h.IsTuple a its.toArray) := by
      have T := Draws.tuple (prog := X.prog) (w := X.w) (A := X.A.in1) (I.ok.hd hc) it a hia its.toArray
      exact {
        live := fun j h z => T.live j h z.2
        frame := fun j h h' z k => ⟨z.1, T.frame j h h' z.2 k⟩
        item := fun j s Q E hj st hQ => absurd hj (by rw [st.1]; exact Nat.lt_irrefl _)
        done := fun s Q E st hE => wpAny_nextOf_tuple_end (I.ok.hd hc) st.2.1 st.2.2 (by simp; omega) hE }
    exact wpAny_pyNext_enum_endD D he ⟨rfl, hit, p⟩ fun h' eb => ⟨rfl, I.turned (t' := s.toks) (fun b o hb q => eb b o hb q) f0 f1 f3 f4 f5⟩
  self := fun A i s Q E st h => let ⟨⟨_, he⟩, _⟩ := st; wpAny_pyIter_enum he h
/-- for i, x in enumerate(t), t a tuple -/
def iEnuT (K : PySem.W.Frag) (ta : TA) : TI := fun σ H R => ta σ H fun vs H1 => ∃ a xs, vs = [.ref a] ∧ SqT K H1 a xs ∧ R (Itu K a) H1
theorem pi_enuT {X : Cx} {e : Expr} {ta : TA} {p pos tpos : Pos} {elts : List Expr} {kk : Nat} (hg : Gl X "enumerate") (hm : X.mg "enumerate" = none) (ha : PA X [e] ta) (hs : starEach [e] X.env = [(false, eval e X.env)] := by rfl) :
    PI X (.Tuple elts kk tpos) (.Call (.Name "enumerate" p) [e] [] pos) (iEnuT X.K ta) := by
  refine ⟨fun pins s σ H R I h => ?_⟩
  refine Call_ (ld_blt I hg hm boot_enumerate (PyProof.Rows.callWith_type1 (thn (ha.run pos pins s σ H _ I h) fun us s1 ⟨vs, H1, I1, r1, q1⟩ => ?_) hs rfl))
  obtain ⟨a, xs, ex, hq, q⟩ := q1
  subst ex
  cases r1 with
  | cons r rr =>
    cases rr
    cases r
    obtain ⟨its, rv, p', hz⟩ := I1.tuple hq
    have lta : a < s1.heap.objs.size := by
      obtain ⟨o, ho, _⟩ := id p'
      exact Heap.lt_size ho
    refine call_enum1 (begins_tuple a its.toArray) p' fun h' he hit hsz hk => wpAny_pyIter_enum he ?_
    have I2 : Inv X pins σ H1 { s1 with heap := h' } := I1.kept (t' := s1.toks) hk
    refine ⟨s1.heap.objs.size + 1, [s1.heap.objs.size + 1, s1.heap.objs.size], _, _, H1, rfl, I2,
      turn_itu a (s1.heap.objs.size + 1) s1.heap.objs.size (Nat.succ_ne_self _) (Nat.ne_of_gt (Nat.lt_succ_of_lt lta)) (Nat.ne_of_lt lta), ⟨⟨.none, he⟩, ⟨_, hit, rfl, rfl⟩⟩, fun b hb => ?_, q⟩
    have le : s1.heap.objs.size ≤ b := by
      rcases (show b = s1.heap.objs.size + 1 ∨ b = s1.heap.objs.size by simpa using hb) with z | z
      · rw [z]; exact Nat.le_add_right _ _
      · rw [z]; exact Nat.le_refl _
    exact I1.fpOk le (I1.hok.fresh le)
theorem walk_itu {K : PySem.W.Frag} {a : Addr} {xs : List V} : Walk (Itu K a) xs.length (fun H => SqT K H a xs) (YPair (fun i => some (.int (i : Nat))) (fun i => xs[i]?)) := by
  refine ⟨fun i _ hi q => ⟨xs, xs[i], q, by simp [hi]⟩, fun _ q => ⟨xs, q, Nat.le_refl _⟩, fun i H v H' _ q y => ?_⟩
  obtain ⟨T, x, h1, h2, h3, h4⟩ := y
  exact ⟨T, .int (i : Nat), x, h1, h2, h3, rfl, h4 xs q⟩
end Nm
namespace Nm
open PySem PySem.Spec PyProof.Rows L2
/-- t * 1 is t itself -/
theorem tuple_mul1 (l : Addr) (items : Array Value) (n : Nat) (dd : Option Addr) (sl : Array (Option Value)) (u : Tok) :
    Meets (Builtin.«tuple.__mul__» ⟨[.ref l, .int 1 u], []⟩) (fun _ R s => s.heap.get? l = some { cls := .type "tuple", dict := dd, data := .seq items n, slots := sl } ∧ R (.ok (.ret (Value.ref l))) s) :=
  .of_wp fun prog w A R s h => by
    obtain ⟨hp, g, d, tk, os⟩ := s
    obtain ⟨hl, h⟩ := h
    have f1 := AutoSeq1.idx_int
    have c0 : (decide ((1 : Int) < -(2 ^ 63)) || decide ((1 : Int) ≥ 2 ^ 63)) = false := by decide
    have c1 : (items.isEmpty || (1 : Int) == 1) = true := by cases items.isEmpty <;> rfl
    wp_walk using wpAny_loadPart' hl
    exact ⟨_, rfl, h⟩
def rRep1 (K : PySem.W.Frag) : R2 := fun x y H Q => ∃ l xs, x = .ref l ∧ y = .int 1 ∧ SqT K H l xs ∧ Q (.ref l) H
def rBlCount (K : PySem.W.Frag) : V → List V → Hp → VK → Prop := fun x xs H Q => ∃ (p : Addr) (bs : List Bool) (c : Bool), x = .ref p ∧ xs = [.bl c] ∧ SqL K H p (bs.map V.bl) ∧ Q (.int (bs.count c : Nat)) H
section
variable {X : Cx}
theorem op_rep1 : OpR X (binaryOp .Mult) (rRep1 X.K) := by
  intro pins s σ H x y v u Q I rx ry h
  obtain ⟨l, xs, rfl, rfl, hT, q⟩ := h
  cases rx
  obtain ⟨t, rfl⟩ := ry
  obtain ⟨its, r, ⟨⟨cls, dd, data, sl⟩, ho, hc, n, hd⟩, hs⟩ := I.tuple hT
  simp only at hc hd
  subst hc hd
  refine wpAny_binaryOp_repeat_ref (T := "tuple") (U := "int") (by decide) ⟨_, ho, rfl⟩ (fun s' => typeIs_int s' 1 t) noFill_tuple_mul F.fills_int_mul F.slot_int_rmul repeat_tuple F.slot_int_index.lookup
    (call_meets F.slot_int_rmul (typeIs_int s 1 t) F.entry_int_rmul (F.args_int_rmul_2 _ _) (int_rmul_tuple 1 t l its.toArray n dd sl)
      ⟨ho, rfl, ⟨_, ho, rfl⟩, call_meets F.slot_tuple_mul ⟨_, ho, rfl⟩ F.entry_tuple_mul (F.args_tuple_mul_2 _ _) (tuple_mul1 l its.toArray n dd sl t) ⟨ho, ⟨.ref l, H, I, rfl, q⟩⟩⟩)
def isBl (c : Bool) (v : Value) : Bool := match v with | .bool b => b == c | _ => false
theorem mt_blcount : MtR X "list.count" (rBlCount X.K) := by
  intro pins s σ H x xs v us Q I rx rxs h
  obtain ⟨p, bs, c, rfl, rfl, hs, q⟩ := h
  cases rx
  obtain ⟨u, rfl, ru⟩ := rxs.one
  obtain rfl : u = Value.bool c := ru
  obtain ⟨its, rv, ⟨⟨cls, dd, data, sl⟩, n, ho, hc, hdn, hd⟩, hlen⟩ := I.list hs
  simp only at hc hd
  subst hc hd
  have eb := Vals.bls rv
  refine call_meets PySem.F.slot_list_count ⟨_, ho, rfl⟩ PySem.F.entry_list_count (PySem.F.args_list_count_2 _ _) (SeqAt.list_countAt p its.toArray n dd sl (.bool c) (isBl c)) ⟨ho, fun y hy => ?_, ?_⟩
  · have hm : y ∈ its := by simpa using hy
    rw [eb] at hm
    obtain ⟨b, _, rfl⟩ := List.mem_map.mp hm
    exact SeqAt.EqAt.bool_bool b c
  · have ec : its.toArray.toList.countP (isBl c) = bs.count c := by
      show its.countP (isBl c) = _
      rw [eb, List.countP_map]
      rfl
    refine ⟨.int (bs.count c : Nat), H, I.tok _, ⟨s.toks, ?_⟩, q⟩
    show Value.int ((its.toArray.toList.countP (isBl c) : Nat) : Int) s.toks = Value.int ((bs.count c : Nat) : Int) s.toks
    rw [ec]
/-- nothing is asked that could be met: an expression that is never reached -/
theorem pe_never {e : Expr} : PE X e (fun _ _ _ => False) := ⟨fun _ _ _ _ _ _ h => h.elim⟩
end
end Nm
namespace Nm
open PySem PySem.Spec PyProof.Rows L2
open C8 (Cal Mak pe_c pe_mk pe_gc)
open RZ (ItzT pi_zipA)
/-- a def of the text that stands under its name -/
def Top (K : PySem.W.Frag) (mg : Str → Option Value) (x : Str) (st : Stmt) : Prop := ∃ f fd, Fun K x x st f fd ∧ mg x = some (.ref f)
section
variable {P : Program} {w : World} {K : PySem.W.Frag} {mg : Str → Option Value} {base : Heap}
theorem cal_of {x : Str} {st : Stmt} {N ps : List Str} {k : Nat} {sp : Sp} (D : Top K mg x st) (S : FnScope N ps (defScope st))
    (hb : ∀ (kV doc pm : Value) (an : Option Addr) (cdv ct : Value) (us : List Value), us.length = ps.length → bindArgs (PySem.W.fnOf x x (defArgs st) (defBody st) (defScope st) .none kV doc pm an cdv ct) ⟨us, []⟩ = pure (ps.zip us))
    (len : ∀ vs H Q E, sp vs H Q E → vs.length = ps.length)
    (body : ∀ (f : Addr) (cdv : Value) (A : Around) (outer : List Env) (s : Shared) (H : Hp) (vs : List V) (Q : VK) (E : XK), Room k (A.deeper (envOfC x (defScope st) s.heap.objs.size f cdv)) → sp vs H Q E →
      ∃ t, PSs (cxOf CX0 P w K mg base N x (defScope st) f cdv A outer s H E).nox (defBody st) t ∧ t { nx := fun _ H' => Q .non H', rt := Q } (start N vs) H) : Cal P w K mg base (k + 1) x sp [] := by
  obtain ⟨f, fd, F, hm⟩ := D
  exact ⟨f, fd, ps, [], F.ok S len fun cdv A outer s H vs Q E hr h => body f cdv A outer s H vs Q E hr h, hm, F.kp, F.binds hb, .nil⟩
end
theorem cal_mono {P : Program} {w : World} {K : PySem.W.Frag} {mg : Str → Option Value} {base : Heap} {k : Nat} {x : Str} {sp sp' : Sp} (c : Cal P w K mg base k x sp []) (h : ∀ vs H Q E, sp' vs H Q E → sp vs H Q E) : Cal P w K mg base k x sp' [] := by
  obtain ⟨f, fd, ps, ds, F, hm, kp, b, d⟩ := c.ex
  obtain ⟨F1, F2⟩ := F
  exact ⟨f, fd, ps, ds, ⟨fun vs H Q E q => F1 vs H Q E (h vs H Q E q), fun A outer s H args us vs Q E a1 a2 a3 a4 q => F2 A outer s H args us vs Q E a1 a2 a3 a4 (h vs H Q E q)⟩, hm, kp, b, d⟩
/-- laid over something new all stands -/
theorem same_new {H : Hp} {p : Addr} {o : HO} (h : H p = none) : Same H (upd H p o) := fun b u q => by
  rw [upd_ne (ne_of_none q h)]
  exact q
/-- what happens to a new object leaves the rest -/
theorem same_mut {H H' : Hp} {p : Addr} {o : HO} (g : Same H H') (h : H p = none) : Same H (upd H' p o) := fun b u q => by
  rw [upd_ne (ne_of_none q h)]
  exact g b u q
/-- what isinstance says -/
theorem is_int {K : PySem.W.Frag} : PySem.W.kitOne K (.type "int") (.type "int") = some true := kit_ty (by decide +kernel)
theorem is_int_bool {K : PySem.W.Frag} : PySem.W.kitOne K (.type "int") (.type "bool") = some false := kit_ty (by decide +kernel)
theorem is_tup_int {K : PySem.W.Frag} : PySem.W.kitOne K (.type "tuple") (.type "int") = some false := kit_ty (by decide +kernel)
theorem is_tup {K : PySem.W.Frag} : PySem.W.kitOne K (.type "tuple") (.type "tuple") = some true := kit_ty (by decide +kernel)
theorem is_int_tup {K : PySem.W.Frag} : PySem.W.kitOne K (.type "int") (.type "tuple") = some false := kit_ty (by decide +kernel)
theorem is_str {K : PySem.W.Frag} : PySem.W.kitOne K (.type "str") (.type "str") = some true := kit_ty (by decide +kernel)
theorem is_bool {K : PySem.W.Frag} : PySem.W.kitOne K (.type "bool") (.type "bool") = some true := kit_ty (by decide +kernel)
def isInt : V → Bool
  | .int _ => true
  | _ => false
def isStr : V → Bool
  | .str _ => true
  | _ => false
/-- isinstance(x, n) is b -/
def TyC (K : PySem.W.Frag) (H : Hp) (x : V) (n : String) (b : Bool) : Prop := ∃ t, TyX K H x t ∧ PySem.W.kitOne K t (.type n) = some b
/-- what the program's own look for an integer needs -/
def TyI (K : PySem.W.Frag) (H : Hp) (x : V) : Prop := ∃ b c, TyC K H x "int" b ∧ TyC K H x "bool" c ∧ (b && !c) = isInt x
section
variable {K : PySem.W.Frag} {H : Hp}
theorem tyc_int (i : Int) : TyC K H (.int i) "int" true := ⟨_, .base (.int i), kit_ty (by decide +kernel)⟩
theorem tyi_int (i : Int) : TyI K H (.int i) := ⟨true, false, ⟨_, .base (.int i), kit_ty (by decide +kernel)⟩, ⟨_, .base (.int i), kit_ty (by decide +kernel)⟩, rfl⟩
theorem tyi_tup {a : Addr} {xs : List V} (h : H a = some (.tup xs)) : TyI K H (.ref a) := ⟨false, false, ⟨_, .base (.tup h), kit_ty (by decide +kernel)⟩, ⟨_, .base (.tup h), kit_ty (by decide +kernel)⟩, rfl⟩
theorem tyi_str (z : Str) : TyI K H (.str z) := ⟨false, false, ⟨_, .base (.str z), kit_ty (by decide +kernel)⟩, ⟨_, .base (.str z), kit_ty (by decide +kernel)⟩, rfl⟩
theorem tyc_tup {a : Addr} {xs : List V} (h : H a = some (.tup xs)) : TyC K H (.ref a) "tuple" true := ⟨_, .base (.tup h), kit_ty (by decide +kernel)⟩
theorem tyc_int_tup (i : Int) : TyC K H (.int i) "tuple" false := ⟨_, .base (.int i), kit_ty (by decide +kernel)⟩
theorem tyc_str (z : Str) : TyC K H (.str z) "str" true := ⟨_, .base (.str z), kit_ty (by decide +kernel)⟩
theorem tyc_bl (b : Bool) : TyC K H (.bl b) "bool" true := ⟨_, .base (.bl b), kit_ty (by decide +kernel)⟩
end
/-- a text of 1 to most letters a to z -/
def letB (z : Str) (most : Int) : Bool := decide (1 ≤ (z.length : Int)) && decide ((z.length : Int) ≤ most) && z.cps.toList.all (fun c => decide (97 ≤ c) && decide (c ≤ 122))
def letV (x : V) (most : Int) : Bool := match x with | .str z => letB z most | _ => false
def within (x : V) (lo hi : Int) : Bool := match x with | .int n => decide (lo ≤ n) && decide (n ≤ hi) | _ => false
theorem sign_lt (c d : Nat) : decide (([c] : List Nat) < [d]) = decide (c < d) := by
  by_cases h : c < d
  · rw [decide_eq_true h]
    exact decide_eq_true (List.Lex.rel h)
  · rw [decide_eq_false h]
    refine decide_eq_false fun q => ?_
    cases q with
    | rel r => exact h r
    | cons r => cases r
/-! ### boards -/
/-- a board: its name, the side, the row that was played -/
abbrev Bd := Str × Int × List Str
def BoardAt (H : Hp) (v : V) (b : Bd) : Prop := ∃ a r, v = .ref a ∧ H a = some (.tup [.str b.1, .int b.2.1, .ref r]) ∧ H r = some (.tup (b.2.2.map V.str))
def BoardsAt (H : Hp) (a : Addr) (bs : List Bd) : Prop := ∃ xs, H a = some (.tup xs) ∧ Paired (BoardAt H) xs bs
def rowB (ws : List Str) (most : Int) : Bool := decide ((ws.length : Int) ≤ most) && ws.all (fun z => letB z 20)
def boardB (b : Bd) : Bool := letB b.1 8 && (within (.int b.2.1) 0 1 && rowB b.2.2 20)
/-- nothing here is too long for the model -/
def smallBd (b : Bd) : Prop := b.1.length ≤ 1000 ∧ b.2.2.length ≤ 1000 ∧ ∀ z ∈ b.2.2, z.length ≤ 1000
theorem BoardAt.mono {H H' : Hp} (k : ∀ a xs, H a = some (.tup xs) → H' a = some (.tup xs)) {v : V} {b : Bd} (h : BoardAt H v b) : BoardAt H' v b := by
  obtain ⟨a, r, e, h1, h2⟩ := h
  exact ⟨a, r, e, k _ _ h1, k _ _ h2⟩
theorem paired_mono {α β : Type} {R S : α → β → Prop} (h : ∀ a b, R a b → S a b) : ∀ {xs : List α} {ys : List β}, Paired R xs ys → Paired S xs ys
  | _, _, .nil => .nil
  | _, _, .cons r t => .cons (h _ _ r) (paired_mono h t)
theorem paired_at {α β : Type} {R : α → β → Prop} : ∀ {xs : List α} {ys : List β}, Paired R xs ys → ∀ (i : Nat) (x : α), xs[i]? = some x → ∃ y, ys[i]? = some y ∧ R x y
  | _, _, .nil, i, x, h => by simp at h
  | _, _, .cons r t, 0, x, h => by
    simp at h
    subst h
    exact ⟨_, rfl, r⟩
  | _, _, .cons r t, i + 1, x, h => by
    obtain ⟨y, h1, h2⟩ := paired_at t i x (by simpa using h)
    exact ⟨y, by simpa using h1, h2⟩
theorem paired_len {α β : Type} {R : α → β → Prop} : ∀ {xs : List α} {ys : List β}, Paired R xs ys → xs.length = ys.length
  | _, _, .nil => rfl
  | _, _, .cons _ t => by rw [List.length_cons, List.length_cons, paired_len t]
theorem BoardsAt.mono {H H' : Hp} (k : ∀ a xs, H a = some (.tup xs) → H' a = some (.tup xs)) {a : Addr} {bs : List Bd} (h : BoardsAt H a bs) : BoardsAt H' a bs := by
  obtain ⟨xs, h1, h2⟩ := h
  exact ⟨xs, k _ _ h1, paired_mono (fun _ _ => BoardAt.mono k) h2⟩
theorem same_tups {H H' : Hp} (g : Same H H') : ∀ a xs, H a = some (.tup xs) → H' a = some (.tup xs) := fun a xs h => g a _ h
/-! ### texts gathered -/
theorem take_one {α : Type} {l : List α} {i : Nat} {x : α} (h : l[i]? = some x) : l.take (i + 1) = l.take i ++ [x] := by
  rw [List.take_add_one, h]
  rfl
/-- the program's own word for the names: each once, ascending -/
structure Names (xs ys : List Str) : Prop where
  up : PyProof.Rows.sortedS ys = true
  nd : ys.Nodup
  mem : ∀ x, x ∈ ys ↔ x ∈ xs
/-- a hall stands at p, with these boards -/
def HallAt (K : PySem.W.Frag) (H : Hp) (p : Addr) (bs : List Bd) : Prop := ∃ C dx fs a n ys, Cls K C ∧ NoAttr K C "boards" ∧ NoAttr K C "names" ∧ H p = some (.ins C dx fs) ∧ fs.lookup ("boards" : Str) = some (.ref a) ∧ fs.lookup ("names" : Str) = some (.ref n) ∧
  BoardsAt H a bs ∧ H n = some (.tup (ys.map V.str)) ∧ Names (bs.map (·.1)) ys
/-- all that is no list stands -/
def Keep (H H' : Hp) : Prop := ∀ b o, H b = some o → (∀ xs, o ≠ .lst xs) → H' b = some o
theorem same_keep {H H' : Hp} (g : Same H H') : Keep H H' := fun b o h _ => g b o h
theorem Keep.refl (H : Hp) : Keep H H := fun _ _ h _ => h
theorem Keep.trans {H H1 H2 : Hp} (a : Keep H H1) (b : Keep H1 H2) : Keep H H2 := fun c o h n => b c o (a c o h n) n
theorem Keep.tups {H H' : Hp} (g : Keep H H') : ∀ a xs, H a = some (.tup xs) → H' a = some (.tup xs) := fun a xs h => g a _ h fun _ e => nomatch e
theorem HallAt.mono {K : PySem.W.Frag} {H H' : Hp} (g : Keep H H') {p : Addr} {bs : List Bd} (h : HallAt K H p bs) : HallAt K H' p bs := by
  obtain ⟨C, dx, fs, a, n, ys, h1, h2, h3, h4, h5, h6, h7, h8, h9⟩ := h
  exact ⟨C, dx, fs, a, n, ys, h1, h2, h3, g _ _ h4 (fun _ e => nomatch e), h5, h6, h7.mono g.tups, g.tups _ _ h8, h9⟩
theorem nb_ne : ¬ (("boards" : Str) = "names") := by decide +kernel
/-! ### zip of two tuples of any lengths -/
theorem walk_zipT {K : PySem.W.Frag} {a b : Addr} {xs ys : List V} {n : Nat} (hn : n = min xs.length ys.length) : Walk (ItzT K a b) n (fun H => SqT K H a xs ∧ SqT K H b ys) (YPair (fun i => xs[i]?) (fun i => ys[i]?)) := by
  subst hn
  refine ⟨fun i _ hi q => ?_, fun _ q => ⟨xs, ys, q.1, q.2, by omega⟩, fun i H v H' _ q y => ?_⟩
  · have h1 : i < xs.length := by omega
    have h2 : i < ys.length := by omega
    exact ⟨xs, ys, xs[i], ys[i], q.1, q.2, by simp [h1], by simp [h2]⟩
  · obtain ⟨T, x, z, h1, h2, h3, h4, h5⟩ := y
    exact ⟨T, x, z, h1, h2, h3, h4 xs q.1, h5 ys q.2⟩
/-- the ints rise, each pair of neighbours looked at -/
def ascB (ns : List Int) : Bool := (ns.zip (ns.drop 1)).all fun p => decide (p.1 < p.2)
theorem ascB_of {ns : List Int} (h : ns.Pairwise (· < ·)) : ascB ns = true := by
  unfold ascB
  rw [List.all_eq_true]
  intro p hp
  refine decide_eq_true ?_
  induction ns with
  | nil => simp at hp
  | cons a r ih =>
    obtain ⟨h1, h2⟩ := List.pairwise_cons.mp h
    cases r with
    | nil => simp at hp
    | cons b r =>
      rw [List.drop_one, List.tail_cons] at hp
      rcases List.mem_cons.mp (by simpa using hp) with e | e
      · subst e
        exact h1 b List.mem_cons_self
      · refine ih h2 ?_
        rw [List.drop_one, List.tail_cons]
        exact e
theorem map_at {α β : Type} {f : α → β} {l : List α} {i : Nat} {y : β} (h : (l.map f)[i]? = some y) : ∃ x, l[i]? = some x ∧ y = f x := by
  rw [List.getElem?_map] at h
  cases e : l[i]? with
  | none =>
    rw [e] at h
    cases h
  | some x =>
    rw [e] at h
    exact ⟨x, rfl, (Option.some.inj h).symm⟩
/-- a def that nobody can ask anything of -/
theorem cal_void {P : Program} {w : World} {K : PySem.W.Frag} {mg : Str → Option Value} {base : Heap} {x : Str} {st : Stmt} {ps : List Str} {k : Nat} {sp : Sp} (D : Top K mg x st)
    (hb : ∀ (kV doc pm : Value) (an : Option Addr) (cdv ct : Value) (us : List Value), us.length = ps.length → PySem.bindArgs (PySem.W.fnOf x x (defArgs st) (defBody st) (defScope st) .none kV doc pm an cdv ct) ⟨us, []⟩ = pure (ps.zip us))
    (no : ∀ vs H Q E, ¬ sp vs H Q E) : Cal P w K mg base k x sp [] := by
  obtain ⟨f, fd, F, hm⟩ := D
  exact ⟨f, fd, ps, [], ⟨fun vs H Q E h => absurd h (no vs H Q E), fun A outer s H args us vs Q E _ _ _ _ h => absurd h (no vs H Q E)⟩, hm, F.kp, F.binds hb, .nil⟩
/-! ### aims -/
inductive AKind where
  | all | some | least (k : Int)
def AKind.head : AKind → List V
  | .all => [.str "all"]
  | .some => [.str "some"]
  | .least k => [.str "least", .int k]
def AKind.ok : AKind → Prop
  | .least k => 0 ≤ k ∧ k ≤ 25
  | _ => True
def AKind.val : AKind → List Bool → Bool
  | .all, bs => bs.all id
  | .some, bs => bs.any id
  | .least k, bs => decide (k ≤ (bs.count true : Nat))
def AKind.need : AKind → Nat → Int
  | .all, n => n
  | .some, _ => 1
  | .least k, _ => k
/-- what an aim says of the boards that are won -/
abbrev ASem := (Int → Bool) → Bool
/-- at v stands an aim of boards below many, at most d deep, of s aims, that says φ -/
def AimV (H : Hp) (many : Int) : Nat → V → Nat → ASem → Prop
  | 0, _, _, _ => False
  | d + 1, v, s, φ => (∃ n : Int, v = .int n ∧ 0 ≤ n ∧ n < many ∧ s = 1 ∧ φ = fun w => w n) ∨
    (∃ (a p : Addr) (xs : List V) (kd : AKind) (ys : List (Nat × ASem)), v = .ref a ∧ H a = some (.tup (kd.head ++ [.ref p])) ∧ H p = some (.tup xs) ∧ kd.ok ∧ xs.length ≤ 24 ∧ Paired (fun x y => AimV H many d x y.1 y.2) xs ys ∧
      s = 1 + (ys.map (·.1)).sum ∧ φ = fun w => kd.val (ys.map fun y => y.2 w))
theorem AimV.mono {H H' : Hp} {many : Int} (k : ∀ a xs, H a = some (.tup xs) → H' a = some (.tup xs)) : ∀ {d : Nat} {v : V} {s : Nat} {φ : ASem}, AimV H many d v s φ → AimV H' many d v s φ
  | 0, _, _, _, h => h.elim
  | d + 1, v, s, φ, h => by
    rcases h with h | ⟨a, p, xs, kd, ys, h1, h2, h3, h4, h5, h6, h7, h8⟩
    · exact .inl h
    · exact .inr ⟨a, p, xs, kd, ys, h1, k _ _ h2, k _ _ h3, h4, h5, paired_mono (fun _ _ h => AimV.mono k h) h6, h7, h8⟩
theorem AimV.deeper {H : Hp} {many : Int} : ∀ {d e : Nat} {v : V} {s : Nat} {φ : ASem}, d ≤ e → AimV H many d v s φ → AimV H many e v s φ
  | 0, _, _, _, _, _, h => h.elim
  | d + 1, 0, _, _, _, l, _ => absurd l (Nat.not_succ_le_zero d)
  | d + 1, e + 1, v, s, φ, l, h => by
    rcases h with h | ⟨a, p, xs, kd, ys, h1, h2, h3, h4, h5, h6, h7, h8⟩
    · exact .inl h
    · exact .inr ⟨a, p, xs, kd, ys, h1, h2, h3, h4, h5, paired_mono (fun _ _ h => AimV.deeper (Nat.le_of_succ_le_succ l) h) h6, h7, h8⟩
theorem AimV.pos {H : Hp} {many : Int} : ∀ {d : Nat} {v : V} {s : Nat} {φ : ASem}, AimV H many d v s φ → 1 ≤ s
  | 0, _, _, _, h => h.elim
  | d + 1, v, s, φ, h => by
    rcases h with ⟨n, _, _, _, e, _⟩ | ⟨a, p, xs, kd, ys, h1, h2, h3, h4, h5, h6, h7, h8⟩ <;> omega
theorem head_len (kd : AKind) : (kd.head ++ [V.ref p]).length = 2 ∨ (kd.head ++ [V.ref p]).length = 3 := by
  cases kd
  · exact .inl rfl
  · exact .inl rfl
  · exact .inr rfl
def b2 (b : Bool) : Int := if b then 1 else 0
theorem iteP {c A B : Prop} [Decidable c] (hc : c) (h : A) : if c then A else B := by
  rw [if_pos hc]
  exact h
theorem iteN {c A B : Prop} [Decidable c] (hc : ¬ c) (h : B) : if c then A else B := by
  rw [if_neg hc]
  exact h
theorem nt {b : Bool} (h : b = false) : ¬ b = true := by rw [h]; exact Bool.false_ne_true
theorem l2 : 2 ≤ PySem.sizeLine := by decide
theorem sum_take_le : ∀ (l : List Nat) (i : Nat), (l.take i).sum ≤ l.sum
  | [], i => by simp
  | x :: l, 0 => by simp
  | x :: l, i + 1 => by
    have := sum_take_le l i
    simp only [List.take_succ_cons, List.sum_cons]
    omega
theorem sum_take_one {l : List Nat} {i x : Nat} (h : l[i]? = some x) : (l.take (i + 1)).sum = (l.take i).sum + x := by
  rw [take_one h, List.sum_append]
  simp
theorem int_ne {i j : Int} (h : i ≠ j) : decide (V.int i = V.int j) = false := decide_eq_false fun e => h (V.int.inj e)
theorem int_eq {i j : Int} (h : i = j) : decide (V.int i = V.int j) = true := decide_eq_true (congrArg V.int h)
/-! ### the tape from which a law draws -/
def TapeAt (H : Hp) (tp l : Addr) : Prop := ∃ (ns : List Int) (i c m n : Int), H tp = some (.lst [.ref l, .int i, .int c, .int m, .int n]) ∧ H l = some (.lst (ns.map V.int)) ∧ 0 ≤ i
/-- all but the tape stands -/
def Mov (tp : Addr) (H H' : Hp) : Prop := ∀ b o, H b = some o → b ≠ tp → H' b = some o
theorem Mov.refl (tp : Addr) (H : Hp) : Mov tp H H := fun _ _ h _ => h
theorem Mov.trans {tp : Addr} {H H1 H2 : Hp} (a : Mov tp H H1) (b : Mov tp H1 H2) : Mov tp H H2 := fun c o h n => b c o (a c o h n) n
theorem mov_same {tp : Addr} {H H' : Hp} (g : Same H H') : Mov tp H H' := fun b o h _ => g b o h
theorem mov_upd {tp : Addr} {H : Hp} {o : HO} : Mov tp H (upd H tp o) := fun b u h n => by
  rw [upd_ne n]
  exact h
theorem mov_mut {tp : Addr} {H H' : Hp} {p : Addr} {o : HO} (g : Mov tp H H') (h : H p = none) : Mov tp H (upd H' p o) := fun b u q n => by
  rw [upd_ne (ne_of_none q h)]
  exact g b u q n
theorem TapeAt.keep {H H' : Hp} {tp l : Addr} (t : TapeAt H tp l) (m : Mov tp H H') : Keep H H' := fun b o h n => m b o h fun e => by
  obtain ⟨ns, i, c, k, j, h1, _⟩ := t
  rw [e, h1] at h
  exact n _ (Option.some.inj h).symm
theorem TapeAt.same {H H' : Hp} {tp l : Addr} (t : TapeAt H tp l) (g : Same H H') : TapeAt H' tp l := by
  obtain ⟨ns, i, c, k, j, h1, h2, h3⟩ := t
  exact ⟨ns, i, c, k, j, g _ _ h1, g _ _ h2, h3⟩
theorem TapeAt.new {H : Hp} {tp l p : Addr} (t : TapeAt H tp l) (h : H p = none) : p ≠ tp ∧ p ≠ l := by
  obtain ⟨ns, i, c, k, j, h1, h2, h3⟩ := t
  exact ⟨(ne_of_none h1 h).symm, (ne_of_none h2 h).symm⟩
theorem TapeAt.upd {H : Hp} {tp l p : Addr} {o : HO} (t : TapeAt H tp l) (n : p ≠ tp ∧ p ≠ l) : TapeAt (L2.upd H p o) tp l := by
  obtain ⟨ns, i, c, k, j, h1, h2, h3⟩ := t
  exact ⟨ns, i, c, k, j, by rw [upd_ne n.1.symm]; exact h1, by rw [upd_ne n.2.symm]; exact h2, h3⟩
theorem keep_lst {H : Hp} {p : Addr} {xs ys : List V} (h : H p = some (.lst xs)) : Keep H (upd H p (.lst ys)) := fun b o hb n => by
  rw [upd_ne (fun e => by rw [e, h] at hb; exact n _ (Option.some.inj hb).symm)]
  exact hb
theorem paired_snoc {α β : Type} {R : α → β → Prop} : ∀ {xs : List α} {ys : List β} {x : α} {y : β}, Paired R xs ys → R x y → Paired R (xs ++ [x]) (ys ++ [y])
  | _, _, _, _, .nil, h => .cons h .nil
  | _, _, _, _, .cons r t, h => .cons r (paired_snoc t h)
theorem sum_bound {B : Nat} : ∀ (l : List Nat), (∀ x ∈ l, x ≤ B) → l.sum ≤ B * l.length
  | [], _ => by simp
  | x :: l, h => by
    have h1 := h x List.mem_cons_self
    have h2 := sum_bound l fun y hy => h y (List.mem_cons_of_mem _ hy)
    rw [List.sum_cons, List.length_cons, Nat.mul_succ]
    omega
theorem tape_ne {H : Hp} {tp l : Addr} {ns : List Int} {i c m n : Int} (h1 : H tp = some (.lst [.ref l, .int i, .int c, .int m, .int n])) (h2 : H l = some (.lst (ns.map V.int))) : l ≠ tp := fun e => by
  rw [e, h1] at h2
  cases ns with
  | nil => cases h2
  | cons a r => cases h2
theorem at_getD {L : List Int} {k : Nat} (h : k < L.length) : atI (L.map V.int) (k : Int) = some (V.int (L.getD k 0)) := by
  refine atI_nat ?_
  rw [List.getElem?_map, List.getD_eq_getElem?_getD, List.getElem?_eq_getElem h]
  rfl
theorem ixN_nat {n k : Nat} (h : k < n) : ixN n (k : Int) = some k := by
  unfold ixN
  rw [if_pos (by omega), if_pos (by omega)]
  rfl
theorem in_ints (n : Int) : ∀ ns : List Int, inV (.int n) (ns.map V.int) = decide (n ∈ ns)
  | [] => rfl
  | m :: ns => by
    have ih := in_ints n ns
    unfold inV at ih ⊢
    rw [List.map_cons, List.any_cons, ih]
    have e : eqV (V.int m) (V.int n) = decide (m = n) := by
      show (m == n) = decide (m = n)
      by_cases h : m = n
      · rw [decide_eq_true h, h]
        exact beq_self_eq_true n
      · rw [decide_eq_false h]
        exact beq_eq_false_iff_ne.mpr h
    rw [e]
    by_cases h : m = n
    · subst h
      simp
    · have h' : ¬ n = m := fun z => h z.symm
      simp [h, h']
theorem flat_ints (ns : List Int) : (ns.map V.int).all flatV = true := by
  rw [List.all_map]
  exact List.all_eq_true.mpr fun _ _ => rfl
end Nm
namespace NmD
open PySem PySem.Spec PyProof.Rows L2 PySem.W PySem.SeqAt
mutual
/-- no list and no dict in it -/
def pureD : PyData → Bool
  | .none => true
  | .bool _ => true
  | .int _ => true
  | .str _ => true
  | .list _ => false
  | .tuple xs => pureAll xs
  | .dict _ => false
def pureAll : List PyData → Bool
  | [] => true
  | x :: xs => pureD x && pureAll xs
end
def Tups (h h' : Heap) : Prop := ∀ b o, h.get? b = some o → o.cls = .type "tuple" → h'.get? b = some o
mutual
theorem reads_keep {h h' : Heap} (kp : Tups h h') : ∀ (d : PyData) (v : Value) (as : List Addr), pureD d = true → Reads h v d as → ∃ bs, Reads h' v d bs
  | .none, _, _, _, r => by
    cases r
    exact ⟨_, .none⟩
  | .bool b, _, _, _, r => by
    cases r
    exact ⟨_, .bool b⟩
  | .int i, _, _, _, r => by
    cases r
    exact ⟨_, .int i _⟩
  | .str x, _, _, _, r => by
    cases r
    exact ⟨_, .str x _⟩
  | .list xs, _, _, p, _ => by
    unfold pureD at p
    cases p
  | .dict xs, _, _, p, _ => by
    unfold pureD at p
    cases p
  | .tuple xs, _, _, p, r => by
    cases r with
    | tuple h1 h2 h3 h4 =>
      obtain ⟨bs, q⟩ := reads_keepA kp xs _ _ (by unfold pureD at p; exact p) h4
      exact ⟨bs, .tuple (kp _ _ h1 h2) h2 h3 q⟩
theorem reads_keepA {h h' : Heap} (kp : Tups h h') : ∀ (ds : List PyData) (vs : List Value) (as : List Addr), pureAll ds = true → ReadsAll h vs ds as → ∃ bs, ReadsAll h' vs ds bs
  | [], _, _, _, r => by
    cases r
    exact ⟨_, .nil⟩
  | d :: ds, _, _, p, r => by
    cases r with
    | cons r1 r2 =>
      unfold pureAll at p
      rw [Bool.and_eq_true] at p
      obtain ⟨b1, q1⟩ := reads_keep kp d _ _ p.1 r1
      obtain ⟨b2, q2⟩ := reads_keepA kp ds _ _ p.2 r2
      exact ⟨_, .cons q1 q2⟩
end
/-- the first item of each -/
def Firsts (h : Heap) : List Value → List (Option Value) → Prop
  | [], [] => True
  | v :: vs, f :: fs => (∃ a o xs n, v = .ref a ∧ h.get? a = some o ∧ o.cls = .type "tuple" ∧ o.data = .seq xs n ∧ xs[0]? = f) ∧ Firsts h vs fs
  | _, _ => False
section
variable {M : Model} {A : Around} {E : Value → Shared → Prop} {s : Shared}
theorem firsts_run : ∀ (vs : List Value) (fs : List (Option Value)) {Q : List (Option Value) → Shared → Prop}, Firsts s.heap vs fs → Q fs s → wpAny M A (vs.mapM firstOfTuple') Q E s
  | [], [], _, _, h => by rw [List.mapM_nil]; exact wpAny_pure h
  | [], _ :: _, _, t, _ => t.elim
  | _ :: _, [], _, t, _ => t.elim
  | v :: vs, f :: fs, Q, t, h => by
    obtain ⟨⟨a, o, xs, n, rfl, ho, hc, hd, hf⟩, t⟩ := t
    rw [List.mapM_cons]
    refine wpAny_bind ?_
    rw [kas_first_eq]
    refine wpAny_bind (Looks.here (show Looks M s.heap (typeOf (.ref a)) o.cls from (Looks.ld ho).andThen .now) ?_)
    rw [hc, if_neg (by first | decide | simp)]
    refine wpAny_bind (listItems_at ho hd (wpAny_pure ?_))
    rw [hf]
    exact wpAny_bind (firsts_run vs fs (Q := fun bs s' => wpAny M A (pure (f :: bs)) Q E s') t (wpAny_pure h))
theorem firsts_typ : ∀ {vs : List Value} {fs : List (Option Value)}, Firsts s.heap vs fs → ∀ v ∈ vs, Looks M s.heap (typeOf v) (.type "tuple")
  | [], _, _, v, hv => absurd hv (List.not_mem_nil)
  | _ :: _, [], t, _, _ => t.elim
  | u :: us, f :: fs, t, v, hv => by
    obtain ⟨⟨a, o, xs, n, rfl, ho, hc, hd, hf⟩, t⟩ := t
    rcases List.mem_cons.mp hv with rfl | hv
    · have L : Looks M s.heap (typeOf (.ref a)) o.cls := (Looks.ld ho).andThen .now
      rw [hc] at L
      exact L
    · exact firsts_typ t v hv
/-- an empty one among them -/
theorem kind_mix {vs : List Value} {fs : List (Option Value)} {Q : SortKind → Shared → Prop} (t : Firsts s.heap vs fs) (hn : (fs.toArray.all fun x => x.isSome) = false) (h : ∀ κ, κ = general' ∨ κ = oneType' → Q κ s) :
    wpAny M A (keyKind' vs.toArray) Q E s := by
  rw [kat_kind_eq, List.mapM_toArray, map_eq_pure_bind]
  refine wpAny_bind (wpAny_bind (firsts_run vs _ t (wpAny_pure ?_)))
  rw [if_neg (by rw [hn]; exact Bool.false_ne_true)]
  refine wpAny_ite ?_
  split
  · exact wpAny_pure (h _ (.inl rfl))
  · rw [oneTypeOnly'_eq, List.mapM_toArray, map_eq_pure_bind]
    refine wpAny_bind (wpAny_bind (wpAny_bind (kas_mapM (r := Value.type "tuple") _ (fun v hv Q' hq => (firsts_typ t v hv).here hq) (wpAny_pure ?_))))
    split
    · split
      · exact wpAny_pure (wpAny_pure (h _ (.inr rfl)))
      · exact wpAny_pure (wpAny_pure (h _ (.inl rfl)))
    · exact wpAny_pure (wpAny_pure (h _ (.inl rfl)))
theorem kat_of : ∀ {vs : List Value} {fs : List (Option Value)}, Firsts s.heap vs fs → (fs.toArray.all fun x => x.isSome) = true → ∃ gs, fs = gs.map some ∧ KatTups s.heap vs gs
  | [], [], _, _ => ⟨[], rfl, KatTups.nil⟩
  | [], _ :: _, t, _ => t.elim
  | _ :: _, [], t, _ => t.elim
  | v :: vs, f :: fs, t, e => by
    obtain ⟨⟨a, o, xs, n, rfl, ho, hc, hd, hf⟩, t⟩ := t
    have e' : f.isSome = true ∧ (fs.all fun x => x.isSome) = true := by simpa using e
    obtain ⟨gs, rfl, kt⟩ := kat_of t (by simpa using e'.2)
    obtain ⟨g, rfl⟩ := Option.isSome_iff_exists.mp e'.1
    exact ⟨g :: gs, rfl, ⟨a, o, xs, n, rfl, ho, hc, hd, hf⟩, kt⟩
end
def tyD : PyData → String
  | .int _ => "int"
  | .str _ => "str"
  | .tuple _ => "tuple"
  | .bool _ => "bool"
  | .none => "NoneType"
  | .list _ => "list"
  | .dict _ => "dict"
section
variable {prog : Program} {w : World} {A : Around} {E : Value → Shared → Prop} {s : Shared}
theorem look_ty {M : Model} {h : Heap} {z : PyData} {v : Value} {as : List Addr} (p : pureD z = true) (r : Reads h v z as) : Looks M h (typeOf v) (.type (tyD z)) := by
  cases r with
  | none => exact Looks.now
  | bool b => exact Looks.now
  | int i t => exact Looks.now
  | str x t => exact Looks.now
  | list _ _ _ _ =>
    unfold pureD at p
    cases p
  | dict _ _ _ _ _ =>
    unfold pureD at p
    cases p
  | @tuple a o vs n xs as h1 h2 h3 h4 =>
    have L : Looks M h (typeOf (.ref a)) o.cls := (Looks.ld h1).andThen .now
    rw [h2] at L
    exact L
theorem alike_ty {x y : PyData} (h : alike x y = true) : tyD x = tyD y := by
  cases x <;> cases y <;> first | rfl | exact absurd h (by simp [alike])
/-- what is known of the items: tuples, as k tells, of such data, any two of them alike -/
structure Rows (h : Heap) (vs : List Value) (k : Value → List PyData) : Prop where
  rd : ∀ v ∈ vs, ∃ as, Reads h v (.tuple (k v)) as
  pu : ∀ v ∈ vs, pureAll (k v) = true
  al : ∀ v ∈ vs, ∀ u ∈ vs, alikeAll (k v) (k u) = true
  dp : ∀ v ∈ vs, PyData.depthAll (k v) ≤ 40
abbrev ltD (k : Value → List PyData) (v u : Value) : Bool := PyProof.Rows.lexLt itemOrd (keyToksAll (k v)) (keyToksAll (k u))
theorem ltD_swo (k : Value → List PyData) : SrtO.Swo (ltD k) := by
  refine ⟨fun x y h => ?_, fun x y z h1 h2 => ?_⟩
  · cases e : ltD k y x with
    | false => rfl
    | true =>
      have z := (listOrd itemOrd).trans _ _ _ h e
      rw [(listOrd itemOrd).irrefl] at z
      cases z
  · cases e : ltD k z x with
    | false => rfl
    | true =>
      rcases (listOrd itemOrd).negTrans _ (keyToksAll (k y)) _ e with q | q
      · rw [show ltD k z y = true from q] at h2
        cases h2
      · rw [show ltD k y x = true from q] at h1
        cases h1
theorem Rows.keep {h h' : Heap} {vs : List Value} {k : Value → List PyData} (R : Rows h vs k) (kp : Tups h h') : Rows h' vs k :=
  ⟨fun v hv => by
    obtain ⟨as, r⟩ := R.rd v hv
    exact reads_keep kp _ _ _ (by unfold pureD; exact R.pu v hv) r, R.pu, R.al, R.dp⟩
theorem rows_firsts {h : Heap} : ∀ {vs : List Value} {k : Value → List PyData}, Rows h vs k → ∃ fs, Firsts h vs fs ∧ ∀ f ∈ fs, ∀ g, f = some g → ∃ v ∈ vs, ∃ z r as, k v = z :: r ∧ Reads h g z as
  | [], _, _ => ⟨[], trivial, fun f hf => absurd hf (List.not_mem_nil)⟩
  | v :: vs, k, R => by
    obtain ⟨fs, t, q⟩ := rows_firsts (vs := vs) (k := k) ⟨fun u hu => R.rd u (List.mem_cons_of_mem _ hu), fun u hu => R.pu u (List.mem_cons_of_mem _ hu), fun u hu x hx => R.al u (List.mem_cons_of_mem _ hu) x (List.mem_cons_of_mem _ hx), fun u hu => R.dp u (List.mem_cons_of_mem _ hu)⟩
    obtain ⟨as, r⟩ := R.rd v List.mem_cons_self
    generalize hd : k v = d at r
    cases r with
    | @tuple a o xs n ds as h1 h2 h3 h4 =>
      refine ⟨xs[0]? :: fs, ⟨⟨a, o, xs, n, rfl, h1, h2, h3, rfl⟩, t⟩, fun f hf g e => ?_⟩
      rcases List.mem_cons.mp hf with rfl | hf
      · obtain ⟨xl⟩ := xs
        cases h4 with
        | nil => simp at e
        | @cons v0 vs0 d0 ds0 a0 b0 r1 r2 =>
          have e' : v0 = g := by simpa using e
          subst e'
          exact ⟨.ref a, List.mem_cons_self, _, _, _, hd, r1⟩
      · obtain ⟨u, hu, z⟩ := q f hf g e
        exact ⟨u, List.mem_cons_of_mem _ hu, z⟩
theorem call_tuple_lt {Q : Value → Shared → Prop} {l b : Addr} {items items2 : Array Value} {e r : Nat → Bool} (hl : s.heap.IsTuple l items) (hb : s.heap.IsTuple b items2)
    (he : ∀ j (h1 : j < items.size) (h2 : j < items2.size), EqAt A.in1 s items[j] items2[j] (e j)) (hr : ∀ j (h1 : j < items.size) (h2 : j < items2.size), e j = false → RcLt A.in1 s items[j] items2[j] (r j))
    (h : Q (.bool (firstLt e r (decide (items.size < items2.size)) (List.range (min items.size items2.size)))) s) : wpAny (model prog w) A (call (.builtin "tuple.__lt__") [.ref l, .ref b]) Q E s := by
  obtain ⟨⟨cls, dd, data, sl⟩, ho, hc, n, hd⟩ := id hl
  obtain ⟨⟨cls2, dd2, data2, sl2⟩, ho2, hc2, n2, hd2⟩ := id hb
  simp only at hc hd hc2 hd2
  subst hc hd hc2 hd2
  exact call_meets F.slot_tuple_lt ⟨_, ho, rfl⟩ F.entry_tuple_lt (F.args_tuple_lt_2 _ _) (PySem.SeqAt.tuple_ltAt l b items items2 n n2 dd dd2 sl sl2 e r) ⟨ho, ho2, he, hr, h⟩
theorem one_tup {xs ys : List PyData} {a b : Value} {as bs : List Addr} {Q : Bool → Shared → Prop} (f : Bool) (ra : Reads s.heap a (.tuple xs) as) (rb : Reads s.heap b (.tuple ys) bs) (hal : alikeAll xs ys = true)
    (hu : A.units + min (PyData.tuple xs).depth (PyData.tuple ys).depth < cLine) (hq : Q (PyProof.Rows.lexLt itemOrd (keyToksAll xs) (keyToksAll ys)) s) : wpAny (model prog w) A (oneLt' f a b) Q E s := by
  cases f with
  | false => exact oneLt_alike (fun z => absurd z Bool.false_ne_true) ra rb (by simpa [alike] using hal) (fun z => nomatch z) hu (by rw [dataLt_tuple]; exact hq)
  | true =>
    cases ra with
    | @tuple l o vs n _ as₁ h1 h2 h3 h4 =>
      cases rb with
      | @tuple l' o' vs' n' _ bs₁ k1 k2 k3 k4 =>
        have n1 : vs.size = xs.length := by simpa using ReadsAll.length _ _ _ h4
        have n2 : vs'.size = ys.length := by simpa using ReadsAll.length _ _ _ k4
        rw [← firstLt_toks xs ys hal, ← n1, ← n2] at hq
        rw [oneLt'_eq]
        simp only [if_true]
        refine wpAny_bind (wpAny_cRoomFor (room_here hu) ?_)
        refine wpAny_bind (wpAny_callSpecialIfBound?_slot (T := "tuple") ⟨_, h1, h2⟩ F.slot_tuple_lt (call_tuple_lt (e := pairEq xs ys) (r := fun j => dataLt (xs.getD j .none) (ys.getD j .none)) ⟨_, h1, h2, _, h3⟩ ⟨_, k1, k2, _, k3⟩ (fun j j1 j2 => ?_) (fun j j1 j2 hj => ?_) ?_))
        · have := eqAt_alikeAll xs ys A.in1 s vs.toList vs'.toList _ _ h4 k4 hal (room_in hu) j (by simpa using j1) (by simpa using j2)
          simpa using this
        · have := rcLt_alikeAll xs ys A.in1 s vs.toList vs'.toList _ _ h4 k4 hal (room_in hu) j (by simpa using j1) (by simpa using j2) hj
          simpa using this
        · exact wpAny_truthy_bool hq
theorem dep (xs ys : List PyData) (h : PyData.depthAll xs ≤ 40) : min (PyData.tuple xs).depth (PyData.tuple ys).depth ≤ 41 := by
  have e : (PyData.tuple xs).depth = PyData.depthAll xs + 1 := by first | rfl | simp [PyData.depth]
  omega
theorem cmp_rows {vs : List Value} {k : Value → List PyData} {κ : SortKind} (R : Rows s.heap vs k) (hu : A.units + 64 < cLine) (hk : κ = general' ∨ κ = oneType' ∨ ∃ b, κ = tuples' b ∧ (b = true → ∀ v ∈ vs, ∀ z r t, k v = z :: r → z ≠ .tuple t)) :
    SrtO.Cmp prog w A s κ (fun p => p.1 ∈ vs) (SrtO.lt2 (ltD k)) := by
  intro p q hp hq
  obtain ⟨as, ra⟩ := R.rd _ hp
  obtain ⟨bs, rb⟩ := R.rd _ hq
  have al := R.al _ hp _ hq
  have d := dep (k p.1) (k q.1) (R.dp _ hp)
  rcases hk with rfl | rfl | ⟨b, rfl, hb⟩
  · exact one_tup false ra rb al (by omega) ⟨rfl, rfl⟩
  · exact one_tup true ra rb al (by omega) ⟨rfl, rfl⟩
  · have hf := hb
    generalize hx : k p.1 = xs at ra
    generalize hy : k q.1 = ys at rb
    have dx := R.dp _ hp
    have dl : ltD k p.1 q.1 = PyProof.Rows.lexLt itemOrd (keyToksAll xs) (keyToksAll ys) := by rw [← hx, ← hy]
    rw [hx] at dx al
    rw [hy] at al
    show wpAny (model prog w) A (keyLt' (tuples' b) p.1 q.1) (fun r s' => s' = s ∧ r = ltD k p.1 q.1) (fun _ _ => False) s
    rw [dl]
    have hfp := fun (z : b = true) => hf z p.1 hp
    generalize p.1 = pv at ra hfp hx
    generalize q.1 = qv at rb hy
    cases ra with
    | @tuple l o vs n _ as₁ h1 h2 h3 h4 =>
      cases rb with
      | @tuple l' o' vs' n' _ bs₁ k1 k2 k3 k4 =>
        have n1 : vs.size = xs.length := by simpa using ReadsAll.length _ _ _ h4
        have n2 : vs'.size = ys.length := by simpa using ReadsAll.length _ _ _ k4
        refine kat_lt h1 h3 k1 k3 ?_
        refine katLex_alike xs ys 0 _ _ _ _ h4 k4 al (by omega) (fun z _ x r t e => hfp z x r t (by rw [hx, e])) (by rw [n1, n2]) ⟨rfl, rfl⟩
theorem rows_sortable {a : Addr} {vs : List Value} {k : Value → List PyData} (R : Rows s.heap vs k) (hu : A.units + 64 < cLine) (h0 : 0 < vs.length) (ha : ∀ o, s.heap.get? a = some o → o.cls ≠ .type "tuple") : SrtO.SortableO prog w A s a vs (ltD k) := by
  intro h' keep
  have R' : Rows h' vs k := R.keep fun b o e c => keep b o (fun z => by subst z; exact ha o e c) e
  obtain ⟨fs, t, q⟩ := rows_firsts R'
  cases e : (fs.toArray.all fun x => x.isSome) with
  | false =>
    have hne : ∃ κ, (κ = general' ∨ κ = oneType') ∧ ∀ (Q : SortKind → Shared → Prop) (E : Value → Shared → Prop), Q κ { s with heap := h' } → wpAny (model prog w) A (keyKind' vs.toArray) Q E { s with heap := h' } := by
      by_cases c : (fs.toArray[0]?.bind id).isSome = true
      · refine ⟨general', .inl rfl, fun Q E hq => ?_⟩
        rw [kat_kind_eq, List.mapM_toArray, map_eq_pure_bind]
        refine wpAny_bind (wpAny_bind (firsts_run vs _ t (wpAny_pure ?_)))
        rw [if_neg (by rw [e]; exact Bool.false_ne_true), if_pos c]
        exact wpAny_pure hq
      · refine ⟨oneType', .inr rfl, fun Q E hq => ?_⟩
        rw [kat_kind_eq, List.mapM_toArray, map_eq_pure_bind]
        refine wpAny_bind (wpAny_bind (firsts_run vs _ t (wpAny_pure ?_)))
        rw [if_neg (by rw [e]; exact Bool.false_ne_true), if_neg c]
        rw [oneTypeOnly'_eq, List.mapM_toArray, map_eq_pure_bind]
        refine wpAny_bind (wpAny_bind (wpAny_bind (kas_mapM (r := Value.type "tuple") _ (fun v hv Q' hq => (firsts_typ (s := { s with heap := h' }) t v hv).here hq) (wpAny_pure ?_))))
        obtain ⟨v1, vr, rfl⟩ : ∃ v1 vr, vs = v1 :: vr := by
          match vs, h0 with
          | v1 :: vr, _ => exact ⟨v1, vr, rfl⟩
        have hall : ((List.map (fun _ => Value.type "tuple") (v1 :: vr)).toArray.all fun x => x == Value.type "tuple") = true := by
          simp only [List.all_toArray, List.all_map, List.all_eq_true]
          intro _ _
          exact (by rfl : (Value.type "tuple" == Value.type "tuple") = true)
        have hz : (List.map (fun _ => Value.type "tuple") (v1 :: vr)).toArray[0]? = some (Value.type "tuple") := by simp
        rw [hz]
        simp only [hall, if_true]
        exact wpAny_pure (wpAny_pure hq)
    obtain ⟨κ, hκ, run⟩ := hne
    exact ⟨κ, run, cmp_rows (s := { s with heap := h' }) R' hu (by rcases hκ with z | z; exact .inl z; exact .inr (.inl z))⟩
  | true =>
    obtain ⟨gs, rfl, kt⟩ := kat_of (s := { s with heap := h' }) t e
    have lg : gs.length = vs.length := by
      have l : ∀ {us : List Value} {gs : List Value}, KatTups h' us gs → gs.length = us.length := by
        intro us
        induction us with
        | nil =>
          intro gs t
          cases gs with
          | nil => rfl
          | cons _ _ => exact t.elim
        | cons u us ih =>
          intro gs t
          cases gs with
          | nil => exact t.elim
          | cons g gs => rw [List.length_cons, List.length_cons, ih t.2]
      exact l kt
    obtain ⟨g1, gr, rfl⟩ : ∃ g1 gr, gs = g1 :: gr := by
      match gs, (show 0 < gs.length by omega) with
      | g1 :: gr, _ => exact ⟨g1, gr, rfl⟩
    obtain ⟨v1, hv1, z1, r1, as1, e1, rd1⟩ := q (some g1) (by simp) g1 rfl
    have same : ∀ v ∈ vs, ∀ z r, k v = z :: r → tyD z = tyD z1 := fun v hv z r ez => by
      have a := R.al v hv v1 hv1
      rw [ez, e1] at a
      exact alike_ty (alike_all_cons a).1
    refine ⟨tuples' (Value.type (tyD z1) != Value.type "tuple"), fun Q E hq => ?_, cmp_rows (s := { s with heap := h' }) R' hu (.inr (.inr ⟨_, rfl, fun hb v hv z r t ez c => ?_⟩))⟩
    · refine kat_kind (T := .type (tyD z1)) kt (by simp) (fun f hf => ?_) (by simp) hq
      obtain ⟨v, hv, z, r, as, ez, rz⟩ := q (some f) (List.mem_map.mpr ⟨f, hf, rfl⟩) f rfl
      rw [← same v hv z r ez]
      refine look_ty ?_ rz
      have p := R.pu v hv
      rw [ez] at p
      unfold pureAll at p
      exact (Bool.and_eq_true _ _ ▸ p).1
    · have w := same v hv z r ez
      rw [c] at w
      rw [← w] at hb
      exact absurd hb (show ¬ ((Value.type "tuple" != Value.type "tuple") = true) by decide)
end
/-- x before y, as Python orders these tuples -/
abbrev ltV (k : V → List PyData) (x y : V) : Bool := PyProof.Rows.lexLt itemOrd (keyToksAll (k x)) (keyToksAll (k y))
theorem ltV_swo (k : V → List PyData) : SrtO.Swo (ltV k) := by
  refine ⟨fun x y h => ?_, fun x y z h1 h2 => ?_⟩
  · cases e : ltV k y x with
    | false => rfl
    | true =>
      have z := (listOrd itemOrd).trans _ _ _ h e
      rw [(listOrd itemOrd).irrefl] at z
      cases z
  · cases e : ltV k z x with
    | false => rfl
    | true =>
      rcases (listOrd itemOrd).negTrans _ (keyToksAll (k y)) _ e with q | q
      · rw [show ltV k z y = true from q] at h2
        cases h2
      · rw [show ltV k y x = true from q] at h1
        cases h1
/-- sorted(xs), xs a list of tuples (k tells them) of numbers, texts, tuples of these, any two of them alike: a new list, sorted, equal ones in their order -/
def rSortD (K : PySem.W.Frag) : List V → Hp → VK → Prop := fun vs H Q => ∃ (a : Addr) (xs : List V) (k : V → List PyData), vs = [V.ref a] ∧ SqL K H a xs ∧ (∀ x ∈ xs, (∃ t, x = V.ref t) ∧ Dp K H x (.tuple (k x)) ∧ pureAll (k x) = true ∧ PyData.depthAll (k x) ≤ 40) ∧
  (∀ x ∈ xs, ∀ y ∈ xs, alikeAll (k x) (k y) = true) ∧ ∀ ys p, SrtO.Srtd (ltV k) ys → SrtO.Stb (ltV k) ys xs → H p = none → Q (.ref p) (upd H p (.lst ys))
section
variable {X : Cx}
theorem cr_sortD (hu : X.A.units + 66 < cLine) : CallR X (.builtin "sorted") (rSortD X.K) := by
  intro pins s σ H vs us Q I r h
  obtain ⟨a, xs, k, rfl, hs, hx, al, q⟩ := h
  obtain ⟨its, rv, hl, hz⟩ := I.list hs
  obtain ⟨u, rfl, ru⟩ := vals1 r
  obtain rfl : u = Value.ref a := ru
  obtain ⟨e1, e2⟩ := refs_back rv fun x m => (hx x m).1
  have back : ∀ v ∈ its, backV v ∈ xs := fun v hv => by
    rw [e1]
    exact List.mem_map.mpr ⟨_, hv, rfl⟩
  have R : Rows s.heap its (fun u => k (backV u)) := ⟨fun v hv => by
      obtain ⟨t, rfl⟩ := e2 v hv
      exact Dp.reads I _ (backV (.ref t)) (.ref t) (hx _ (back _ hv)).2.1 rfl, fun v hv => (hx _ (back v hv)).2.2.1, fun v hv u hu => al _ (back v hv) _ (back u hu), fun v hv => (hx _ (back v hv)).2.2.2⟩
  refine SrtO.sorted_ord (ltv := ltD fun u => k (backV u)) (ltD_swo _) hl.isList (by rw [← rv.length]; exact hz) (fun h2 h₁ b hb kk => ?_) fun out h1 h2 => ?_
  · refine rows_sortable (s := { s with heap := h₁ }) (R.keep fun c o e _ => (kk c o e).2) (by show X.A.units + 1 + 1 + 64 < cLine; omega) (by omega) fun o e => ?_
    have e' : some o = some (seqObj "list" its.toArray 0) := e.symm.trans hb
    cases e'
    intro c
    exact absurd (Value.type.inj c) (by decide)
  · have h3 : ∀ u ∈ out, ∃ a, u = Value.ref a := fun u hu => e2 u (h2.perm.mem_iff.mp hu)
    obtain ⟨n, hn⟩ := PyProof.Rows.sortedAll_at s.heap its out.toArray
    have hb : SrtO.Stb (ltV k) (out.map backV) xs := by
      rw [e1]
      exact SrtO.Stb.map (ltV_swo k) backV h2
    refine ⟨.ref (s.heap.objs.size + 1), upd H (s.heap.objs.size + 1) (.lst (out.map backV)), I.laid (t' := s.toks) (fun b o e => PyProof.Rows.sortedAll_old e) (Nat.le_succ _) ⟨?_, out, n, vals_back h3, hn⟩, rfl, q _ _ (SrtO.srtd_map h1) hb (I.hok.fresh (Nat.le_succ _))⟩
    rw [hb.len]
    exact hz
end
end NmD
namespace Nm
open PySem PySem.Spec PyProof.Rows L2 NmD
/-! ### rows of words as data -/
abbrev rowL (ws : List Str) : List PyData := ws.map PyData.str
theorem rowL_nil : rowL [] = [] := rfl
theorem rowL_cons (w : Str) (ws : List Str) : rowL (w :: ws) = PyData.str w :: rowL ws := rfl
abbrev rowD (ws : List Str) : PyData := .tuple (rowL ws)
theorem dpAll_row {K : PySem.W.Frag} {H : Hp} : ∀ ws : List Str, DpAll K H (ws.map V.str) (rowL ws)
  | [] => .nil
  | w :: ws => .cons (.str w) (dpAll_row ws)
theorem dp_row {K : PySem.W.Frag} {H : Hp} {a : Addr} {ws : List Str} (h : H a = some (.tup (ws.map V.str))) : Dp K H (.ref a) (rowD ws) := .tup (SqT.of h) (dpAll_row ws)
theorem eqv_rowL : ∀ a b : List Str, PyData.eqvAll (rowL a) (rowL b) = decide (a = b)
  | [], [] => by simp [PyData.eqvAll]
  | [], _ :: _ => by simp [PyData.eqvAll]
  | _ :: _, [] => by simp [PyData.eqvAll]
  | x :: a, y :: b => by
    have ih := eqv_rowL a b
    rw [rowL_cons, rowL_cons, PyData.eqvAll, ih, PyData.eqv]
    by_cases h : x = y
    · subst h
      simp
    · simp [h]
theorem eqv_row (a b : List Str) : PyData.eqv (rowD a) (rowD b) = decide (a = b) := by rw [PyData.eqv, eqv_rowL]
theorem depth_rowL : ∀ ws : List Str, PyData.depthAll (rowL ws) = 0
  | [] => by simp [PyData.depthAll]
  | w :: ws => by
    rw [rowL_cons, PyData.depthAll, depth_rowL ws, PyData.depth]
    rfl
theorem lay_rowL : ∀ ws : List Str, (∀ z ∈ ws, PyData.canLay0 (.str z) = true) → PyData.canLayAll0 (rowL ws) = true
  | [], _ => by simp [PyData.canLayAll0]
  | w :: ws, h => by
    rw [rowL_cons, PyData.canLayAll0, h w List.mem_cons_self, lay_rowL ws fun z hz => h z (List.mem_cons_of_mem _ hz)]
    rfl
theorem shaped_row {ws : List Str} (h : ∀ z ∈ ws, PyData.canLay0 (.str z) = true) : SeqAt.shaped (rowD ws) = true := by
  unfold SeqAt.shaped
  rw [PyData.canLay0, lay_rowL ws h, PyData.depth, depth_rowL]
  decide
theorem pure_rowL : ∀ ws : List Str, pureAll (rowL ws) = true
  | [] => by simp [pureAll]
  | w :: ws => by
    rw [rowL_cons, pureAll, pure_rowL ws, pureD]
    rfl
theorem alike_rowL : ∀ a b : List Str, PySem.W.alikeAll (rowL a) (rowL b) = true
  | [], [] => by simp [PySem.W.alikeAll]
  | [], _ :: _ => by simp [PySem.W.alikeAll]
  | _ :: _, [] => by simp [PySem.W.alikeAll]
  | x :: a, y :: b => by
    rw [rowL_cons, rowL_cons, PySem.W.alikeAll, alike_rowL a b, PySem.W.alike]
    rfl
abbrev rowLt (a b : List Str) : Bool := PyProof.Rows.lexLt itemOrd (PySem.W.keyToksAll (rowL a)) (PySem.W.keyToksAll (rowL b))
theorem row_pre : ∀ (p a b : List Str), rowLt (p ++ a) (p ++ b) = rowLt a b
  | [], a, b => rfl
  | w :: p, a, b => by
    have ih := row_pre p a b
    unfold rowLt at ih ⊢
    rw [List.cons_append, List.cons_append, rowL_cons, rowL_cons, PySem.W.toks_all_cons, PySem.W.toks_all_cons, lex_self, PySem.W.lex_pre]
    exact ih
/-- a row comes before each that begins with it -/
theorem row_more (a : List Str) (w : Str) : rowLt a (a ++ [w]) = true := by
  have h := row_pre a [] [w]
  rw [List.append_nil] at h
  rw [h]
  unfold rowLt
  rw [rowL_nil, rowL_cons, PySem.W.toks_all_cons]
  simp only [PySem.W.keyToksAll]
  rw [lex_diff (O := itemOrd) (by simp)]
  rfl
/-! ### pieces of tuples -/
theorem sl_last {K : PySem.W.Frag} {H : Hp} {a : Addr} {xs : List V} {Q : VK} (h : H a = some (.tup xs)) (q : ∀ r H', Same H H' → H' r = some (.tup xs.dropLast) → Q (.ref r) H') : rSlA K (.ref a) none (some (-1)) H Q := by
  have s1 : HT.sIx xs.length xs.length (some (-1)) = xs.length - 1 := by
    show (if (-1 : Int) < 0 then ((-1 : Int) + (xs.length : Int)).toNat else min (-1 : Int).toNat xs.length) = xs.length - 1
    rw [if_pos (by decide)]
    omega
  refine ⟨a, xs, rfl, SqT.of h, fun z => ?_, fun z p hp => ?_⟩
  · have e := z.2
    rw [s1] at e
    have : xs = [] := List.eq_nil_of_length_eq_zero (by omega)
    subst this
    exact q a H (Same.refl H) h
  · refine q p _ (same_new hp) ?_
    rw [upd_same]
    unfold cutV
    rw [s1, HT.sIx_none, List.drop_zero, Nat.sub_zero, List.dropLast_eq_take]
theorem sl_take {K : PySem.W.Frag} {H : Hp} {a : Addr} {xs : List V} {k : Nat} {Q : VK} (h : H a = some (.tup xs)) (q : ∀ r H', Same H H' → H' r = some (.tup (xs.take k)) → Q (.ref r) H') : rSlA K (.ref a) none (some (k : Int)) H Q := by
  refine ⟨a, xs, rfl, SqT.of h, fun z => ?_, fun z p hp => ?_⟩
  · have e := z.2
    rw [HT.sIx_nat] at e
    refine q a H (Same.refl H) ?_
    rw [List.take_of_length_le (by omega)]
    exact h
  · refine q p _ (same_new hp) ?_
    rw [upd_same]
    unfold cutV
    rw [HT.sIx_nat, HT.sIx_none, List.drop_zero, Nat.sub_zero]
    by_cases c : k ≤ xs.length
    · rw [Nat.min_eq_left c]
    · rw [Nat.min_eq_right (by omega), List.take_of_length_le (Nat.le_refl _), List.take_of_length_le (by omega)]
theorem cat_tups {K : PySem.W.Frag} {H : Hp} {a b : Addr} {xs ys : List V} {Q : VK} (ha : H a = some (.tup xs)) (hb : H b = some (.tup ys)) (l : xs.length + ys.length ≤ 4000) (q : ∀ r H', Same H H' → H' r = some (.tup (xs ++ ys)) → Q (.ref r) H') : rCatA K (.ref a) (.ref b) H Q := by
  have b4 : (4000 : Nat) ≤ PySem.sizeLine := by decide
  refine ⟨a, b, xs, ys, rfl, rfl, SqT.of ha, SqT.of hb, by omega, fun e => ?_, fun _ e => ?_, fun _ _ p hp => q p _ (same_new hp) upd_same⟩
  · subst e
    exact q b H (Same.refl H) hb
  · subst e
    refine q a H (Same.refl H) ?_
    rw [List.append_nil]
    exact ha
/-! ### pairs of numbers -/
abbrev Pr := Int × Int
abbrev prD (p : Pr) : PyData := .tuple [.int p.1, .int p.2]
abbrev prsD (ps : List Pr) : PyData := .list (ps.map prD)
def PrAt (H : Hp) (x : V) (p : Pr) : Prop := ∃ t, x = .ref t ∧ H t = some (.tup [.int p.1, .int p.2])
theorem PrAt.mono {H H' : Hp} (k : ∀ a xs, H a = some (.tup xs) → H' a = some (.tup xs)) {x : V} {p : Pr} (h : PrAt H x p) : PrAt H' x p := by
  obtain ⟨t, e, h1⟩ := h
  exact ⟨t, e, k _ _ h1⟩
/-- a list of pairs -/
def PrsAt (H : Hp) (a : Addr) (ps : List Pr) : Prop := ∃ xs, H a = some (.lst xs) ∧ Paired (PrAt H) xs ps
theorem PrsAt.same {H H' : Hp} (g : Same H H') {a : Addr} {ps : List Pr} (h : PrsAt H a ps) : PrsAt H' a ps := by
  obtain ⟨xs, h1, h2⟩ := h
  exact ⟨xs, g _ _ h1, paired_mono (fun _ _ => PrAt.mono (same_tups g)) h2⟩
theorem dp_pr {K : PySem.W.Frag} {H : Hp} {x : V} {p : Pr} (h : PrAt H x p) : Dp K H x (prD p) := by
  obtain ⟨t, rfl, h1⟩ := h
  exact .tup (SqT.of h1) (.cons (.int _) (.cons (.int _) .nil))
theorem dp_prsL {K : PySem.W.Frag} {H : Hp} : ∀ {xs : List V} {ps : List Pr}, Paired (PrAt H) xs ps → DpAll K H xs (ps.map prD)
  | _, _, .nil => .nil
  | _, _, .cons h t => .cons (dp_pr h) (dp_prsL t)
theorem dp_prs {K : PySem.W.Frag} {H : Hp} {a : Addr} {ps : List Pr} (h : PrsAt H a ps) : Dp K H (.ref a) (prsD ps) := by
  obtain ⟨xs, h1, h2⟩ := h
  exact .lst (SqL.of h1) (dp_prsL h2)
theorem eqv_pr (p q : Pr) : PyData.eqv (prD p) (prD q) = decide (p = q) := by
  obtain ⟨a, b⟩ := p
  obtain ⟨c, d⟩ := q
  simp only [PyData.eqv, PyData.eqvAll]
  by_cases h1 : a = c <;> by_cases h2 : b = d <;> simp [h1, h2]
theorem eqv_prsL : ∀ ps qs : List Pr, PyData.eqvAll (ps.map prD) (qs.map prD) = decide (ps = qs)
  | [], [] => by simp [PyData.eqvAll]
  | [], _ :: _ => by simp [PyData.eqvAll]
  | _ :: _, [] => by simp [PyData.eqvAll]
  | p :: ps, q :: qs => by
    rw [List.map_cons, List.map_cons, PyData.eqvAll, eqv_prsL ps qs, eqv_pr]
    by_cases h1 : p = q <;> by_cases h2 : ps = qs <;> simp [h1, h2]
theorem eqv_prs (ps qs : List Pr) : PyData.eqv (prsD ps) (prsD qs) = decide (ps = qs) := by rw [PyData.eqv, eqv_prsL]
theorem any_pr (q : Pr) : ∀ ps : List Pr, ((ps.map prD).any fun z => PyData.eqv z (prD q)) = decide (q ∈ ps)
  | [] => by simp
  | p :: ps => by
    rw [List.map_cons, List.any_cons, any_pr q ps, eqv_pr]
    by_cases h : p = q
    · subst h
      simp
    · have h' : ¬ q = p := fun z => h z.symm
      simp [h, h']
theorem shaped_pr (p : Pr) : SeqAt.shaped (prD p) = true := by
  unfold SeqAt.shaped
  simp [PyData.canLay0, PyData.canLayAll0, PyData.depth, PyData.depthAll]
theorem lay_prsL : ∀ ps : List Pr, PyData.canLayAll0 (ps.map prD) = true ∧ PyData.depthAll (ps.map prD) ≤ 1
  | [] => by simp [PyData.canLayAll0, PyData.depthAll]
  | p :: ps => by
    obtain ⟨h1, h2⟩ := lay_prsL ps
    rw [List.map_cons, PyData.canLayAll0, h1, PyData.depthAll]
    refine ⟨by simp [PyData.canLay0, PyData.canLayAll0], ?_⟩
    have e : PyData.depth (prD p) ≤ 1 := by simp [PyData.depth, PyData.depthAll]
    omega
theorem shaped_prs (ps : List Pr) : SeqAt.shaped (prsD ps) = true := by
  unfold SeqAt.shaped
  obtain ⟨h1, h2⟩ := lay_prsL ps
  rw [PyData.canLay0, h1, PyData.depth, Bool.true_and]
  exact decide_eq_true (by omega)
end Nm
namespace Nm
open PySem PySem.Spec PyProof.Rows L2
theorem u65 {k : Nat} {A : Around} (r : Room k A) : A.units + 65 < cLine := by
  have := r.un
  omega
theorem u66 {k : Nat} {A : Around} (r : Room k A) : A.units + 66 < cLine := by
  have := r.un
  omega
/-! ### all pairs i < j with f, row by row -/
def rowUp (f : Nat → Nat → Bool) (i k : Nat) : List Pr := (((List.range k).map fun d => i + 1 + d).filter (f i)).map fun (j : Nat) => ((i : Int), (j : Int))
def pairsUp (f : Nat → Nat → Bool) (n m : Nat) : List Pr := (List.range m).flatMap fun i => rowUp f i (n - (i + 1))
abbrev pairsOf (f : Nat → Nat → Bool) (n : Nat) : List Pr := pairsUp f n n
theorem rowUp_one (f : Nat → Nat → Bool) (i k : Nat) : rowUp f i (k + 1) = rowUp f i k ++ (if f i (i + 1 + k) = true then [((i : Int), ((i + 1 + k : Nat) : Int))] else []) := by
  unfold rowUp
  rw [List.range_succ, List.map_append, List.filter_append, List.map_append]
  congr 1
  by_cases h : f i (i + 1 + k) = true
  · rw [if_pos h, List.map_singleton, List.filter_cons_of_pos h]
    rfl
  · rw [if_neg h, List.map_singleton, List.filter_cons_of_neg h]
    rfl
theorem pairsUp_one (f : Nat → Nat → Bool) (n m : Nat) : pairsUp f n (m + 1) = pairsUp f n m ++ rowUp f m (n - (m + 1)) := by
  unfold pairsUp
  rw [List.range_succ, List.flatMap_append]
  simp
theorem mem_rowUp {f : Nat → Nat → Bool} {i k : Nat} {p : Pr} : p ∈ rowUp f i k ↔ ∃ j : Nat, p = ((i : Int), (j : Int)) ∧ i < j ∧ j < i + 1 + k ∧ f i j = true := by
  unfold rowUp
  rw [List.mem_map]
  constructor
  · rintro ⟨j, hj, rfl⟩
    obtain ⟨h1, h2⟩ := List.mem_filter.mp hj
    obtain ⟨d, hd, rfl⟩ := List.mem_map.mp h1
    have := List.mem_range.mp hd
    exact ⟨_, rfl, by omega, by omega, h2⟩
  · rintro ⟨j, rfl, h1, h2, h3⟩
    exact ⟨j, List.mem_filter.mpr ⟨List.mem_map.mpr ⟨j - (i + 1), List.mem_range.mpr (by omega), by omega⟩, h3⟩, rfl⟩
theorem mem_pairsUp {f : Nat → Nat → Bool} {n m : Nat} {p : Pr} : p ∈ pairsUp f n m ↔ ∃ i j : Nat, p = ((i : Int), (j : Int)) ∧ i < j ∧ j < n ∧ i < m ∧ f i j = true := by
  unfold pairsUp
  rw [List.mem_flatMap]
  constructor
  · rintro ⟨i, hi, hp⟩
    obtain ⟨j, e, h1, h2, h3⟩ := mem_rowUp.mp hp
    exact ⟨i, j, e, h1, by omega, List.mem_range.mp hi, h3⟩
  · rintro ⟨i, j, rfl, h1, h2, h3, h4⟩
    exact ⟨i, List.mem_range.mpr h3, mem_rowUp.mpr ⟨j, rfl, h1, by omega, h4⟩⟩
theorem rowUp_congr {f g : Nat → Nat → Bool} {i k : Nat} (h : ∀ j, i < j → j < i + 1 + k → f i j = g i j) : rowUp f i k = rowUp g i k := by
  unfold rowUp
  congr 1
  refine List.filter_congr fun j hj => ?_
  obtain ⟨d, hd, rfl⟩ := List.mem_map.mp hj
  have := List.mem_range.mp hd
  exact h _ (by omega) (by omega)
theorem flat_congr {α β : Type} {f g : α → List β} : ∀ {l : List α}, (∀ x ∈ l, f x = g x) → l.flatMap f = l.flatMap g
  | [], _ => rfl
  | x :: l, h => by rw [List.flatMap_cons, List.flatMap_cons, h x List.mem_cons_self, flat_congr fun y hy => h y (List.mem_cons_of_mem _ hy)]
theorem pairsOf_congr {f g : Nat → Nat → Bool} {n : Nat} (h : ∀ i j, i < j → j < n → f i j = g i j) : pairsOf f n = pairsOf g n := by
  refine flat_congr fun i hi => rowUp_congr fun j h1 h2 => ?_
  exact h i j h1 (by omega)
theorem filter_rowUp (f : Nat → Nat → Bool) (c : Pr → Bool) (i k : Nat) : (rowUp f i k).filter c = rowUp (fun (i j : Nat) => f i j && c ((i : Int), (j : Int))) i k := by
  unfold rowUp
  rw [List.filter_map, List.filter_filter]
  congr 1
  refine List.filter_congr fun j _ => ?_
  show (c ((i : Int), (j : Int)) && f i j) = (f i j && c ((i : Int), (j : Int)))
  exact Bool.and_comm _ _
theorem filter_flat {α β : Type} (c : β → Bool) (f : α → List β) : ∀ l : List α, (l.flatMap f).filter c = l.flatMap fun x => (f x).filter c
  | [] => rfl
  | x :: l => by rw [List.flatMap_cons, List.flatMap_cons, List.filter_append, filter_flat c f l]
theorem filter_pairsOf (f : Nat → Nat → Bool) (c : Pr → Bool) (n : Nat) : (pairsOf f n).filter c = pairsOf (fun (i j : Nat) => f i j && c ((i : Int), (j : Int))) n := by
  unfold pairsOf pairsUp
  rw [filter_flat]
  exact flat_congr fun i _ => filter_rowUp f c i _
theorem rowUp_none {f : Nat → Nat → Bool} {i k : Nat} (h : ∀ j, i < j → j < i + 1 + k → f i j = false) : rowUp f i k = [] := by
  refine List.eq_nil_iff_forall_not_mem.mpr fun p hp => ?_
  obtain ⟨j, _, h1, h2, h3⟩ := mem_rowUp.mp hp
  rw [h j h1 h2] at h3
  cases h3
theorem rowUp_less {f : Nat → Nat → Bool} {i : Nat} : ∀ {k l : Nat}, l ≤ k → (∀ j, i + 1 + l ≤ j → j < i + 1 + k → f i j = false) → rowUp f i k = rowUp f i l
  | 0, l, h, _ => by
    have : l = 0 := by omega
    subst this
    rfl
  | k + 1, l, h, hf => by
    by_cases e : l = k + 1
    · rw [e]
    · rw [rowUp_one, rowUp_less (k := k) (l := l) (by omega) fun j h1 h2 => hf j h1 (by omega), hf (i + 1 + k) (by omega) (by omega)]
      simp
/-- of a joined hall: the first ones -/
theorem first_pairs (f : Nat → Nat → Bool) (n m : Nat) : (pairsOf f (n + m)).filter (fun p => decide (p.2 < (n : Int))) = pairsOf f n := by
  rw [filter_pairsOf]
  unfold pairsOf pairsUp
  rw [List.range_add, List.flatMap_append]
  have z : (List.map (fun x => n + x) (List.range m)).flatMap (fun i => rowUp (fun (i j : Nat) => f i j && decide (((i : Int), (j : Int)).2 < (n : Int))) i (n + m - (i + 1))) = [] := by
    refine List.eq_nil_iff_forall_not_mem.mpr fun p hp => ?_
    obtain ⟨i, hi, hp⟩ := List.mem_flatMap.mp hp
    obtain ⟨x, _, rfl⟩ := List.mem_map.mp hi
    obtain ⟨j, _, h1, h2, h3⟩ := mem_rowUp.mp hp
    rw [Bool.and_eq_true] at h3
    have := of_decide_eq_true h3.2
    have : (j : Int) < (n : Int) := this
    omega
  rw [z, List.append_nil]
  refine flat_congr fun i hi => ?_
  have hi' := List.mem_range.mp hi
  rw [rowUp_less (k := n + m - (i + 1)) (l := n - (i + 1)) (by omega) fun j h1 h2 => by
    rw [decide_eq_false (show ¬ ((j : Int) < (n : Int)) by omega), Bool.and_false]]
  refine rowUp_congr fun j h1 h2 => ?_
  rw [decide_eq_true (show ((j : Int) < (n : Int)) by omega), Bool.and_true]
/-- of a joined hall: the last ones, numbered anew -/
theorem last_pairs (f g : Nat → Nat → Bool) (n m : Nat) (h : ∀ i j, f (n + i) (n + j) = g i j) : ((pairsOf f (n + m)).filter (fun p => decide ((n : Int) ≤ p.1))).map (fun p => (p.1 - (n : Int), p.2 - (n : Int))) = pairsOf g m := by
  rw [filter_pairsOf]
  unfold pairsOf pairsUp
  rw [List.range_add, List.flatMap_append]
  have z : (List.range n).flatMap (fun i => rowUp (fun (i j : Nat) => f i j && decide ((n : Int) ≤ ((i : Int), (j : Int)).1)) i (n + m - (i + 1))) = [] := by
    refine List.eq_nil_iff_forall_not_mem.mpr fun p hp => ?_
    obtain ⟨i, hi, hp⟩ := List.mem_flatMap.mp hp
    obtain ⟨j, _, h1, h2, h3⟩ := mem_rowUp.mp hp
    rw [Bool.and_eq_true] at h3
    have := of_decide_eq_true h3.2
    have : (n : Int) ≤ (i : Int) := this
    have := List.mem_range.mp hi
    omega
  rw [z, List.nil_append, List.map_flatMap, List.flatMap_map]
  refine flat_congr fun i hi => ?_
  have e : n + m - (n + i + 1) = m - (i + 1) := by omega
  rw [e]
  unfold rowUp
  rw [List.map_map]
  have r : (List.range (m - (i + 1))).map (fun d => n + i + 1 + d) = ((List.range (m - (i + 1))).map (fun d => i + 1 + d)).map (fun j => n + j) := by
    rw [List.map_map]
    refine List.map_congr_left fun d _ => ?_
    show n + i + 1 + d = n + (i + 1 + d)
    omega
  rw [r, List.filter_map, List.map_map]
  have c : List.filter ((fun (j : Nat) => f (n + i) j && decide ((n : Int) ≤ (((n + i : Nat) : Int), (j : Int)).1)) ∘ fun j => n + j) ((List.range (m - (i + 1))).map fun d => i + 1 + d) = List.filter (g i) ((List.range (m - (i + 1))).map fun d => i + 1 + d) := by
    refine List.filter_congr fun j _ => ?_
    show (f (n + i) (n + j) && decide ((n : Int) ≤ ((n + i : Nat) : Int))) = g i j
    rw [decide_eq_true (show (n : Int) ≤ ((n + i : Nat) : Int) by omega), Bool.and_true, h]
  rw [c]
  refine List.map_congr_left fun j _ => ?_
  show ((((n + i : Nat) : Int) - (n : Int)), (((n + j : Nat) : Int) - (n : Int))) = ((i : Int), (j : Int))
  rw [show (((n + i : Nat) : Int) - (n : Int)) = (i : Int) by omega, show (((n + j : Nat) : Int) - (n : Int)) = (j : Int) by omega]
/-! ### boards that are pairs -/
def rowExt (a b : List Str) : Bool := decide (b.dropLast = a) && decide (b.length = a.length + 1)
/-- one longer by a word that the longer one's master has played -/
def extOk (b c : Bd) : Bool := rowExt b.2.2 c.2.2 && !decide ((b.2.2.length : Int) % 2 = c.2.1)
def arePair (b c : Bd) : Bool := decide (b.1 = c.1) && (!decide (b.2.1 = c.2.1) && (decide (b.2.2 = c.2.2) || (extOk b c || extOk c b)))
def areApart (b c : Bd) : Bool := decide (b.1 = c.1) && (!decide (b.2.1 = c.2.1) && (rowExt b.2.2 c.2.2 || rowExt c.2.2 b.2.2))
def onB (f : Bd → Bd → Bool) (bs : List Bd) (i j : Nat) : Bool := match bs[i]?, bs[j]? with
  | some b, some c => f b c
  | _, _ => false
theorem onB_at {f : Bd → Bd → Bool} {bs : List Bd} {i j : Nat} {b c : Bd} (h1 : bs[i]? = some b) (h2 : bs[j]? = some c) : onB f bs i j = f b c := by
  unfold onB
  rw [h1, h2]
def turnB (b : Bd) : Bd := (b.1, 1 - b.2.1, b.2.2)
def sideOk (b : Bd) : Prop := b.2.1 = 0 ∨ b.2.1 = 1
theorem ext_ne {a b : List Str} (h : rowExt a b = true) : ¬ a = b := by
  unfold rowExt at h
  rw [Bool.and_eq_true] at h
  intro e
  subst e
  have := of_decide_eq_true h.2
  omega
theorem ext_one {a b : List Str} (h : rowExt a b = true) : rowExt b a = false := by
  unfold rowExt at h ⊢
  rw [Bool.and_eq_true] at h
  have := of_decide_eq_true h.2
  rw [decide_eq_false (show ¬ (a.length = b.length + 1) by omega), Bool.and_false]
theorem sideB {x : Int} {l : Nat} (h : x = 0 ∨ x = 1) : (decide ((l : Int) % 2 = 1 - x)) = !decide ((l : Int) % 2 = x) := by
  by_cases e : (l : Int) % 2 = x
  · rw [decide_eq_true e, decide_eq_false (show ¬ ((l : Int) % 2 = 1 - x) by omega)]
    rfl
  · rw [decide_eq_false e, decide_eq_true (show ((l : Int) % 2 = 1 - x) by omega)]
    rfl
theorem unlike_turn {b c : Bd} : decide ((turnB b).2.1 = (turnB c).2.1) = decide (b.2.1 = c.2.1) := by
  show decide (1 - b.2.1 = 1 - c.2.1) = decide (b.2.1 = c.2.1)
  by_cases e : b.2.1 = c.2.1
  · rw [decide_eq_true e, decide_eq_true (by omega)]
  · rw [decide_eq_false e, decide_eq_false (by omega)]
/-- turned about: those that begin alike are the same, of those one word apart just the others -/
theorem turn_pair {b c : Bd} (hb : sideOk b) (hc : sideOk c) : (areApart b c = false → arePair (turnB b) (turnB c) = arePair b c) ∧ (areApart b c = true → arePair (turnB b) (turnB c) = !arePair b c) := by
  have ub := unlike_turn (b := b) (c := c)
  have e1 : extOk (turnB b) (turnB c) = (rowExt b.2.2 c.2.2 && decide ((b.2.2.length : Int) % 2 = c.2.1)) := by
    show (rowExt b.2.2 c.2.2 && !decide ((b.2.2.length : Int) % 2 = 1 - c.2.1)) = _
    rw [sideB hc, Bool.not_not]
  have e2 : extOk (turnB c) (turnB b) = (rowExt c.2.2 b.2.2 && decide ((c.2.2.length : Int) % 2 = b.2.1)) := by
    show (rowExt c.2.2 b.2.2 && !decide ((c.2.2.length : Int) % 2 = 1 - b.2.1)) = _
    rw [sideB hb, Bool.not_not]
  unfold arePair areApart
  rw [ub, e1, e2]
  unfold extOk
  show (_ → (decide (b.1 = c.1) && _) = _) ∧ (_ → (decide (b.1 = c.1) && _) = _)
  cases n : decide (b.1 = c.1)
  · simp
  · cases s : decide (b.2.1 = c.2.1)
    · simp only [Bool.true_and, Bool.not_false]
      show (_ → (decide (b.2.2 = c.2.2) || _) = _) ∧ (_ → (decide (b.2.2 = c.2.2) || _) = _)
      cases x : rowExt b.2.2 c.2.2
      · cases y : rowExt c.2.2 b.2.2
        · simp
        · rw [decide_eq_false (fun e => ext_ne y e.symm)]
          simp
      · rw [ext_one x, decide_eq_false (ext_ne x)]
        simp
    · simp
/-! ### boards that are in order -/
def okB (b : Bd) : Prop := boardB b = true ∧ smallBd b
theorem lay_let {z : Str} {m : Int} (h : letB z m = true) : PyData.canLay0 (.str z) = true := by
  unfold letB at h
  rw [Bool.and_eq_true] at h
  have a := List.all_eq_true.mp h.2
  rw [PyData.canLay0]
  show z.cps.all (· < 0x110000) = true
  rw [Array.all_eq_true']
  intro c hc
  have := a c (by simpa using hc)
  rw [Bool.and_eq_true] at this
  have := of_decide_eq_true this.2
  exact decide_eq_true (by omega)
theorem okB.row {b : Bd} (h : okB b) : rowB b.2.2 20 = true := by
  have h1 := h.1
  unfold boardB at h1
  rw [Bool.and_eq_true, Bool.and_eq_true] at h1
  exact h1.2.2
theorem okB.lay {b : Bd} (h : okB b) : ∀ z ∈ b.2.2, PyData.canLay0 (.str z) = true := fun z hz => by
  have r := h.row
  unfold rowB at r
  rw [Bool.and_eq_true] at r
  exact lay_let (List.all_eq_true.mp r.2 z hz)
theorem okB.len {b : Bd} (h : okB b) : b.2.2.length ≤ 20 := by
  have r := h.row
  unfold rowB at r
  rw [Bool.and_eq_true] at r
  have := of_decide_eq_true r.1
  omega
theorem okB.side {b : Bd} (h : okB b) : sideOk b := by
  have h1 := h.1
  unfold boardB at h1
  rw [Bool.and_eq_true, Bool.and_eq_true] at h1
  have h2 : (decide (0 ≤ b.2.1) && decide (b.2.1 ≤ 1)) = true := h1.2.1
  rw [Bool.and_eq_true] at h2
  have a := of_decide_eq_true h2.1
  have c := of_decide_eq_true h2.2
  unfold sideOk
  omega
theorem okB.turn {b : Bd} (h : okB b) : okB (turnB b) := by
  have s := h.side
  have h1 := h.1
  unfold boardB at h1
  rw [Bool.and_eq_true, Bool.and_eq_true] at h1
  refine ⟨?_, h.2⟩
  show (letB b.1 8 && ((decide (0 ≤ 1 - b.2.1) && decide (1 - b.2.1 ≤ 1)) && rowB b.2.2 20)) = true
  unfold sideOk at s
  rw [h1.1, h1.2.2, decide_eq_true (show (0 : Int) ≤ 1 - b.2.1 by omega), decide_eq_true (show (1 : Int) - b.2.1 ≤ 1 by omega)]
  rfl
theorem decS {x y : Str} : decide (V.str x = V.str y) = decide (x = y) := by
  by_cases e : x = y
  · rw [e, decide_eq_true rfl, decide_eq_true rfl]
  · rw [decide_eq_false e, decide_eq_false fun z => e (V.str.inj z)]
theorem decI {x y : Int} : decide (V.int x = V.int y) = decide (x = y) := by
  by_cases e : x = y
  · rw [e, decide_eq_true rfl, decide_eq_true rfl]
  · rw [decide_eq_false e, decide_eq_false fun z => e (V.int.inj z)]
/-- what the program's own look at two boards comes to -/
theorem pair_short {b c : Bd} (n : b.1 = c.1) (s : ¬ b.2.1 = c.2.1) (l : b.2.2.length ≤ c.2.2.length) :
    arePair b c = (decide (b.2.2 = c.2.2) || (decide (c.2.2.dropLast = b.2.2) && !decide ((b.2.2.length : Int) % 2 = c.2.1))) := by
  unfold arePair extOk
  rw [decide_eq_true n, decide_eq_false s, Bool.true_and, Bool.not_false, Bool.true_and]
  by_cases e : b.2.2 = c.2.2
  · rw [decide_eq_true e, Bool.true_or, Bool.true_or]
  · rw [decide_eq_false e, Bool.false_or, Bool.false_or]
    have x2 : rowExt c.2.2 b.2.2 = false := by
      unfold rowExt
      rw [decide_eq_false (show ¬ (b.2.2.length = c.2.2.length + 1) by omega), Bool.and_false]
    have x1 : rowExt b.2.2 c.2.2 = decide (c.2.2.dropLast = b.2.2) := by
      unfold rowExt
      by_cases d : c.2.2.dropLast = b.2.2
      · rw [decide_eq_true d, Bool.true_and]
        refine decide_eq_true ?_
        have ld := congrArg List.length d
        rw [List.length_dropLast] at ld
        by_cases z : c.2.2.length = 0
        · exfalso
          have c0 : c.2.2 = [] := List.eq_nil_of_length_eq_zero z
          rw [c0] at d
          exact e (by rw [c0]; exact d.symm)
        · omega
      · rw [decide_eq_false d, Bool.false_and]
    rw [x1, x2, Bool.false_and, Bool.or_false]
theorem pair_swap (b c : Bd) : arePair b c = arePair c b := by
  unfold arePair
  rw [show decide (b.1 = c.1) = decide (c.1 = b.1) from decide_eq_decide.mpr eq_comm, show decide (b.2.1 = c.2.1) = decide (c.2.1 = b.2.1) from decide_eq_decide.mpr eq_comm, show decide (b.2.2 = c.2.2) = decide (c.2.2 = b.2.2) from decide_eq_decide.mpr eq_comm,
    Bool.or_comm (extOk b c) (extOk c b)]
theorem paired_take {α β : Type} {R : α → β → Prop} : ∀ {xs : List α} {ys : List β}, Paired R xs ys → ∀ n, Paired R (xs.take n) (ys.take n)
  | _, _, .nil, n => by
    rw [List.take_nil, List.take_nil]
    exact .nil
  | _, _, .cons r t, 0 => .nil
  | _, _, .cons r t, n + 1 => .cons r (paired_take t n)
theorem paired_app {α β : Type} {R : α → β → Prop} : ∀ {xs : List α} {ys : List β} {us : List α} {ws : List β}, Paired R xs ys → Paired R us ws → Paired R (xs ++ us) (ys ++ ws)
  | _, _, _, _, .nil, h => h
  | _, _, _, _, .cons r t, h => .cons r (paired_app t h)
theorem putF_len (f : Str) (y : V) : ∀ fs : List (Str × V), (putF f y fs).length ≤ fs.length + 1
  | [] => by simp [putF]
  | (g, z) :: fs => by
    have ih := putF_len f y fs
    unfold putF
    split
    · simp
    · rw [List.length_cons, List.length_cons]
      omega
theorem cutV_take (xs : List V) (k : Nat) : cutV xs none (some (k : Int)) = xs.take k := by
  unfold cutV
  rw [HT.sIx_nat, HT.sIx_none, List.drop_zero, Nat.sub_zero]
  by_cases c : k ≤ xs.length
  · rw [Nat.min_eq_left c]
  · rw [Nat.min_eq_right (by omega), List.take_of_length_le (Nat.le_refl _), List.take_of_length_le (by omega)]
end Nm
namespace Nm
open PySem PySem.Spec PyProof.Rows L2
abbrev sK := PyProof.Rows.strKind
/-- a text before another one -/
abbrev before (a b : Str) : Prop := sK.blt a.cps.toList b.cps.toList = true
theorem lt_blt (a b : Str) : ltCps a.cps.toList b.cps.toList = sK.blt a.cps.toList b.cps.toList := PyProof.Rows.ltCps_eq _ _
theorem before_not {a b : Str} (h : before a b) : ¬ before b a := fun h2 => by
  have z := sK.trans _ _ _ h h2
  rw [sK.irrefl] at z
  cases z
theorem before_tr {a b c : Str} (h : before a b) (h2 : before b c) : before a c := sK.trans a.cps.toList b.cps.toList c.cps.toList h h2
theorem before_tot {a b : Str} (h : ¬ before b a) (n : a ≠ b) : before a b := by
  cases e : sK.blt a.cps.toList b.cps.toList with
  | true => exact e
  | false =>
    have z := sK.total a.cps.toList b.cps.toList e (by
      cases e2 : sK.blt b.cps.toList a.cps.toList with
      | true => exact absurd e2 h
      | false => rfl)
    refine absurd ?_ n
    obtain ⟨⟨x⟩⟩ := a
    obtain ⟨⟨y⟩⟩ := b
    have z' : x = y := z
    rw [z']
/-- two ascending lists of the same texts are one -/
theorem rise_one : ∀ {xs ys : List Str}, xs.Pairwise before → ys.Pairwise before → (∀ z, z ∈ xs ↔ z ∈ ys) → xs = ys
  | [], [], _, _, _ => rfl
  | [], y :: ys, _, _, h => absurd ((h y).mpr List.mem_cons_self) (List.not_mem_nil)
  | x :: xs, [], _, _, h => absurd ((h x).mp List.mem_cons_self) (List.not_mem_nil)
  | x :: xs, y :: ys, p, q, h => by
    obtain ⟨p1, p2⟩ := List.pairwise_cons.mp p
    obtain ⟨q1, q2⟩ := List.pairwise_cons.mp q
    have e : x = y := by
      rcases List.mem_cons.mp ((h x).mp List.mem_cons_self) with e | m
      · exact e
      · rcases List.mem_cons.mp ((h y).mpr List.mem_cons_self) with e | m2
        · exact e.symm
        · exact absurd (p1 y m2) (before_not (q1 x m))
    subst e
    rw [rise_one p2 q2 fun z => ?_]
    have hz := h z
    constructor
    · intro m
      rcases List.mem_cons.mp (hz.mp (List.mem_cons_of_mem _ m)) with rfl | m2
      · exact absurd (p1 z m) (fun w => before_not w w)
      · exact m2
    · intro m
      rcases List.mem_cons.mp (hz.mpr (List.mem_cons_of_mem _ m)) with rfl | m2
      · exact absurd (q1 z m) (fun w => before_not w w)
      · exact m2
theorem rising_pw : ∀ (r : List Str) (p : Str), risingS p r = true → (p :: r).Pairwise fun a b => ¬ before b a
  | [], p, _ => List.pairwise_singleton _ _
  | x :: r, p, h => by
    have h' : (!ltCps x.cps.toList p.cps.toList && risingS x r) = true := h
    rw [Bool.and_eq_true, lt_blt] at h'
    have ih := rising_pw r x h'.2
    have px : ¬ before x p := fun z => by
      have w := h'.1
      rw [show sK.blt x.cps.toList p.cps.toList = true from z] at w
      cases w
    refine List.pairwise_cons.mpr ⟨fun b hb => ?_, ih⟩
    rcases List.mem_cons.mp hb with rfl | hb
    · exact px
    · intro z
      have xb := (List.pairwise_cons.mp ih).1 b hb
      rcases sK.negTrans b.cps.toList x.cps.toList p.cps.toList z with w | w
      · exact xb w
      · exact px w
theorem sorted_pw {xs : List Str} (h : sortedS xs = true) : xs.Pairwise fun a b => ¬ before b a := by
  cases xs with
  | nil => exact List.Pairwise.nil
  | cons x r => exact rising_pw r x h
theorem Names.rise {xs ys : List Str} (h : Names xs ys) : ys.Pairwise before :=
  (List.Pairwise.and (sorted_pw h.up) h.nd).imp fun ⟨a, b⟩ => before_tot a b
/-- each once, as the neighbours tell -/
def onceUp (zs : List Str) : Nat → List Str
  | 0 => []
  | i + 1 => onceUp zs i ++ (if i = 0 ∨ zs.getD i Str.empty ≠ zs.getD (i - 1) Str.empty then [zs.getD i Str.empty] else [])
theorem once_mem {zs : List Str} (h : zs.Pairwise fun a b => ¬ before b a) : ∀ i, i ≤ zs.length → (onceUp zs i).Pairwise before ∧ (∀ z, z ∈ onceUp zs i ↔ z ∈ zs.take i)
  | 0, _ => ⟨List.Pairwise.nil, fun z => by simp [onceUp]⟩
  | i + 1, hi => by
    obtain ⟨p, m⟩ := once_mem h i (by omega)
    have hx : zs[i]? = some (zs.getD i Str.empty) := by
      rw [List.getD_eq_getElem?_getD, List.getElem?_eq_getElem (by omega)]
      rfl
    have tk := take_one hx
    unfold onceUp
    by_cases c : i = 0 ∨ zs.getD i Str.empty ≠ zs.getD (i - 1) Str.empty
    · rw [if_pos c, tk]
      refine ⟨?_, fun z => by rw [List.mem_append, List.mem_append, m z]⟩
      rw [List.pairwise_append]
      refine ⟨p, List.pairwise_singleton _ _, fun u hu v hv => ?_⟩
      rw [List.mem_singleton.mp hv]
      have hu' := (m u).mp hu
      obtain ⟨j, hj⟩ := List.mem_iff_getElem?.mp hu'
      rw [List.getElem?_take] at hj
      by_cases ji : j < i
      rotate_left
      · rw [if_neg ji] at hj
        cases hj
      rw [if_pos ji] at hj
      have pw := List.pairwise_iff_getElem.mp h
      have ej : zs[j]'(by omega) = u := by
        rw [List.getElem?_eq_getElem (by omega)] at hj
        exact Option.some.inj hj
      have ei : zs[i]'(by omega) = zs.getD i Str.empty := by
        rw [List.getElem?_eq_getElem (by omega)] at hx
        exact Option.some.inj hx
      have vu : ¬ before (zs.getD i Str.empty) u := by
        have z := pw j i (by omega) (by omega) ji
        rw [ej, ei] at z
        exact z
      refine before_tot vu fun e => ?_
      have cc : zs.getD i Str.empty ≠ zs.getD (i - 1) Str.empty := c.elim (fun z => by omega) id
      have el : zs[i - 1]'(by omega) = zs.getD (i - 1) Str.empty := by
        rw [List.getD_eq_getElem?_getD, List.getElem?_eq_getElem (by omega)]
        rfl
      by_cases jl : j = i - 1
      · subst jl
        exact cc (by rw [← e, ← ej, el])
      · have z1 := pw j (i - 1) (by omega) (by omega) (by omega)
        have z2 := pw (i - 1) i (by omega) (by omega) (by omega)
        rw [ej, el] at z1
        rw [el, ei] at z2
        have z3 := before_tot z2 (fun q => cc q.symm)
        rw [← e] at z3
        exact z1 z3
    · rw [if_neg c, List.append_nil, tk]
      refine ⟨p, fun z => ?_⟩
      rw [m z, List.mem_append]
      refine ⟨.inl, fun w => w.elim id fun w => ?_⟩
      rw [List.mem_singleton.mp w]
      have e : zs.getD i Str.empty = zs.getD (i - 1) Str.empty := Classical.not_not.mp fun q => c (.inr q)
      have i0 : i ≠ 0 := fun q => c (.inl q)
      rw [e, List.mem_iff_getElem?]
      refine ⟨i - 1, ?_⟩
      rw [List.getElem?_take, if_pos (by omega), List.getD_eq_getElem?_getD, List.getElem?_eq_getElem (by omega)]
      rfl
/-- the names once each are the hall's names -/
theorem once_names {zs ns ys : List Str} (h : sortedS zs = true) (pm : zs.Perm ns) (nm : Names ns ys) : onceUp zs zs.length = ys := by
  obtain ⟨p, m⟩ := once_mem (sorted_pw h) zs.length (Nat.le_refl _)
  refine rise_one p nm.rise fun z => ?_
  rw [m z, List.take_length, pm.mem_iff, nm.mem]
end Nm
namespace Nm
open PySem PySem.Spec PyProof.Rows L2 NmD
/-! ### the order of rows -/
theorem rowToks_inj {a b : List Str} (h : PySem.W.keyToksAll (rowL a) = PySem.W.keyToksAll (rowL b)) : a = b := by
  cases e : PyData.eqvAll (rowL a) (rowL b) with
  | true =>
    rw [eqv_rowL] at e
    exact of_decide_eq_true e
  | false =>
    have k := (PySem.W.toksAll_eqv (rowL a) (rowL b) (alike_rowL a b)).2 e [Sum.inl 0] [Sum.inl 1]
    rw [h, PySem.W.lex_pre, lex_irrefl] at k
    exact absurd k (by decide)
theorem rowLt_irr (a : List Str) : rowLt a a = false := lex_irrefl (O := itemOrd) _
theorem rowLt_tr {a b c : List Str} (h1 : rowLt a b = true) (h2 : rowLt b c = true) : rowLt a c = true := lex_trans (O := itemOrd) _ _ _ h1 h2
theorem rowLt_tot {a b : List Str} (h1 : rowLt a b = false) (h2 : rowLt b a = false) : a = b := rowToks_inj (lex_total (O := itemOrd) _ _ h1 h2)
abbrev bef (a b : List Str) : Prop := rowLt a b = true
theorem bef_not {a b : List Str} (h : bef a b) : ¬ bef b a := fun h2 => by
  have z := rowLt_tr h h2
  rw [rowLt_irr] at z
  cases z
theorem rows_one : ∀ {xs ys : List (List Str)}, xs.Pairwise bef → ys.Pairwise bef → (∀ z, z ∈ xs ↔ z ∈ ys) → xs = ys
  | [], [], _, _, _ => rfl
  | [], y :: ys, _, _, h => absurd ((h y).mpr List.mem_cons_self) (List.not_mem_nil)
  | x :: xs, [], _, _, h => absurd ((h x).mp List.mem_cons_self) (List.not_mem_nil)
  | x :: xs, y :: ys, p, q, h => by
    obtain ⟨p1, p2⟩ := List.pairwise_cons.mp p
    obtain ⟨q1, q2⟩ := List.pairwise_cons.mp q
    have e : x = y := by
      rcases List.mem_cons.mp ((h x).mp List.mem_cons_self) with e | m
      · exact e
      · rcases List.mem_cons.mp ((h y).mpr List.mem_cons_self) with e | m2
        · exact e.symm
        · exact absurd (p1 y m2) (bef_not (q1 x m))
    subst e
    rw [rows_one p2 q2 fun z => ?_]
    have hz := h z
    constructor
    · intro m
      rcases List.mem_cons.mp (hz.mp (List.mem_cons_of_mem _ m)) with rfl | m2
      · exact absurd (p1 z m) (fun w => bef_not w w)
      · exact m2
    · intro m
      rcases List.mem_cons.mp (hz.mpr (List.mem_cons_of_mem _ m)) with rfl | m2
      · exact absurd (q1 z m) (fun w => bef_not w w)
      · exact m2
theorem bef_nodup {xs : List (List Str)} (h : xs.Pairwise bef) : xs.Nodup := h.imp fun {a b} h e => by
  subst e
  exact bef_not h h
theorem srt_bef {xs : List (List Str)} (h : xs.Pairwise fun a b => rowLt b a = false) (n : xs.Nodup) : xs.Pairwise bef := by
  induction xs with
  | nil => exact .nil
  | cons x xs ih =>
    obtain ⟨h1, h2⟩ := List.pairwise_cons.mp h
    obtain ⟨n1, n2⟩ := List.nodup_cons.mp n
    refine List.pairwise_cons.mpr ⟨fun y hy => ?_, ih h2 n2⟩
    cases e : rowLt x y with
    | true => exact e
    | false => exact absurd (rowLt_tot e (h1 y hy)) (fun z => n1 (z ▸ hy))
theorem nil_bef (w : Str) (r : List Str) : bef [] (w :: r) := by
  show rowLt [] (w :: r) = true
  unfold rowLt
  rw [rowL_nil, rowL_cons, PySem.W.toks_all_cons]
  simp only [PySem.W.keyToksAll]
  rw [lex_diff (O := itemOrd) (by simp)]
  rfl
theorem bef_pre {a b : List Str} (h : a <+: b) (n : a ≠ b) : bef a b := by
  obtain ⟨t, rfl⟩ := h
  cases t with
  | nil => exact absurd (List.append_nil a).symm n
  | cons w r =>
    have e := row_pre a [] (w :: r)
    rw [List.append_nil] at e
    show rowLt a (a ++ w :: r) = true
    rw [e]
    exact nil_bef w r
theorem one_lt (a b : Str) : rowLt [a] [b] = true ↔ before a b := by
  have e : rowLt [a] [b] = decide (a.cps.toList < b.cps.toList) := by
    show PyProof.Rows.lexLt itemOrd (PySem.W.keyToksAll (rowL [a])) (PySem.W.keyToksAll (rowL [b])) = _
    by_cases c : a = b
    · subst c
      rw [lex_irrefl]
      exact (decide_eq_false (List.lt_irrefl _)).symm
    · rw [show rowL [a] = [PyData.str a] from rfl, show rowL [b] = [PyData.str b] from rfl, PySem.W.dataLt_all_no (by simp [PySem.W.alike]) (by rw [PyData.eqv]; simp [c]), PySem.W.dataLt_str]
  rw [e]
theorem snoc_lt (r : List Str) (a b : Str) : bef (r ++ [a]) (r ++ [b]) ↔ before a b := by
  show rowLt (r ++ [a]) (r ++ [b]) = true ↔ _
  rw [row_pre]
  exact one_lt a b
/-! ### games -/
/-- a word that is one and that is not too long for the model -/
def wordOk (z : Str) : Prop := letB z 20 = true ∧ z.length ≤ 1000
def rwOk (r : List Str) : Prop := r.length ≤ 60 ∧ ∀ z ∈ r, wordOk z
structure IsG (rs : List (List Str)) : Prop where
  up : rs.Pairwise bef
  nil : [] ∈ rs
  pre : ∀ r ∈ rs, r.dropLast ∈ rs
  ok : ∀ r ∈ rs, rwOk r
  few : rs.length ≤ 600
theorem IsG.take {rs : List (List Str)} (g : IsG rs) {r : List Str} (h : r ∈ rs) (k : Nat) : r.take k ∈ rs := by
  obtain ⟨n, hn⟩ : ∃ n, r.length - k = n := ⟨_, rfl⟩
  induction n generalizing k with
  | zero =>
    rw [List.take_of_length_le (by omega)]
    exact h
  | succ n ih =>
    have m := g.pre _ (ih (k + 1) (by omega))
    rw [List.dropLast_eq_take, List.length_take, List.take_take, show min (min (k + 1) r.length - 1) (k + 1) = k by omega] at m
    exact m
theorem IsG.pfx {rs : List (List Str)} (g : IsG rs) {r a : List Str} (h : r ∈ rs) (p : a <+: r) : a ∈ rs := by
  rw [List.prefix_iff_eq_take.mp p]
  exact g.take h _
def lastW (r : List Str) : Str := r.getLast?.getD Str.empty
theorem lastW_snoc (r : List Str) (w : Str) : lastW (r ++ [w]) = w := by
  unfold lastW
  rw [List.getLast?_append]
  rfl
def isNext (row l : List Str) : Bool := decide (l.length = row.length + 1) && decide (l.dropLast = row)
theorem isNext_iff {row l : List Str} : isNext row l = true ↔ ∃ w, l = row ++ [w] := by
  unfold isNext
  rw [Bool.and_eq_true]
  constructor
  · rintro ⟨h1, h2⟩
    have h1 := of_decide_eq_true h1
    have h2 := of_decide_eq_true h2
    have n : l ≠ [] := fun z => by
      rw [z] at h1
      simp at h1
    exact ⟨l.getLast n, by rw [← h2]; exact (List.dropLast_concat_getLast n).symm⟩
  · rintro ⟨w, rfl⟩
    exact ⟨decide_eq_true (by simp), decide_eq_true (by simp)⟩
/-- the words that are let at a row -/
def wordsAt (rs : List (List Str)) (row : List Str) : List Str := (rs.filter (isNext row)).map lastW
theorem mem_words {rs : List (List Str)} {row : List Str} {w : Str} : w ∈ wordsAt rs row ↔ row ++ [w] ∈ rs := by
  unfold wordsAt
  rw [List.mem_map]
  constructor
  · rintro ⟨l, hl, rfl⟩
    obtain ⟨h1, h2⟩ := List.mem_filter.mp hl
    obtain ⟨w, rfl⟩ := isNext_iff.mp h2
    rw [lastW_snoc]
    exact h1
  · intro h
    exact ⟨_, List.mem_filter.mpr ⟨h, isNext_iff.mpr ⟨w, rfl⟩⟩, lastW_snoc _ _⟩
theorem words_up {rs : List (List Str)} (g : rs.Pairwise bef) (row : List Str) : (wordsAt rs row).Pairwise before := by
  unfold wordsAt
  rw [List.pairwise_map]
  refine List.Pairwise.imp_of_mem ?_ (g.filter (isNext row))
  intro a b ha hb h
  obtain ⟨v, rfl⟩ := isNext_iff.mp (List.mem_filter.mp ha).2
  obtain ⟨w, rfl⟩ := isNext_iff.mp (List.mem_filter.mp hb).2
  rw [lastW_snoc, lastW_snoc]
  exact (snoc_lt row v w).mp h
theorem before_nodup {xs : List Str} (h : xs.Pairwise before) : xs.Nodup := h.imp fun {a b} h e => by
  subst e
  exact before_not h h
/-- what is left behind a row -/
def behindOf (rs : List (List Str)) (row : List Str) : List (List Str) := (rs.filter fun l => decide (l.take row.length = row)).map (List.drop row.length)
theorem mem_behind {rs : List (List Str)} {row x : List Str} : x ∈ behindOf rs row ↔ row ++ x ∈ rs := by
  unfold behindOf
  rw [List.mem_map]
  constructor
  · rintro ⟨l, hl, rfl⟩
    obtain ⟨h1, h2⟩ := List.mem_filter.mp hl
    have h2 : l.take row.length = row := of_decide_eq_true h2
    have e : row ++ l.drop row.length = l := by
      conv => lhs; arg 1; rw [← h2]
      exact List.take_append_drop _ _
    rw [e]
    exact h1
  · intro h
    exact ⟨_, List.mem_filter.mpr ⟨h, decide_eq_true (by simp)⟩, by simp⟩
theorem isG_behind {rs : List (List Str)} (g : IsG rs) {row : List Str} (h : row ∈ rs) : IsG (behindOf rs row) := by
  refine ⟨?_, ?_, fun r hr => ?_, fun r hr => ?_, ?_⟩
  · unfold behindOf
    rw [List.pairwise_map]
    refine List.Pairwise.imp_of_mem ?_ (g.up.filter _)
    intro a b ha hb hab
    have ha' : a.take row.length = row := of_decide_eq_true (List.mem_filter.mp ha).2
    have hb' : b.take row.length = row := of_decide_eq_true (List.mem_filter.mp hb).2
    have ea : a = row ++ a.drop row.length := by
      conv => rhs; arg 1; rw [← ha']
      exact (List.take_append_drop _ _).symm
    have eb : b = row ++ b.drop row.length := by
      conv => rhs; arg 1; rw [← hb']
      exact (List.take_append_drop _ _).symm
    have q : rowLt (row ++ a.drop row.length) (row ++ b.drop row.length) = true := by
      rw [← ea, ← eb]
      exact hab
    rw [row_pre] at q
    exact q
  · rw [mem_behind, List.append_nil]
    exact h
  · rw [mem_behind] at hr ⊢
    cases List.eq_nil_or_concat r with
    | inl e =>
      subst e
      exact hr
    | inr e =>
      obtain ⟨r', w, rfl⟩ := e
      have z := g.pre _ hr
      rw [List.concat_eq_append] at z ⊢
      rw [← List.append_assoc, List.dropLast_concat] at z
      rw [List.dropLast_concat]
      exact z
  · rw [mem_behind] at hr
    obtain ⟨h1, h2⟩ := g.ok _ hr
    rw [List.length_append] at h1
    exact ⟨by omega, fun z hz => h2 z (List.mem_append_right _ hz)⟩
  · unfold behindOf
    rw [List.length_map]
    exact Nat.le_trans (List.length_filter_le _ _) g.few
theorem words_behind {rs : List (List Str)} (g : IsG rs) {row more : List Str} (h : row ∈ rs) : wordsAt (behindOf rs row) more = wordsAt rs (row ++ more) :=
  rise_one (words_up (isG_behind g h).up more) (words_up g.up _) fun z => by rw [mem_words, mem_words, mem_behind, List.append_assoc]
theorem behind_behind {rs : List (List Str)} (g : IsG rs) {row more : List Str} (h : row ∈ rs) (h2 : row ++ more ∈ rs) : behindOf (behindOf rs row) more = behindOf rs (row ++ more) :=
  rows_one (isG_behind (isG_behind g h) (mem_behind.mpr h2)).up (isG_behind g h2).up fun z => by rw [mem_behind, mem_behind, mem_behind, List.append_assoc]
theorem behind_nil {rs : List (List Str)} (g : IsG rs) : behindOf rs [] = rs := rows_one (isG_behind g g.nil).up g.up fun z => by rw [mem_behind, List.nil_append]
/-- the rows that are in both -/
def bothOf (rs qs : List (List Str)) : List (List Str) := rs.filter fun r => decide (r ∈ qs)
theorem mem_both {rs qs : List (List Str)} {r : List Str} : r ∈ bothOf rs qs ↔ r ∈ rs ∧ r ∈ qs := by
  unfold bothOf
  rw [List.mem_filter, decide_eq_true_eq]
theorem isG_both {rs qs : List (List Str)} (g : IsG rs) (k : IsG qs) : IsG (bothOf rs qs) :=
  ⟨g.up.filter _, mem_both.mpr ⟨g.nil, k.nil⟩, fun r hr => mem_both.mpr ⟨g.pre _ (mem_both.mp hr).1, k.pre _ (mem_both.mp hr).2⟩, fun r hr => g.ok _ (mem_both.mp hr).1, Nat.le_trans (List.length_filter_le _ _) g.few⟩
theorem both_swap {rs qs : List (List Str)} (g : IsG rs) (k : IsG qs) : bothOf rs qs = bothOf qs rs := rows_one (isG_both g k).up (isG_both k g).up fun z => by rw [mem_both, mem_both, and_comm]
theorem both_self {rs : List (List Str)} (g : IsG rs) : bothOf rs rs = rs := rows_one (isG_both g g).up g.up fun z => by rw [mem_both, and_self]
/-- the rows and their beginnings -/
structure Begs (rs gs : List (List Str)) : Prop where
  up : gs.Pairwise bef
  mem : ∀ x, x ∈ gs ↔ x = [] ∨ ∃ r ∈ rs, x <+: r
theorem Begs.one {rs gs hs : List (List Str)} (a : Begs rs gs) (b : Begs rs hs) : gs = hs := rows_one a.up b.up fun z => by rw [a.mem, b.mem]
theorem Begs.same {rs qs gs : List (List Str)} (a : Begs rs gs) (h : ∀ z, z ∈ rs ↔ z ∈ qs) : Begs qs gs := ⟨a.up, fun x => by
  rw [a.mem]
  constructor
  · rintro (e | ⟨r, h1, h2⟩)
    · exact .inl e
    · exact .inr ⟨r, (h r).mp h1, h2⟩
  · rintro (e | ⟨r, h1, h2⟩)
    · exact .inl e
    · exact .inr ⟨r, (h r).mpr h1, h2⟩⟩
theorem Begs.isG {rs gs : List (List Str)} (a : Begs rs gs) (ok : ∀ r ∈ rs, rwOk r) (few : gs.length ≤ 600) : IsG gs := by
  refine ⟨a.up, (a.mem _).mpr (.inl rfl), fun r hr => ?_, fun r hr => ?_, few⟩
  · rcases (a.mem r).mp hr with rfl | ⟨q, h1, h2⟩
    · exact hr
    · exact (a.mem _).mpr (.inr ⟨q, h1, (List.dropLast_prefix r).trans h2⟩)
  · rcases (a.mem r).mp hr with rfl | ⟨q, h1, h2⟩
    · exact ⟨Nat.zero_le _, fun z hz => absurd hz (List.not_mem_nil)⟩
    · obtain ⟨k1, k2⟩ := ok q h1
      exact ⟨Nat.le_trans h2.length_le k1, fun z hz => k2 z (h2.subset hz)⟩
theorem begs_game {rs : List (List Str)} (g : IsG rs) : Begs rs rs := ⟨g.up, fun x => ⟨fun h => .inr ⟨x, h, List.prefix_refl _⟩, fun h => by
  rcases h with rfl | ⟨r, h1, h2⟩
  · exact g.nil
  · exact g.pfx h1 h2⟩⟩
/-- at most so many: each row has no more beginnings than words, but for () -/
theorem begs_len {rs gs : List (List Str)} (a : Begs rs gs) : gs.length ≤ 1 + (rs.map List.length).sum := by
  have sub : ∀ (rs : List (List Str)) (gs : List (List Str)), gs.Nodup → (∀ x ∈ gs, x ≠ [] ∧ ∃ r ∈ rs, x <+: r) → gs.length ≤ (rs.map List.length).sum := by
    intro rs
    induction rs with
    | nil =>
      intro gs _ h
      cases gs with
      | nil => exact Nat.le_refl _
      | cons x _ =>
        obtain ⟨_, r, hr, _⟩ := h x List.mem_cons_self
        exact absurd hr (List.not_mem_nil)
    | cons r rs ih =>
      intro gs nd h
      have one : (gs.filter fun x => decide (x <+: r)).length ≤ r.length := by
        have s := List.Nodup.length_le_of_subset (l₂ := (List.range r.length).map fun k => r.take (k + 1)) (List.Pairwise.filter (fun x => decide (x <+: r)) nd) (fun x hx => by
          have px : x <+: r := of_decide_eq_true (List.mem_filter.mp hx).2
          have ne := (h x (List.mem_filter.mp hx).1).1
          have l := px.length_le
          have p : 0 < x.length := List.length_pos_iff.mpr ne
          refine List.mem_map.mpr ⟨x.length - 1, List.mem_range.mpr (by omega), ?_⟩
          rw [show x.length - 1 + 1 = x.length by omega]
          exact (List.prefix_iff_eq_take.mp px).symm)
        rw [List.length_map, List.length_range] at s
        exact s
      have two := ih (gs.filter fun x => !decide (x <+: r)) (List.Pairwise.filter _ nd) fun x hx => by
        obtain ⟨h1, h2⟩ := List.mem_filter.mp hx
        obtain ⟨n, q, hq, p⟩ := h x h1
        rcases List.mem_cons.mp hq with rfl | hq
        · rw [decide_eq_true p] at h2
          cases h2
        · exact ⟨n, q, hq, p⟩
      have all := (List.filter_append_perm (fun x => decide (x <+: r)) gs).length_eq
      rw [List.length_append] at all
      rw [List.map_cons, List.sum_cons]
      omega
  have nd := bef_nodup a.up
  have l2 := sub rs (gs.filter fun x => decide (x ≠ [])) (List.Pairwise.filter _ nd) fun x hx => by
    obtain ⟨h1, h2⟩ := List.mem_filter.mp hx
    have n : x ≠ [] := of_decide_eq_true h2
    rcases (a.mem x).mp h1 with e | z
    · exact absurd e n
    · exact ⟨n, z⟩
  have all := (List.filter_append_perm (fun x => decide (x ≠ [])) gs).length_eq
  rw [List.length_append] at all
  have rest : (gs.filter fun x => !decide (x ≠ [])).length ≤ 1 := by
    exact List.Nodup.length_le_of_subset (l₂ := [[]]) (List.Pairwise.filter (fun x => !decide (x ≠ [])) nd) fun x hx => by
      have h2 := (List.mem_filter.mp hx).2
      have : x = [] := by
        by_cases e : x = []
        · exact e
        · rw [decide_eq_true e] at h2
          cases h2
      rw [this]
      exact List.mem_singleton.mpr rfl
  omega
end Nm
namespace Nm
open PySem PySem.Spec PyProof.Rows L2 NmD PySem.SeqAt
section
variable {X : Cx}
/-! ### x in t, t a tuple of data -/
def rInT (K : PySem.W.Frag) (neg : Bool) : R2 := fun x y H Q => ∃ d ds, Dp K H x d ∧ Dp K H y (.tuple ds) ∧ shaped d = true ∧ shaped (.tuple ds) = true ∧ Q (.bl (xor neg (ds.any fun z => PyData.eqv z d))) H
theorem op_inT (hu : X.A.units + 65 < cLine) : OpR X (compareOp .In) (rInT X.K false) := by
  intro pins s σ H x y v u Q I rx ry ⟨d, ds, d1, d2, s1, s2, q⟩
  obtain ⟨as, r1⟩ := Dp.reads I d x v d1 rx
  obtain ⟨bs, r2⟩ := Dp.reads I (.tuple ds) y u d2 ry
  rw [Bool.false_xor] at q
  exact in_tuple_reads r2 r1 (canLay_of_shaped s2) (canLay_of_shaped s1) (room_in_shaped s1 hu) ⟨.bl _, H, I, rfl, q⟩
theorem op_notInT (hu : X.A.units + 65 < cLine) : OpR X (compareOp .NotIn) (rInT X.K true) := by
  intro pins s σ H x y v u Q I rx ry ⟨d, ds, d1, d2, s1, s2, q⟩
  obtain ⟨as, r1⟩ := Dp.reads I d x v d1 rx
  obtain ⟨bs, r2⟩ := Dp.reads I (.tuple ds) y u d2 ry
  rw [Bool.true_xor] at q
  exact notIn_tuple_reads r2 r1 (canLay_of_shaped s2) (canLay_of_shaped s1) (room_in_shaped s1 hu) ⟨.bl _, H, I, rfl, q⟩
/-! ### t < u of tuples that are alike -/
def rLtDt (K : PySem.W.Frag) : R2 := fun x y H Q => ∃ xs ys, Dp K H x (.tuple xs) ∧ Dp K H y (.tuple ys) ∧ PySem.W.alikeAll xs ys = true ∧ PyData.depthAll xs ≤ 40 ∧ Q (.bl (PyProof.Rows.lexLt itemOrd (PySem.W.keyToksAll xs) (PySem.W.keyToksAll ys))) H
theorem op_ltDt (hu : X.A.units + 65 < cLine) : OpR X (compareOp .Lt) (rLtDt X.K) := by
  intro pins s σ H x y v u Q I rx ry ⟨xs, ys, d1, d2, al, dp, q⟩
  obtain ⟨as, r1⟩ := Dp.reads I (.tuple xs) x v d1 rx
  obtain ⟨bs, r2⟩ := Dp.reads I (.tuple ys) y u d2 ry
  have lim := dep xs ys dp
  refine PySem.W.rcLt_alike (.tuple xs) (.tuple ys) X.A s v u as bs r1 r2 (by simpa [PySem.W.alike] using al) (fun z => nomatch z) (by omega) _ _ _ _ ?_
  rw [PySem.W.dataLt_tuple]
  exact ⟨.bl _, H, I, rfl, q⟩
/-! ### dicts keyed by tuples -/
theorem dset_tk {pins : List (Addr × Obj)} {σ : L2.St} {H : Hp} {s : Shared} {E : Value → Shared → Prop} {D b : Addr} {ents : List (List Key × V)} {k : List Key} {y : V} {r : Value} {Q : Unit → Shared → Prop} (hu : X.A.units + 1 < cLine) (I : Inv X pins σ H s)
    (hD : H D = some (.dT ents)) (hb : H b = some (.tup (k.map kV))) (few : ents.length < sizeLine) (rv : RelV y r) (h : ∀ s', Inv X pins σ (upd H D (.dT (putK ents k y))) s' → Q () s') : wpAny (model X.prog X.w) X.A (dictSet D (.ref b) r) Q E s := by
  obtain ⟨z, low, xs, rel, dd⟩ := dt_of I.hok hD
  have fit : xs.length ≤ sizeLine := (Paired.length rel) ▸ z
  have more := length_putK ents k y
  refine wpAny_dictSet_heap (hsz := fit) (by show X.A.units < cLine; omega) (key_of I.hok hb) dd fun h' nd sb => h _ ?_
  obtain ⟨ob, es, ep, g1, g2, g3, g4, _, g5⟩ := nd
  refine d_write I (by rw [hD]; exact True.intro) sb ⟨ob, g1⟩ ⟨by omega, low, _, (rel.put k hb rv).keeps fun c us ec => ?_, ob, es, ep, g1, g2, g3, g4, g5⟩
  rw [upd_ne (ne_of ec hD (fun z => nomatch z))]
  exact ec
/-- {k: v}, k a tuple -/
def tDisp1 (tk tv : TE) : TE := fun σ H Q => ∀ p, H p = none → tk σ (upd H p (.dT [])) fun x H1 => tv σ H1 fun y H2 => H2 p = some (.dT []) ∧ ∃ (k : List Key) (b : Addr), x = .ref b ∧ H2 b = some (.tup (k.map kV)) ∧ Q (.ref p) (upd H2 p (.dT [(k, y)]))
theorem pe_disp1 {kx vx : Expr} {pos : Pos} {tk tv : TE} (hu : X.A.units + 1 < cLine) (hk : PE X kx tk) (hv : PE X vx tv) : PE X (.Dict [some kx] [vx] pos) (tDisp1 tk tv) := by
  refine ⟨fun pins s σ H Q I q => ?_⟩
  have free := I.hok.fresh (Nat.le_refl s.heap.objs.size)
  have I1 := I.laid (a := s.heap.objs.size) (o := .dT []) (h' := s.heap.push { cls := .type "dict", data := .dict #[] }) (t' := s.toks) (fun _ _ e => Heap.get?_push_of_some _ e) (Nat.le_refl _) (dt_empty s.heap I.big)
  have room : (tupleKind (mixKind X.prog X.w)).room X.A := by show X.A.units < cLine; omega
  rw [arm_eval_Dict, zip_pairTrees [some kx] [vx] X.env pos rfl rfl, dictDisplay_pairs (pairTrees [some kx] [vx] X.env pos) (fun e => by have z := congrArg List.length e; rw [pairTrees_length _ _ _ _ rfl rfl] at z; cases z) (by rw [pairTrees_length _ _ _ _ rfl rfl]; exact (by decide : (1 : Nat) < 17))]
  refine wpAny_bind (wpAny_standAt (wpAny_bind (wpAny_subDictH (knd := tupleKind (mixKind X.prog X.w)) room (by rw [pairTrees_length _ _ _ _ rfl rfl]; exact (by decide : (1 : Nat) ≤ 15)) ?_)))
  refine pairTrees_cons_walk (thn (hk.run pins _ σ _ _ I1 (q _ free)) fun u s1 ⟨x, H1, I2, rx, q1⟩ => thn (hv.run pins s1 σ H1 _ I2 q1) fun w2 s2 ⟨y, H2, I3, ry, q2⟩ => pairTrees_nil_walk ?_)
  obtain ⟨e, k, b, rfl, hb, q3⟩ := q2
  cases (show u = Value.ref b from rx)
  obtain ⟨_, low, xs, rel, dd⟩ := dt_of I3.hok e
  cases rel
  refine ⟨[(k, b, w2)], ⟨rfl, rfl, key_of I3.hok hb, trivial⟩, dd, fun h' tk nd sb => wpAny_pure ⟨.ref s.heap.objs.size, _, ?_, rfl, q3⟩⟩
  obtain ⟨ob, es, ep, g1, g2, g3, g4, _, g5⟩ := nd
  refine d_write I3 (by rw [e]; exact True.intro) sb ⟨ob, g1⟩ ⟨by show 1 ≤ sizeLine; decide, low, _, KT.keeps (H := H2) (Paired.cons ⟨rfl, hb, ry⟩ Paired.nil) fun c us ec => ?_, ob, es, ep, g1, g2, g3, g4, g5⟩
  rw [upd_ne (ne_of ec e (fun z => nomatch z))]
  exact ec
/-! ### {row: v for row in ..} -/
/-- what a dict made by a walk asks, its keys being tuples -/
def tDcT (wi : TI) (g : TG) (tk tv : TE) (vs : List Nat) : TE := fun σ H Q => wi σ H fun J H1 => ∀ D, H1 D = none → ∃ W : Nat → Nat → Hp → Prop,
  (∃ m, W 0 m (upd H1 D (.dT []))) ∧ ∀ i m H, W i m H → (J.stop i H ∧ Q (.ref D) H) ∨ (J.go i H ∧ ∃ Nx : Hp → Prop, (∀ H', Nx H' → ∃ m', m' < m ∧ W (i + 1) m' H') ∧
    ∀ x H', J.yld i H x H' → g x (wipe σ vs) H' fun σ2 H2 => wipe σ2 vs = wipe σ vs ∧ tk σ2 H2 fun y H4 => tv σ2 H4 fun z H5 =>
      ∃ (ents : List (List Key × V)) (k : List Key) (b : Addr), y = .ref b ∧ H5 D = some (.dT ents) ∧ H5 b = some (.tup (k.map kV)) ∧ ents.length < sizeLine ∧ Nx (upd H5 D (.dT (putK ents k z))))
theorem pe_dcT {kx vx tg iter : Expr} {scope : Scope} {own : List (PySem.Str × Nat)} {pos : Pos} {wi : TI} {g : TG} {tk tv : TE} (hc : X.calm = true) (hN : X.N.Nodup) (hu : X.A.units + 1 < cLine) (hi : PI X tg iter wi) (ok : BlkOk X.N X.env.scope scope own)
    (hg : ∀ (s : Shared) (H : Hp) (C : Addr) (cl : List (PySem.Str × Addr)) (fp : List Addr), PG (X.blk s H scope (compEnvC scope cl C X.env) fp) tg g)
    (hk : ∀ (s : Shared) (H : Hp) (C : Addr) (cl : List (PySem.Str × Addr)) (fp : List Addr), PE (X.blk s H scope (compEnvC scope cl C X.env) fp) kx tk)
    (he : ∀ (s : Shared) (H : Hp) (C : Addr) (cl : List (PySem.Str × Addr)) (fp : List Addr), PE (X.blk s H scope (compEnvC scope cl C X.env) fp) vx tv)
    (hs : ∀ x, foldedSetIterable iter X.env x = pure x := by intro _; rfl) : PE X (.DictComp kx vx [⟨tg, iter, [], 0⟩] scope pos) (tDcT wi g tk tv (own.map (·.2))) := by
  refine ⟨fun pins s σ H Q I h => ?_⟩
  rw [arm_eval_DictComp]
  have closed : ∀ y ∈ scope.names, y.2 = .free → ∃ c, X.env.cells.lookup y.1 = some c := fun y hy e => (ok.free y hy e).elim (fun k => I.ok.has _ (.inl k)) fun k => I.ok.has _ (.inr k)
  refine wpAny_comprehension_free (use := none) rfl hs (closure_ok closed) ok.kind (fun y hy e => by rw [ok.uniq y hy, e]) (thn (hi.run pins s σ H _ I h) fun xv s1 hx => thn hx fun itv s2 h2 => ?_)
  obtain ⟨it, fp, tn, J, H2, e, I2, T, st2, f2, q⟩ := h2
  subst e
  refine wpAny_newObj_type (newEnv_comp ?_)
  generalize hD : s2.heap.objs.size = D
  have hDn : H2 D = none := I2.hok.fresh (Nat.le_of_eq hD)
  obtain ⟨W, ⟨m0, w0⟩, turn⟩ := q D hDn
  generalize hs3 : ({ s2 with heap := s2.heap.push { cls := .type "dict", data := .dict #[] } } : Shared) = s3
  have h3 : s3.heap = s2.heap.push { cls := .type "dict", data := .dict #[] } := by rw [← hs3]
  generalize hH3 : upd H2 D (.dT []) = H3 at w0
  have I3 : Inv X pins σ H3 s3 := by
    rw [← hs3, ← hH3]
    refine I2.laid (t' := s2.toks) (fun b o e => Heap.get?_push_of_some _ e) (Nat.le_of_eq hD) ?_
    rw [← hD]
    exact dt_empty s2.heap I2.big
  have below : ∀ b ∈ fp, b < s2.heap.objs.size := fun b hb => by
    obtain ⟨o, e, _⟩ := T.obj _ _ st2 b hb
    exact Heap.lt_size e
  have f3 : ∀ b ∈ fp, FpOk X pins H3 b ∧ b < s3.heap.objs.size := fun b hb => by
    have lt := below b hb
    have ne : b ≠ D := by rw [← hD]; exact Nat.ne_of_lt lt
    refine ⟨⟨?_, (f2 b hb).2⟩, by rw [h3, Heap.size_push]; exact Nat.lt_succ_of_lt lt⟩
    rw [← hH3, upd_ne ne]
    exact (f2 b hb).1
  have st3 : tn 0 s3.heap := T.keep _ _ _ st2 fun b _ o e => by rw [h3]; exact Heap.get?_push_of_some _ e
  have I4 := block_start I3 ok hN f3
  generalize hcl : cellsFrom (s3.heap.objs.size + 1) scope.names (cloFrom X.env.cells scope.names []) = cl at I4
  have pg := hg s3 H3 s3.heap.objs.size cl fp
  have pk := hk s3 H3 s3.heap.objs.size cl fp
  have pe := he s3 H3 s3.heap.objs.size cl fp
  have goal : codeAny (model X.prog X.w) X.A (.compStart (.DictComp kx vx [⟨tg, iter, [], 0⟩] scope pos) 0 (.ref it) (.ref D) (compEnvC scope cl s3.heap.objs.size X.env))
      (compPost (model X.prog X.w) X.A X.xe none (EP X pins σ Q) (.ref D) s3.heap.objs.size) { s3 with heap := pushCells (s3.heap.push { cls := .type "dict", data := .dict #[] }) scope.names } := by
    have free3 : ∀ b ∈ fp, H3 b = none := fun b hb => (f3 b hb).1.1
    generalize hce : compEnvC scope cl s3.heap.objs.size X.env = ce at I4 pg pk pe ⊢
    have locals : ce.locals = s3.heap.objs.size := by subst hce; rfl
    generalize hs4 : ({ s3 with heap := pushCells (s3.heap.push { cls := .type "dict", data := .dict #[] }) scope.names } : Shared) = s4 at I4 ⊢
    have st4 : tn 0 s4.heap := T.keep _ _ _ st3 fun b _ o e => by rw [← hs4]; exact pushCells_keeps _ _ _ _ (Heap.get?_push_of_some _ e)
    have stat : ∀ {σ' : L2.St} {H' : Hp} {s' : Shared}, Inv (X.blk s3 H3 scope ce fp) [] σ' H' s' → (∀ b ∈ fp, H' b = none) → ∀ b ∈ fp, FpOk (X.blk s3 H3 scope ce fp) [] H' b := fun {σ' H' s'} I' hn b hb =>
      ⟨hn b hb, (I'.ok.exf b hb).1, I'.ok.exfs b hb, .inl hb, fun x c e => (I'.ok.exf b hb).2 x c e, fun p hp => absurd (show p ∈ ([] : List (Addr × Obj)) ++ [] from hp) (by simp)⟩
    have loop : codeAny (model X.prog X.w) X.A (.compLoop (.DictComp kx vx [⟨tg, iter, [], 0⟩] scope pos) 0 (.ref it) (.ref D) ce) (compPost (model X.prog X.w) X.A X.xe none (EP X pins σ Q) (.ref D) s3.heap.objs.size) s4 := by
      refine compLoop_anyD (fun n s' => ∃ i H', Inv (X.blk s3 H3 scope ce fp) [] (wipe σ (own.map (·.2))) H' s' ∧ tn i s'.heap ∧ (∀ b ∈ fp, H' b = none) ∧ W i n H') ?_ m0 ⟨0, H3, I4, st4, free3, w0⟩
      rintro n s5 ⟨i, H5, I5, st5, n5, w5⟩
      rcases turn i n H5 w5 with ⟨stop, qq⟩ | ⟨go, Nx, hNx, step⟩
      · refine thnF (T.done (X.blk s3 H3 scope ce fp) rfl rfl rfl hc i [] s5 _ H5 (fun _ _ => False) I5 (stat I5 n5) st5 stop) fun r s6 ⟨hr, I6⟩ => ?_
        subst hr
        have I7 : Inv X pins σ H5 s6 := I3.call' (ch := fp) I6.os I6.base I6.hok I6.bare fun b hb => by
          have z := (f3 b hb).1
          exact ⟨z.2.2.2.1, z.2.1, z.2.2.2.2.1, z.2.2.2.2.2⟩
        have nC : H5 s3.heap.objs.size = none := by
          rw [← locals]
          exact I6.free
        obtain ⟨m, hn, _⟩ := I6.loc
        have hn' : s6.heap.Ns s3.heap.objs.size m := by
          rw [← locals]
          exact hn
        refine ⟨m, hn', fun h'' sb => ?_⟩
        obtain ⟨z0, z1, z2, z3, z4, z5⟩ := I3.fpOk (Nat.le_refl _) nC
        exact ⟨.ref D, H5, I7.turned (t' := s6.toks) (fun b o hb e => (sb.2 b hb).trans e) z0 z1 z3 z4 z5, rfl, qq⟩
      · refine thnF (T.item (X.blk s3 H3 scope ce fp) rfl rfl rfl hc i [] s5 _ H5 (fun _ _ => False) I5 (stat I5 n5) st5 go) fun r s6 ⟨u, hr, h6⟩ => ?_
        subst hr
        refine thnF h6 fun _ s7 ⟨x, H7, I7, r7, y7, st7, n7⟩ => ?_
        have I7' := I7.pinned (stat I7 n7) (T.obj _ _ st7)
        refine thnF (pg.run _ s7 _ H7 x u _ I7' r7 (step x H7 y7)) fun _ s8 ⟨σ8, H8, I8, hw8, q8⟩ => ?_
        refine wpAny_pure ?_
        rw [if_pos rfl]
        refine thnF (pk.run _ s8 σ8 H8 _ I8 q8) fun z s10 ⟨yv, H10, I10, r10, q10⟩ => ?_
        refine thnF (pe.run _ s10 σ8 H10 _ I10 q10) fun z2 s11 ⟨zv, H11, I11, r11, ents, k, b, ey, hD11, hb11, room, nx⟩ => ?_
        subst ey
        cases (show z = Value.ref b from r10)
        refine dset_tk (X := X.blk s3 H3 scope ce fp) hu I11 hD11 hb11 room r11 fun s12 I12 => ?_
        obtain ⟨m', hm, w'⟩ := hNx _ nx
        have pin' : ∀ c ∈ fp, ∀ o, s7.heap.get? c = some o → s12.heap.get? c = some o ∧ upd H11 D (.dT (putK ents k zv)) c = none := fun c hc' o e =>
          let z := I12.pin (c, o) (List.mem_append_right _ (List.mem_append_right _ (mem_pinsAt hc' e)))
          ⟨z.1, z.2.1⟩
        have len : (wipe σ (own.map (·.2))).length = σ8.length := by rw [← hw8, wipe_length]
        refine ⟨m', hm, i + 1, _, (I12.unpinned (pins := [])).weak len (fun j v e => ?_), T.keep _ _ _ st7 fun c hc' o e => (pin' c hc' o e).1, fun c hc' => ?_, w'⟩
        · rw [← hw8] at e
          exact (wipe_some e).1
        · obtain ⟨o, e, _⟩ := T.obj _ _ st7 c hc'
          exact (pin' c hc' o e).2
    exact codeAny_compStart_dict loop (T.self X.A 0 _ _ _ st4 loop)
  exact goal
/-- the same over a tuple that stands still -/
theorem dcT_tup {K : PySem.W.Frag} {a : Addr} {xs : List V} {g : TG} {tk tv : TE} {vs : List Nat} {σ : L2.St} {H1 : Hp} {D : Addr} {Qd : Hp → Prop} (Pv : Nat → Hp → Prop) (h0 : Pv 0 (upd H1 D (.dT [])))
    (hl : ∀ i H, i ≤ xs.length → Pv i H → SqT K H a xs)
    (hs : ∀ i x H, xs[i]? = some x → Pv i H → g x (wipe σ vs) H fun σ2 H2 => wipe σ2 vs = wipe σ vs ∧ tk σ2 H2 fun y H4 => tv σ2 H4 fun z H5 =>
      ∃ (ents : List (List Key × V)) (k : List Key) (b : Addr), y = .ref b ∧ H5 D = some (.dT ents) ∧ H5 b = some (.tup (k.map kV)) ∧ ents.length < sizeLine ∧ Pv (i + 1) (upd H5 D (.dT (putK ents k z)))) (hd : ∀ H, Pv xs.length H → Qd H) :
    ∃ W : Nat → Nat → Hp → Prop, (∃ m, W 0 m (upd H1 D (.dT []))) ∧ ∀ i m H, W i m H → ((Itt K a).stop i H ∧ Qd H) ∨ ((Itt K a).go i H ∧ ∃ Nx : Hp → Prop, (∀ H', Nx H' → ∃ m', m' < m ∧ W (i + 1) m' H') ∧
      ∀ x H', (Itt K a).yld i H x H' → g x (wipe σ vs) H' fun σ2 H2 => wipe σ2 vs = wipe σ vs ∧ tk σ2 H2 fun y H4 => tv σ2 H4 fun z H5 =>
        ∃ (ents : List (List Key × V)) (k : List Key) (b : Addr), y = .ref b ∧ H5 D = some (.dT ents) ∧ H5 b = some (.tup (k.map kV)) ∧ ents.length < sizeLine ∧ Nx (upd H5 D (.dT (putK ents k z)))) := by
  refine ⟨fun i m H => m = xs.length - i ∧ i ≤ xs.length ∧ Pv i H, ⟨xs.length, by simp, Nat.zero_le _, h0⟩, ?_⟩
  rintro i m H ⟨rfl, hi, p⟩
  have q := hl i H hi p
  rcases Nat.lt_or_ge i xs.length with lt | ge
  · refine .inr ⟨⟨xs, xs[i], q, by simp [lt]⟩, Pv (i + 1), fun H' p' => ⟨xs.length - (i + 1), by omega, rfl, lt, p'⟩, fun x H' y => ?_⟩
    obtain ⟨e, y⟩ := y
    subst e
    exact hs i x _ (y xs q) p
  · have e : i = xs.length := by omega
    subst e
    exact .inl ⟨⟨xs, q, Nat.le_refl _⟩, hd H p⟩
/-! ### sorted(d), the keys being rows of texts -/
def keyRow (ws : List Str) : List Key := ws.map Sum.inr
theorem kV_row (ws : List Str) : (keyRow ws).map kV = ws.map V.str := by
  unfold keyRow
  rw [List.map_map]
  rfl
/-- what stands at a tuple's address -/
def tupOf (H : Hp) (x : V) : List V := match x with
  | .ref a => match H a with | some (.tup xs) => xs | _ => []
  | _ => []
def strOf : V → Str
  | .str z => z
  | _ => Str.empty
/-- the row of texts that is told by a value -/
def rowOf (H : Hp) (x : V) : List Str := (tupOf H x).map strOf
theorem rowOf_at {H : Hp} {a : Addr} {ws : List Str} (h : H a = some (.tup (ws.map V.str))) : rowOf H (.ref a) = ws := by
  unfold rowOf tupOf
  simp only [h]
  rw [List.map_map]
  exact List.map_id' ws
def rSortKD : List V → Hp → VK → Prop := fun vs H Q => ∃ (d : Addr) (rs : List (List Str)) (ents : List (List Key × V)), vs = [V.ref d] ∧ H d = some (.dT ents) ∧ ents.map (·.1) = rs.map keyRow ∧
  ∀ (bs ys : List V) (p : Addr), Paired (fun (b : V) (ws : List Str) => ∃ a, b = V.ref a ∧ H a = some (.tup (ws.map V.str))) bs rs →
    SrtO.Srtd (ltV fun x => rowL (rowOf H x)) ys → SrtO.Stb (ltV fun x => rowL (rowOf H x)) ys bs → H p = none → Q (.ref p) (upd H p (.lst ys))
theorem keys_rows {H : Hp} : ∀ {ents : List (List Key × V)} {xs : List (List Key × Addr × Value)} {rs : List (List Str)}, KT H ents xs → ents.map (·.1) = rs.map keyRow →
    Paired (fun (b : V) (ws : List Str) => ∃ a, b = V.ref a ∧ H a = some (.tup (ws.map V.str))) (xs.map fun x => V.ref x.2.1) rs
  | _, _, [], r, e => by
    cases r with
    | nil => exact .nil
    | cons _ _ => cases e
  | _, _, ws :: rs, r, e => by
    cases r with
    | nil => cases e
    | cons h t =>
      rw [List.map_cons, List.map_cons] at e
      injection e with e1 e2
      obtain ⟨_, h2, _⟩ := h
      rw [e1, kV_row] at h2
      exact .cons ⟨_, rfl, h2⟩ (keys_rows t e2)
theorem ref_vals : ∀ as : List Addr, Vals (as.map V.ref) (as.map Value.ref)
  | [] => .nil
  | _ :: as => .cons rfl (ref_vals as)
theorem cr_sortKD (hc : X.calm = true) (hu : X.A.units + 66 < cLine) : CallR X (.builtin "sorted") rSortKD := by
  intro pins s σ H vs us Q I r ⟨d, rs, ents, e0, hd, hk, q⟩
  subst e0
  rw [Vals.ref1 r]
  obtain ⟨zf, low, xs, pr, o, es, ep, ho, hx, hdt, he, _, _⟩ := dt_of I.hok hd
  have l1 : es.size = xs.length := size_of_entries he
  have l2 : ents.length = xs.length := Paired.length pr
  refine Calls.call_function_entry kind_sorted plain_sorted entry_sorted (args_sorted1 _) ?_
  unfold Builtin.«sorted»
  refine wpAny_bind (m := checkCount "sorted" 1 1 _) (wpAny_pure ?_)
  refine wpAny_bind (PySem.W.kdu_collect (A := X.A.in1) (kdl_raw low hx hdt) (I.ok.hd hc) ho (by omega) fun h' tk acc kp it => ?_)
  have ea : acc.toList = (xs.map fun x => x.2.1).map Value.ref := by
    have len : acc.toList.length = xs.length := by rw [Array.length_toList, it.1]; exact l1
    apply List.ext_getElem?
    intro j
    rw [List.getElem?_map, List.getElem?_map]
    cases hj : acc.toList[j]? with
    | none =>
      have := List.getElem?_eq_none_iff.mp hj
      rw [List.getElem?_eq_none (by omega)]
      rfl
    | some v =>
      obtain ⟨en, hen, hv⟩ := it.2 j v (by rw [← Array.getElem?_toList]; exact hj)
      have w := entry_at he j
      rw [hen] at w
      cases hb : xs[j]? with
      | none =>
        rw [hb] at w
        cases w
      | some b =>
        rw [hb] at w
        have e2 : en = entryOfKey (tupleKind (mixKind X.prog X.w)) b := Option.some.inj w
        rw [hv, e2]
        rfl
  have I1 : Inv X pins σ H { s with heap := h', toks := tk } := I.kept kp
  have hz : acc.toList.length ≤ sizeLine := by rw [ea, List.length_map, List.length_map]; omega
  refine wpAny_bind (wpAny_newList ?_ hz)
  have pb := keys_rows pr hk
  have gb : ∀ v ∈ acc.toList, ∃ (a : Addr) (ws : List Str), v = Value.ref a ∧ H a = some (.tup (ws.map V.str)) := fun v hv => by
    rw [ea] at hv
    obtain ⟨a, ha, rfl⟩ := List.mem_map.mp hv
    have ha' : V.ref a ∈ xs.map fun x => V.ref x.2.1 := by
      obtain ⟨x, hx1, hx2⟩ := List.mem_map.mp ha
      exact List.mem_map.mpr ⟨x, hx1, by rw [hx2]⟩
    obtain ⟨i, hi⟩ := List.mem_iff_getElem?.mp ha'
    obtain ⟨ws, _, a', e, h2⟩ := paired_at pb i _ hi
    cases e
    exact ⟨a, ws, rfl, h2⟩
  have R : NmD.Rows h' acc.toList (fun u => rowL (rowOf H (backV u))) := by
    refine ⟨fun v hv => ?_, fun v hv => pure_rowL _, fun v hv u hu => alike_rowL _ _, fun v hv => by rw [depth_rowL]; decide⟩
    obtain ⟨a, ws, rfl, ha⟩ := gb v hv
    show ∃ as, Reads h' (.ref a) (.tuple (rowL (rowOf H (.ref a)))) as
    rw [rowOf_at ha]
    exact Dp.reads I1 _ (.ref a) (.ref a) (dp_row ha) rfl
  have hoL : (h'.push (seqObj "list" acc.toList.toArray 0)).get? h'.objs.size = some (seqObj "list" acc.toList.toArray 0) := Heap.get?_push_size _ rfl
  show wpAny _ _ _ _ _ { s with heap := h'.push (seqObj "list" acc.toList.toArray 0), toks := tk }
  refine wpAny_bind (wpAny_holding (wpAny_call_entry slot_list_sort ⟨_, hoL, rfl⟩ entry_list_sort
    (SrtO.list_sort_ord (s := { s with heap := h'.push (seqObj "list" acc.toList.toArray 0), toks := tk }) (NmD.ltD_swo fun u => rowL (rowOf H (backV u))) hoL hz
      (fun two => NmD.rows_sortable (s := { s with heap := h'.push (seqObj "list" acc.toList.toArray 0), toks := tk }) (R.keep fun b ob e _ => Heap.get?_push_of_some _ e) (by show X.A.units + 1 + 1 + 64 < cLine; omega) (by omega) fun ob e => ?_)
      fun out h1 h2 => ⟨_, rfl, ?_⟩) (args_list_sort _)))
  · have e' : some ob = some (seqObj "list" acc.toList.toArray 0) := e.symm.trans hoL
    cases e'
    intro c
    exact absurd (Value.type.inj c) (by decide)
  · obtain ⟨n, hn⟩ := sortedHeap_at (vs := acc.toList) (out := out.toArray) hoL
    have allRef : ∀ u ∈ out, ∃ a, u = Value.ref a := fun u hu => by
      obtain ⟨a, _, e, _⟩ := gb u (h2.perm.mem_iff.mp hu)
      exact ⟨a, e⟩
    have eb : acc.toList.map backV = xs.map fun x => V.ref x.2.1 := by
      rw [ea, List.map_map, List.map_map]
      rfl
    have hb : SrtO.Stb (ltV fun x => rowL (rowOf H x)) (out.map backV) (xs.map fun x => V.ref x.2.1) := by
      rw [← eb]
      exact SrtO.Stb.map (ltV_swo _) backV h2
    have fit : (out.map backV).length ≤ sizeLine := by rw [hb.len, List.length_map]; omega
    refine wpAny_pure ⟨_, rfl, .ref h'.objs.size, upd H h'.objs.size (.lst (out.map backV)), I1.laid (t' := tk) (fun b u e => ?_) (Nat.le_refl _) ⟨fit, out, n, vals_back allRef, hn⟩, rfl, q _ _ _ pb (SrtO.srtd_map h1) hb (I1.hok.fresh (Nat.le_refl _))⟩
    have lt := Heap.lt_size e
    rw [sortedHeap_old (Nat.ne_of_lt lt) (by rw [size_push']; exact Nat.lt_succ_of_lt lt)]
    exact Heap.get?_push_of_some _ e
end
end Nm
namespace Nm
open PySem PySem.Spec PyProof.Rows L2 NmD
/-- all tuples stand -/
def Tups (H H' : Hp) : Prop := ∀ a xs, H a = some (.tup xs) → H' a = some (.tup xs)
theorem Tups.refl (H : Hp) : Tups H H := fun _ _ h => h
theorem Tups.trans {H H1 H2 : Hp} (a : Tups H H1) (b : Tups H1 H2) : Tups H H2 := fun c o h => b c o (a c o h)
theorem tups_same {H H' : Hp} (g : Same H H') : Tups H H' := fun a xs h => g a _ h
theorem tups_lst {H : Hp} {D : Addr} {us vs : List V} (h : H D = some (.lst us)) : Tups H (upd H D (.lst vs)) := fun a xs e => by
  rw [upd_ne (fun z => by rw [z, h] at e; cases e)]
  exact e
theorem tups_dT {H : Hp} {D : Addr} {us vs : List (List Key × V)} (h : H D = some (.dT us)) : Tups H (upd H D (.dT vs)) := fun a xs e => by
  rw [upd_ne (fun z => by rw [z, h] at e; cases e)]
  exact e
/-- a tuple of things that are told by β -/
def TupOf {β : Type} (R : Hp → V → β → Prop) (H : Hp) (a : Addr) (bs : List β) : Prop := ∃ xs, H a = some (.tup xs) ∧ Paired (R H) xs bs
def LstOf {β : Type} (R : Hp → V → β → Prop) (H : Hp) (a : Addr) (bs : List β) : Prop := ∃ xs, H a = some (.lst xs) ∧ Paired (R H) xs bs
/-- what is told stays as long as tuples do -/
def Stays {β : Type} (R : Hp → V → β → Prop) : Prop := ∀ H H' x b, Tups H H' → R H x b → R H' x b
theorem TupOf.keep {β : Type} {R : Hp → V → β → Prop} (st : Stays R) {H H' : Hp} (t : Tups H H') {a : Addr} {bs : List β} (h : TupOf R H a bs) : TupOf R H' a bs := by
  obtain ⟨xs, h1, h2⟩ := h
  exact ⟨xs, t _ _ h1, paired_mono (fun _ _ => st _ _ _ _ t) h2⟩
theorem stays_tup {β : Type} {R : Hp → V → β → Prop} (st : Stays R) : Stays (fun H x (bs : List β) => ∃ a, x = V.ref a ∧ TupOf R H a bs) := fun H H' x bs t ⟨a, e, h⟩ => ⟨a, e, h.keep st t⟩
theorem LstOf.same {β : Type} {R : Hp → V → β → Prop} (st : Stays R) {H H' : Hp} (g : Same H H') {a : Addr} {bs : List β} (h : LstOf R H a bs) : LstOf R H' a bs := by
  obtain ⟨xs, h1, h2⟩ := h
  exact ⟨xs, g _ _ h1, paired_mono (fun _ _ => st _ _ _ _ (tups_same g)) h2⟩
/-- a word -/
def StrV (_ : Hp) (x : V) (z : Str) : Prop := x = .str z
theorem stays_str : Stays StrV := fun _ _ _ _ _ h => h
theorem strs_vs {H : Hp} : ∀ {xs : List V} {zs : List Str}, Paired (StrV H) xs zs → xs = zs.map V.str
  | _, _, .nil => rfl
  | _, _, .cons h t => by
    rw [show _ = V.str _ from h, strs_vs t]
    rfl
theorem strs_pv {H : Hp} : ∀ zs : List Str, Paired (StrV H) (zs.map V.str) zs
  | [] => .nil
  | _ :: zs => .cons rfl (strs_pv zs)
def BlV (_ : Hp) (x : V) (b : Bool) : Prop := x = .bl b
theorem stays_bl : Stays BlV := fun _ _ _ _ _ h => h
theorem bls_vs {H : Hp} : ∀ {xs : List V} {bs : List Bool}, Paired (BlV H) xs bs → xs = bs.map V.bl
  | _, _, .nil => rfl
  | _, _, .cons h t => by
    rw [show _ = V.bl _ from h, bls_vs t]
    rfl
def IntV (_ : Hp) (x : V) (n : Int) : Prop := x = .int n
theorem stays_int : Stays IntV := fun _ _ _ _ _ h => h
theorem ints_vs {H : Hp} : ∀ {xs : List V} {ns : List Int}, Paired (IntV H) xs ns → xs = ns.map V.int
  | _, _, .nil => rfl
  | _, _, .cons h t => by
    rw [show _ = V.int _ from h, ints_vs t]
    rfl
/-- a row -/
def RwAt (H : Hp) (x : V) (ws : List Str) : Prop := ∃ r, x = .ref r ∧ H r = some (.tup (ws.map V.str))
theorem stays_rw : Stays RwAt := fun _ _ _ _ t ⟨r, e, h⟩ => ⟨r, e, t _ _ h⟩
abbrev GmAt := TupOf RwAt
abbrev GlAt := LstOf RwAt
theorem GmAt.keep {H H' : Hp} (t : Tups H H') {a : Addr} {rs : List (List Str)} (h : GmAt H a rs) : GmAt H' a rs := TupOf.keep stays_rw t h
theorem paired_fmap {α β γ : Type} {R : α → β → Prop} (f : β → Bool) (g : β → γ) (l : List β) (i : Nat) (b : β) (h : l[i]? = some b) : ((l.take (i + 1)).filter f).map g = ((l.take i).filter f).map g ++ (if f b = true then [g b] else []) := by
  rw [take_one h, List.filter_append, List.map_append]
  by_cases c : f b = true
  · rw [if_pos c, List.filter_cons_of_pos c]
    rfl
  · rw [if_neg c, List.filter_cons_of_neg c]
    rfl
theorem fmap_one {β γ : Type} (f : β → Bool) (g : β → γ) (l : List β) (i : Nat) (b : β) (h : l[i]? = some b) : ((l.take (i + 1)).filter f).map g = ((l.take i).filter f).map g ++ (if f b = true then [g b] else []) := by
  rw [take_one h, List.filter_append, List.map_append]
  by_cases c : f b = true
  · rw [if_pos c, List.filter_cons_of_pos c]
    rfl
  · rw [if_neg c, List.filter_cons_of_neg c]
    rfl
theorem fmap_len {β γ : Type} (f : β → Bool) (g : β → γ) (l : List β) (i : Nat) : (((l.take i).filter f).map g).length ≤ l.length := by
  rw [List.length_map]
  exact Nat.le_trans (List.length_filter_le _ _) (by rw [List.length_take]; exact Nat.min_le_right _ _)
/-- a comprehension that only reads: over n items bs, those with f, each made by m; what is made is told by R -/
theorem lcS {J : It} {n : Nat} {G : Hp → Prop} {Y : Nat → Hp → V → Hp → Prop} (wk : Walk J n G Y) {β γ : Type} {R : Hp → V → γ → Prop} (st : Stays R) (bs : List β) (f : β → Bool) (m : β → γ) {H0 : Hp} (hn : n = bs.length) (hz : bs.length ≤ 100000) (hG : ∀ H, Same H0 H → G H)
    {g : TG} {tt : TT} {te : TE} {vs : List Nat} {σ : L2.St} {D : Addr} {Qd : Hp → Prop} (hD : H0 D = none)
    (hs : ∀ (i : Nat) (x : V) (b : β) (H H' : Hp) (Nx : Hp → Prop), bs[i]? = some b → Y i H x H' → Same H0 H → (f b = false → ∀ H2, Same H H2 → Nx H2) →
      (f b = true → ∀ y H2, Same H H2 → R H2 y (m b) → ∃ acc, H2 D = some (.lst acc) ∧ acc.length < sizeLine ∧ Nx (upd H2 D (.lst (acc ++ [y])))) →
      g x (wipe σ vs) H' fun σ2 H2 => wipe σ2 vs = wipe σ vs ∧ tt σ2 H2 fun c H3 => if c = true then te σ2 H3 fun y H4 => ∃ acc, H4 D = some (.lst acc) ∧ acc.length < sizeLine ∧ Nx (upd H4 D (.lst (acc ++ [y]))) else Nx H3)
    (hd : ∀ H, Same H0 H → LstOf R H D ((bs.filter f).map m) → Qd H) :
    ∃ W : Nat → Nat → Hp → Prop, (∃ m, W 0 m (upd H0 D (.lst []))) ∧ ∀ i m H, W i m H → (J.stop i H ∧ Qd H) ∨ (J.go i H ∧ ∃ Nx : Hp → Prop, (∀ H', Nx H' → ∃ m', m' < m ∧ W (i + 1) m' H') ∧
      ∀ x H', J.yld i H x H' → g x (wipe σ vs) H' fun σ2 H2 => wipe σ2 vs = wipe σ vs ∧ tt σ2 H2 fun c H3 => if c = true then te σ2 H3 fun y H4 => ∃ acc, H4 D = some (.lst acc) ∧ acc.length < sizeLine ∧ Nx (upd H4 D (.lst (acc ++ [y]))) else Nx H3) := by
  subst hn
  have big : (100000 : Nat) < sizeLine := by decide
  refine lc_it wk (fun i H => Same H0 H ∧ LstOf R H D (((bs.take i).filter f).map m)) ⟨same_new hD, [], upd_same, .nil⟩ (fun i H _ p => hG H p.1) ?_ ?_
  · rintro i x H H' hi ⟨sm, acc, ha, pa⟩ hy
    have hb : bs[i]? = some bs[i] := List.getElem?_eq_getElem hi
    have la : acc.length ≤ bs.length := by
      rw [paired_len pa]
      exact fmap_len f m bs i
    refine hs i x _ H H' (fun H2 => Same H0 H2 ∧ LstOf R H2 D (((bs.take (i + 1)).filter f).map m)) hb hy sm (fun c H2 g2 => ⟨sm.trans g2, acc, g2 _ _ ha, ?_⟩) (fun c y H2 g2 r => ⟨acc, g2 _ _ ha, by omega, ?_⟩)
    · rw [fmap_one f m bs i _ hb, c, if_neg Bool.false_ne_true, List.append_nil]
      exact paired_mono (fun _ _ => st _ _ _ _ (tups_same g2)) pa
    · have t := tups_lst (vs := acc ++ [y]) (g2 _ _ ha)
      refine ⟨same_mut (sm.trans g2) hD, acc ++ [y], upd_same, ?_⟩
      rw [fmap_one f m bs i _ hb, c, if_pos rfl]
      exact paired_snoc (paired_mono (fun _ _ z => st _ _ _ _ t (st _ _ _ _ (tups_same g2) z)) pa) (st _ _ _ _ t r)
  · rintro H ⟨sm, l⟩
    rw [List.take_length] at l
    exact hd H sm l
theorem filter_all {β : Type} (bs : List β) : bs.filter (fun _ => true) = bs := List.filter_eq_self.mpr fun _ _ => rfl
/-! ### rows as data -/
theorem dpAll_rows {K : PySem.W.Frag} {H : Hp} : ∀ {xs : List V} {rs : List (List Str)}, Paired (RwAt H) xs rs → DpAll K H xs (rs.map rowD)
  | _, _, .nil => .nil
  | _, _, .cons ⟨r, e, h⟩ t => by
    subst e
    exact .cons (dp_row h) (dpAll_rows t)
abbrev gameD (rs : List (List Str)) : PyData := .tuple (rs.map rowD)
theorem dp_game {K : PySem.W.Frag} {H : Hp} {a : Addr} {rs : List (List Str)} (h : GmAt H a rs) : Dp K H (.ref a) (gameD rs) := by
  obtain ⟨xs, h1, h2⟩ := h
  exact .tup (SqT.of h1) (dpAll_rows h2)
theorem dp_gameL {K : PySem.W.Frag} {H : Hp} {a : Addr} {rs : List (List Str)} (h : GlAt H a rs) : Dp K H (.ref a) (.list (rs.map rowD)) := by
  obtain ⟨xs, h1, h2⟩ := h
  exact .lst (SqL.of h1) (dpAll_rows h2)
theorem eqv_rows : ∀ rs qs : List (List Str), PyData.eqvAll (rs.map rowD) (qs.map rowD) = decide (rs = qs)
  | [], [] => by simp [PyData.eqvAll]
  | [], _ :: _ => by simp [PyData.eqvAll]
  | _ :: _, [] => by simp [PyData.eqvAll]
  | r :: rs, q :: qs => by
    rw [List.map_cons, List.map_cons, PyData.eqvAll, eqv_rows rs qs, eqv_row]
    by_cases h1 : r = q <;> by_cases h2 : rs = qs <;> simp [h1, h2]
theorem eqv_game (rs qs : List (List Str)) : PyData.eqv (gameD rs) (gameD qs) = decide (rs = qs) := by rw [PyData.eqv, eqv_rows]
theorem any_row (q : List Str) : ∀ rs : List (List Str), ((rs.map rowD).any fun z => PyData.eqv z (rowD q)) = decide (q ∈ rs)
  | [] => by simp
  | r :: rs => by
    rw [List.map_cons, List.any_cons, any_row q rs, eqv_row]
    by_cases h : r = q
    · subst h
      simp
    · have h' : ¬ q = r := fun z => h z.symm
      simp [h, h']
theorem any_str (q : Str) : ∀ ws : List Str, ((rowL ws).any fun z => PyData.eqv z (.str q)) = decide (q ∈ ws)
  | [] => by simp
  | w :: ws => by
    rw [rowL_cons, List.any_cons, any_str q ws, PyData.eqv]
    by_cases h : w = q
    · subst h
      simp
    · have h' : ¬ q = w := fun z => h z.symm
      simp [h, h']
theorem lay_word {z : Str} (h : wordOk z) : PyData.canLay0 (.str z) = true := lay_let h.1
theorem shaped_rw {r : List Str} (h : ∀ z ∈ r, wordOk z) : SeqAt.shaped (rowD r) = true := shaped_row fun z hz => lay_word (h z hz)
theorem lay_rows : ∀ rs : List (List Str), (∀ r ∈ rs, ∀ z ∈ r, wordOk z) → PyData.canLayAll0 (rs.map rowD) = true ∧ PyData.depthAll (rs.map rowD) ≤ 1
  | [], _ => by simp [PyData.canLayAll0, PyData.depthAll]
  | r :: rs, h => by
    obtain ⟨h1, h2⟩ := lay_rows rs fun r hr => h r (List.mem_cons_of_mem _ hr)
    rw [List.map_cons, PyData.canLayAll0, h1, PyData.depthAll]
    have e : PyData.depth (rowD r) = 1 := by
      rw [PyData.depth, depth_rowL]
    refine ⟨?_, by omega⟩
    rw [PyData.canLay0, lay_rowL r fun z hz => lay_word (h r List.mem_cons_self z hz)]
    rfl
theorem shaped_game {rs : List (List Str)} (h : ∀ r ∈ rs, ∀ z ∈ r, wordOk z) : SeqAt.shaped (gameD rs) = true := by
  unfold SeqAt.shaped
  obtain ⟨h1, h2⟩ := lay_rows rs h
  rw [PyData.canLay0, h1, PyData.depth, Bool.true_and]
  exact decide_eq_true (by omega)
theorem shaped_gameL {rs : List (List Str)} (h : ∀ r ∈ rs, ∀ z ∈ r, wordOk z) : SeqAt.shaped (.list (rs.map rowD)) = true := by
  unfold SeqAt.shaped
  obtain ⟨h1, h2⟩ := lay_rows rs h
  rw [PyData.canLay0, h1, PyData.depth, Bool.true_and]
  exact decide_eq_true (by omega)
theorem shaped_wd {z : Str} (h : wordOk z) : SeqAt.shaped (.str z) = true := by
  unfold SeqAt.shaped
  rw [lay_word h, PyData.depth]
  rfl
/-! ### dicts keyed by rows -/
theorem inr_inj {a b : List Str} : keyRow a = keyRow b ↔ a = b := by
  constructor
  · intro h
    have := congrArg (List.map fun k : Key => match k with | .inr z => z | .inl _ => Str.empty) h
    unfold keyRow at this
    rw [List.map_map, List.map_map] at this
    exact (List.map_id a).symm.trans ((show List.map id a = List.map id b from this).trans (List.map_id b))
  · intro h
    rw [h]
/-- the keys, rows, and what is told of each -/
structure RDict {γ : Type} (R : V → γ → Prop) (ents : List (List Key × V)) (ks : List (List Str)) (val : List Str → γ) : Prop where
  keys : ents.map (·.1) = ks.map keyRow
  nd : ks.Nodup
  vals : ∀ e ∈ ents, ∀ k, e.1 = keyRow k → R e.2 (val k)
/-- the keys with one more -/
def plusR (ks : List (List Str)) (k : List Str) : List (List Str) := if k ∈ ks then ks else ks ++ [k]
theorem mem_plusR {ks : List (List Str)} {k x : List Str} : x ∈ plusR ks k ↔ x ∈ ks ∨ x = k := by
  unfold plusR
  by_cases h : k ∈ ks
  · rw [if_pos h]
    constructor
    · exact .inl
    · rintro (z | rfl)
      · exact z
      · exact h
  · rw [if_neg h, List.mem_append, List.mem_singleton]
theorem plusR_nd {ks : List (List Str)} (n : ks.Nodup) (k : List Str) : (plusR ks k).Nodup := by
  unfold plusR
  by_cases h : k ∈ ks
  · rw [if_pos h]
    exact n
  · rw [if_neg h]
    exact List.nodup_append.mpr ⟨n, List.pairwise_singleton _ _, fun a ha b hb e => h (by rw [← List.mem_singleton.mp hb, ← e]; exact ha)⟩
theorem key_any {ents : List (List Key × V)} {ks : List (List Str)} (h : ents.map (·.1) = ks.map keyRow) (k : List Str) : (ents.any fun e => decide (e.1 = keyRow k)) = decide (k ∈ ks) := by
  have e1 : (ents.any fun e => decide (e.1 = keyRow k)) = (ents.map (·.1)).any fun y => decide (y = keyRow k) := by
    rw [List.any_map]
    rfl
  rw [e1, h, List.any_map]
  by_cases m : k ∈ ks
  · rw [decide_eq_true m, List.any_eq_true]
    exact ⟨k, m, decide_eq_true rfl⟩
  · rw [decide_eq_false m, List.any_eq_false]
    intro x hx z
    exact m (inr_inj.mp (of_decide_eq_true z) ▸ hx)
theorem RDict.put {γ : Type} {R : V → γ → Prop} {ents : List (List Key × V)} {ks : List (List Str)} {val : List Str → γ} (d : RDict R ents ks val) (k : List Str) {y : V} {c : γ} (r : R y c) :
    RDict R (putK ents (keyRow k) y) (plusR ks k) (fun x => if x = k then c else val x) := by
  have ka := key_any d.keys k
  refine ⟨?_, plusR_nd d.nd k, ?_⟩
  · unfold putK plusR
    rw [ka]
    by_cases m : k ∈ ks
    · rw [if_pos (decide_eq_true m), if_pos m, List.map_map, ← d.keys]
      refine List.map_congr_left fun e _ => ?_
      show (if e.1 = keyRow k then (e.1, y) else e).1 = e.1
      by_cases c : e.1 = keyRow k
      · rw [if_pos c]
      · rw [if_neg c]
    · rw [if_neg (by rw [decide_eq_false m]; exact Bool.false_ne_true), if_neg m, List.map_append, List.map_append, d.keys]
      rfl
  · intro e he x ex
    unfold putK at he
    rw [ka] at he
    by_cases m : k ∈ ks
    · rw [if_pos (decide_eq_true m)] at he
      obtain ⟨f, hf, rfl⟩ := List.mem_map.mp he
      by_cases c1 : f.1 = keyRow k
      · rw [if_pos c1] at ex ⊢
        have : x = k := inr_inj.mp (ex.symm.trans c1)
        rw [if_pos this]
        exact r
      · rw [if_neg c1] at ex ⊢
        have : x ≠ k := fun z => c1 (by rw [ex, z])
        rw [if_neg this]
        exact d.vals f hf x ex
    · rw [if_neg (by rw [decide_eq_false m]; exact Bool.false_ne_true)] at he
      rcases List.mem_append.mp he with h1 | h1
      · have : x ≠ k := fun z => m (by
          have hm : keyRow x ∈ ks.map keyRow := by
            rw [← d.keys, ← ex]
            exact List.mem_map.mpr ⟨e, h1, rfl⟩
          obtain ⟨y', hy, ey⟩ := List.mem_map.mp hm
          rw [← z, ← inr_inj.mp ey]
          exact hy)
        rw [if_neg this]
        exact d.vals e h1 x ex
      · rw [List.mem_singleton.mp h1] at ex ⊢
        have : x = k := (inr_inj.mp ex).symm
        rw [if_pos this]
        exact r
theorem RDict.get {γ : Type} {R : V → γ → Prop} {ents : List (List Key × V)} {ks : List (List Str)} {val : List Str → γ} (d : RDict R ents ks val) {k : List Str} (h : k ∈ ks) : ∃ y, valV ents (keyRow k) = some y ∧ R y (val k) := by
  have ka := key_any d.keys k
  rw [decide_eq_true h, List.any_eq_true] at ka
  unfold valV
  cases e : ents.find? fun kv => decide (kv.1 = keyRow k) with
  | none =>
    obtain ⟨x, hx, z⟩ := ka
    exact absurd z (List.find?_eq_none.mp e x hx)
  | some f =>
    have z := List.find?_some e
    exact ⟨f.2, rfl, d.vals f (List.mem_of_find?_eq_some e) k (of_decide_eq_true z)⟩
theorem keys_isSome {ents : List (List Key × V)} {ks : List (List Str)} (h : ents.map (·.1) = ks.map keyRow) (k : List Str) : (valV ents (keyRow k)).isSome = decide (k ∈ ks) := by
  rw [← key_any h k]
  unfold valV
  rw [Option.isSome_map]
  cases e : ents.find? fun kv => decide (kv.1 = keyRow k) with
  | none =>
    symm
    rw [Option.isSome_none, List.any_eq_false]
    exact List.find?_eq_none.mp e
  | some f =>
    symm
    rw [Option.isSome_some, List.any_eq_true]
    have z := List.find?_some e
    exact ⟨f, List.mem_of_find?_eq_some e, z⟩
end Nm
namespace Nm
open PySem PySem.Spec PyProof.Rows L2 NmD
theorem sl_drop {K : PySem.W.Frag} {H : Hp} {a : Addr} {xs : List V} {k : Nat} {Q : VK} (h : H a = some (.tup xs)) (q : ∀ r H', Same H H' → H' r = some (.tup (xs.drop k)) → Q (.ref r) H') : rSlA K (.ref a) (some (k : Int)) none H Q := by
  have e1 : HT.sIx xs.length 0 (some (k : Int)) = min k xs.length := HT.sIx_nat _ _ _
  refine ⟨a, xs, rfl, SqT.of h, fun z => ?_, fun z p hp => ?_⟩
  · have e := z.1
    rw [e1] at e
    refine q a H (Same.refl H) ?_
    by_cases c : k = 0
    · rw [c, List.drop_zero]
      exact h
    · have : xs = [] := List.eq_nil_of_length_eq_zero (by omega)
      rw [this, List.drop_nil]
      rw [this] at h
      exact h
  · refine q p _ (same_new hp) ?_
    rw [upd_same]
    unfold cutV
    rw [e1, HT.sIx_none, List.take_of_length_le (by rw [List.length_drop]; omega)]
    by_cases c : k ≤ xs.length
    · rw [Nat.min_eq_left c]
    · rw [Nat.min_eq_right (by omega), List.drop_length, List.drop_of_length_le (by omega)]
/-- rows sorted: each once, ascending -/
theorem sorted_rows {H : Hp} {xs ys : List V} {rs : List (List Str)} (pa : Paired (RwAt H) xs rs) (nd : rs.Nodup) (srt : SrtO.Srtd (ltV fun x => rowL (rowOf H x)) ys) (stb : SrtO.Stb (ltV fun x => rowL (rowOf H x)) ys xs) :
    Paired (RwAt H) ys (ys.map (rowOf H)) ∧ (ys.map (rowOf H)).Pairwise bef ∧ (ys.map (rowOf H)).Perm rs := by
  have back : ∀ {us : List V} {qs : List (List Str)}, Paired (RwAt H) us qs → us.map (rowOf H) = qs := by
    intro us qs p
    induction p with
    | nil => rfl
    | cons h _ ih =>
      obtain ⟨r, e, hr⟩ := h
      rw [List.map_cons, ih, e, rowOf_at hr]
  have each : ∀ y ∈ ys, RwAt H y (rowOf H y) := fun y hy => by
    obtain ⟨i, hi⟩ := List.mem_iff_getElem?.mp (stb.perm.mem_iff.mp hy)
    obtain ⟨ws, _, r, e, hr⟩ := paired_at pa i y hi
    subst e
    rw [rowOf_at hr]
    exact ⟨r, rfl, hr⟩
  have pm : (ys.map (rowOf H)).Perm rs := by
    rw [← back pa]
    exact stb.perm.map _
  refine ⟨?_, ?_, pm⟩
  · clear stb srt pm
    induction ys with
    | nil => exact .nil
    | cons y ys ih => exact .cons (each y List.mem_cons_self) (ih fun z hz => each z (List.mem_cons_of_mem _ hz))
  · refine srt_bef ?_ (pm.nodup_iff.mpr nd)
    rw [List.pairwise_map]
    exact srt
theorem sql_bl {K : PySem.W.Frag} {H : Hp} {D : Addr} {bs : List Bool} (l : LstOf BlV H D bs) : SqL K H D (bs.map V.bl) := by
  obtain ⟨acc, h, pa⟩ := l
  rw [bls_vs pa] at h
  exact SqL.of h
theorem lst_str {H : Hp} {D : Addr} {zs : List Str} (l : LstOf StrV H D zs) : H D = some (.lst (zs.map V.str)) := by
  obtain ⟨acc, h, pa⟩ := l
  rw [strs_vs pa] at h
  exact h
/-- {row: True for row in rows} -/
theorem dcT_true {K : PySem.W.Frag} {a : Addr} {rs : List (List Str)} {H0 : Hp} {g : TG} {tk tv : TE} {vs : List Nat} {σ : L2.St} {D : Addr} {Qd : Hp → Prop} (hx : GmAt H0 a rs) (hz : rs.length ≤ 100000) (hD : H0 D = none)
    (hs : ∀ (i : Nat) (r : Addr) (ws : List Str) (H : Hp) (Nx : Hp → Prop), rs[i]? = some ws → Same H0 H → H r = some (.tup (ws.map V.str)) → (∃ ents : List (List Key × V), H D = some (.dT ents) ∧ ents.length < sizeLine ∧ Nx (upd H D (.dT (putK ents (keyRow ws) (.bl true))))) →
      g (.ref r) (wipe σ vs) H fun σ2 H2 => wipe σ2 vs = wipe σ vs ∧ tk σ2 H2 fun y H4 => tv σ2 H4 fun z H5 =>
        ∃ (ents : List (List Key × V)) (k : List Key) (b : Addr), y = .ref b ∧ H5 D = some (.dT ents) ∧ H5 b = some (.tup (k.map kV)) ∧ ents.length < sizeLine ∧ Nx (upd H5 D (.dT (putK ents k z))))
    (hd : ∀ H (ents : List (List Key × V)) (ks : List (List Str)), Same H0 H → H D = some (.dT ents) → ents.map (·.1) = ks.map keyRow → (∀ z, z ∈ ks ↔ z ∈ rs) → Qd H) :
    ∃ W : Nat → Nat → Hp → Prop, (∃ m, W 0 m (upd H0 D (.dT []))) ∧ ∀ i m H, W i m H → ((Itt K a).stop i H ∧ Qd H) ∨ ((Itt K a).go i H ∧ ∃ Nx : Hp → Prop, (∀ H', Nx H' → ∃ m', m' < m ∧ W (i + 1) m' H') ∧
      ∀ x H', (Itt K a).yld i H x H' → g x (wipe σ vs) H' fun σ2 H2 => wipe σ2 vs = wipe σ vs ∧ tk σ2 H2 fun y H4 => tv σ2 H4 fun z H5 =>
        ∃ (ents : List (List Key × V)) (k : List Key) (b : Addr), y = .ref b ∧ H5 D = some (.dT ents) ∧ H5 b = some (.tup (k.map kV)) ∧ ents.length < sizeLine ∧ Nx (upd H5 D (.dT (putK ents k z)))) := by
  obtain ⟨xs, ha, pa⟩ := hx
  have el := paired_len pa
  have big : (100000 : Nat) < sizeLine := by decide
  refine dcT_tup (xs := xs) (fun i H => Same H0 H ∧ ∃ (ents : List (List Key × V)) (ks : List (List Str)), H D = some (.dT ents) ∧ ents.length ≤ i ∧ RDict (fun y (b : Bool) => y = V.bl b) ents ks (fun _ => true) ∧ ∀ z, z ∈ ks ↔ z ∈ rs.take i)
    ⟨same_new hD, [], [], upd_same, Nat.le_refl _, ⟨rfl, .nil, fun e he => absurd he (List.not_mem_nil)⟩, fun z => by simp⟩ (fun i H _ p => SqT.of (p.1 _ _ ha)) ?_ ?_
  · rintro i x H hi ⟨sm, ents, ks, hd1, le, dd, mem⟩
    obtain ⟨ws, hw, r, rfl, hr⟩ := paired_at pa i x hi
    have li := (List.getElem?_eq_some_iff.mp hi).1
    refine hs i r ws H (fun H => Same H0 H ∧ ∃ (ents : List (List Key × V)) (ks : List (List Str)), H D = some (.dT ents) ∧ ents.length ≤ i + 1 ∧ RDict (fun y (b : Bool) => y = V.bl b) ents ks (fun _ => true) ∧ ∀ z, z ∈ ks ↔ z ∈ rs.take (i + 1)) hw sm (sm _ _ hr) ⟨ents, hd1, by omega, same_mut sm hD, _, plusR ks ws, upd_same, ?_, ?_, fun z => ?_⟩
    · have := length_putK ents (keyRow ws) (V.bl true)
      omega
    · have p := dd.put ws (y := V.bl true) (c := true) rfl
      have e : (fun x => if x = ws then true else (fun _ => true) x) = fun _ : List Str => true := by
        funext x
        by_cases c : x = ws
        · rw [if_pos c]
        · rw [if_neg c]
      rw [e] at p
      exact p
    · rw [mem_plusR, mem z, take_one hw, List.mem_append, List.mem_singleton]
  · rintro H ⟨sm, ents, ks, hd1, le, dd, mem⟩
    rw [el, List.take_length] at mem
    exact hd H ents ks sm hd1 dd.keys mem
theorem kit_lt_lst {K : PySem.W.Frag} : PySem.W.kitAny K (.type "list") [.type "list", .type "tuple"] = some true := kitAny_cons (b := true) (kit_ty (by decide +kernel)) (fun z => absurd z (by decide)) (fun _ => rfl)
theorem kit_lt_tup {K : PySem.W.Frag} : PySem.W.kitAny K (.type "tuple") [.type "list", .type "tuple"] = some true := kitAny_cons (b := false) (kit_ty (by decide +kernel)) (fun _ => kitAny_cons (b := true) (kit_ty (by decide +kernel)) (fun z => absurd z (by decide)) (fun _ => rfl)) (fun z => absurd z (by decide))
theorem rowB_of {r : List Str} (h : rwOk r) : rowB r 60 = true := by
  unfold rowB
  rw [decide_eq_true (show ((r.length : Nat) : Int) ≤ 60 by have := h.1; omega), Bool.true_and, List.all_eq_true]
  exact fun z hz => (h.2 z hz).1
end Nm
namespace Nm
open PySem PySem.Spec PyProof.Rows L2 NmD
theorem sl_from1 {K : PySem.W.Frag} {H : Hp} {a : Addr} {xs : List V} {Q : VK} (h : H a = some (.tup xs)) (q : ∀ r H', Same H H' → H' r = some (.tup (xs.drop 1)) → Q (.ref r) H') : rSlA K (.ref a) (some 1) none H Q := sl_drop (k := 1) h q
def rLenS (K : PySem.W.Frag) : List V → Hp → VK → Prop := fun xs H Q => ∃ p ys, xs = [V.ref p] ∧ (SqL K H p ys ∨ SqT K H p ys) ∧ Q (V.int ys.length) H
theorem call_lenS {X : Cx} : CallR X (.builtin "len") (rLenS X.K) := call_len_seq
theorem sl_takeE {K : PySem.W.Frag} {H : Hp} {a : Addr} {xs : List V} {n : Int} {k : Nat} {Q : VK} (e : n = (k : Int)) (h : H a = some (.tup xs)) (q : ∀ r H', Same H H' → H' r = some (.tup (xs.take k)) → Q (.ref r) H') : rSlA K (.ref a) none (some n) H Q := by
  subst e
  exact sl_take h q
theorem sl_dropE {K : PySem.W.Frag} {H : Hp} {a : Addr} {xs : List V} {n : Int} {k : Nat} {Q : VK} (e : n = (k : Int)) (h : H a = some (.tup xs)) (q : ∀ r H', Same H H' → H' r = some (.tup (xs.drop k)) → Q (.ref r) H') : rSlA K (.ref a) (some n) none H Q := by
  subst e
  exact sl_drop h q
theorem keys_put {ents : List (List Key × V)} {ks : List (List Str)} (h : ents.map (·.1) = ks.map keyRow) (nd : ks.Nodup) (k : List Str) (y : V) : (putK ents (keyRow k) y).map (·.1) = (plusR ks k).map keyRow :=
  (RDict.put (R := fun _ (_ : Unit) => True) (val := fun _ => ()) ⟨h, nd, fun _ _ _ _ => trivial⟩ k (y := y) (c := ()) trivial).keys
theorem two : 2 ≤ PySem.sizeLine := by decide
theorem nought : 0 ≤ PySem.sizeLine := Nat.zero_le _
end Nm
namespace Nm
open PySem PySem.Spec PyProof.Rows L2 HT
/-! ### t[::-1], t a tuple -/
theorem adjust_rev (n : Nat) : Builtin.Slice.sliceAdjust none none (-1) (n : Int) = ((n : Int) - 1, -1) := by
  unfold Builtin.Slice.sliceAdjust
  simp
theorem places_rev (n : Nat) (h : 1 ≤ n) : Builtin.Slice.slicePlaces ((n : Int) - 1) (-1) (-1) = n := by
  unfold Builtin.Slice.slicePlaces
  have h1 : ¬ ((-1 : Int) > 0) := by omega
  simp only [h1, if_false]
  split
  · rw [show (- -1 : Int) = 1 by decide, Int.ediv_one]
    omega
  · omega
theorem fmap_some {α β : Type} {f : α → Option β} {g : α → β} : ∀ {l : List α}, (∀ m ∈ l, f m = some (g m)) → l.filterMap f = l.map g
  | [], _ => rfl
  | m :: l, h => by
    rw [List.filterMap_cons, h m List.mem_cons_self, List.map_cons]
    show g m :: List.filterMap f l = _
    rw [fmap_some fun z hz => h z (List.mem_cons_of_mem _ hz)]
theorem pick_rev (xs : Array Value) : ((List.range xs.size).filterMap fun (m : Nat) => xs[(((xs.size : Nat) : Int) - 1 + (m : Int) * -1).toNat]?).toArray = xs.toList.reverse.toArray := by
  congr 1
  apply List.ext_getElem?
  have e : (List.range xs.size).filterMap (fun (m : Nat) => xs[(((xs.size : Nat) : Int) - 1 + (m : Int) * -1).toNat]?) = (List.range xs.size).map fun m => xs.toList.reverse.getD m default := by
    refine fmap_some fun m hm => ?_
    have hm := List.mem_range.mp hm
    rw [show (((xs.size : Nat) : Int) - 1 + (m : Int) * -1).toNat = xs.size - 1 - m by omega]
    rw [List.getD_eq_getElem?_getD, List.getElem?_reverse (by rw [Array.length_toList]; exact hm), Array.length_toList, Array.getElem?_toList, Array.getElem?_eq_getElem (by omega)]
    rfl
  intro i
  rw [e, List.getElem?_map]
  by_cases c : i < xs.size
  · rw [List.getElem?_range c, List.getElem?_eq_getElem (by rw [List.length_reverse, Array.length_toList]; exact c)]
    show some (xs.toList.reverse.getD i default) = _
    rw [List.getD_eq_getElem?_getD, List.getElem?_eq_getElem (by rw [List.length_reverse, Array.length_toList]; exact c)]
    rfl
  · rw [List.getElem?_eq_none (by rw [List.length_range]; omega), List.getElem?_eq_none (by rw [List.length_reverse, Array.length_toList]; omega)]
    rfl
section
variable {prog : Program} {w : World} {A : Around} {E : Value → Shared → Prop} {s : Shared}
theorem sliceApplied_rev {sl : Addr} {vs : Value} {n : Nat} {Q : Int × Int × Nat → Shared → Prop} (hs : s.heap.IsSliceOf sl .none .none vs) (ps : IsPart vs (some (-1))) (hn : 1 ≤ n)
    (h : Q ((n : Int) - 1, -1, n) s) : wpAny (model prog w) A (Builtin.Slice.sliceApplied (.ref sl) (pure (n : Int))) Q E s := by
  obtain ⟨os, hos, hcs, hds⟩ := id hs
  unfold Builtin.Slice.sliceApplied Builtin.Slice.sliceFields
  refine wpAny_bind (wpAny_bind (wpAny_field hos hds (x := .none) rfl (wpAny_bind (wpAny_field hos hds (x := .none) rfl (wpAny_bind (wpAny_field hos hds (x := vs) rfl (wpAny_pure ?_)))))))
  refine wpAny_bind (slicePart_ ps ?_)
  show wpAny _ _ (if ((-1 : Int) == 0) = true then _ else _) _ _ s
  rw [if_neg (by decide)]
  refine wpAny_bind (slicePart_ .none (wpAny_bind (slicePart_ .none (wpAny_bind (wpAny_pure ?_)))))
  show wpAny _ _ (match Builtin.Slice.sliceAdjust none none (-1) (n : Int) with | (lo, hi) => pure (lo, (-1 : Int), Builtin.Slice.slicePlaces lo hi (-1))) _ _ s
  rw [adjust_rev n]
  show wpAny _ _ (pure ((n : Int) - 1, (-1 : Int), Builtin.Slice.slicePlaces ((n : Int) - 1) (-1) (-1))) _ _ s
  rw [places_rev n hn]
  exact wpAny_pure h
theorem getItem_tuple_rev {t sl : Addr} {items : Array Value} {vs : Value} {Q : Value → Shared → Prop} (ht : IsTup s.heap t items) (hs : s.heap.IsSliceOf sl .none .none vs) (ps : IsPart vs (some (-1))) (h1 : 1 ≤ items.size)
    (h : Q (.ref s.heap.objs.size) { s with heap := s.heap.push { cls := .type "tuple", data := .seq items.toList.reverse.toArray } })
    (hsz : items.size ≤ sizeLine) : wpAny (model prog w) A (getItem (.ref t) (.ref sl)) Q E s := by
  have htake : sizeOk (.seq items.toList.reverse.toArray) := by
    show items.toList.reverse.toArray.size ≤ sizeLine
    rw [List.size_toArray, List.length_reverse, Array.length_toList]
    exact hsz
  obtain ⟨os, hos, hcs, hds⟩ := id hs
  have hTs : s.TypeIs (.ref sl) "slice" := ⟨os, hos, hcs⟩
  unfold getItem
  try with_reducible refine wpAny_holding ?_
  first | refine wpAny_bind (wpAny_pure ?_) | skip
  refine wpAny_bind (wpAny_sequenceKey ht.typeIs (by decide) ?_)
  refine wpAny_bind (wpAny_callSpecial?_slot (name := Str.ofString "__getitem__") ht.typeIs PyProof.Rows.slot_tuple_getitem
    (wpAny_call_entry PyProof.Rows.slot_tuple_getitem ht.typeIs entry_tuple_getitem ?_ (args_tuple_getitem _ _)))
  show wpAny _ _ (Builtin.Tuple.tupleItemsOf (.ref t) >>= _) _ _ s
  refine wpAny_bind (tupleItemsOf_ ht ?_)
  refine wpAny_bind (wpAny_typeOf hTs ?_)
  rw [if_pos (by decide)]
  refine wpAny_bind (sliceApplied_rev (n := items.size) hs ps h1 ?_)
  have hno : ¬ (((((items.size : Nat) : Int) - 1) == 0 && (-1 : Int) == 1 && items.size == items.size) = true) := by
    intro q
    rw [Bool.and_eq_true, Bool.and_eq_true] at q
    exact absurd q.1.2 (by decide)
  show wpAny _ _ (if ((((items.size : Nat) : Int) - 1) == 0 && (-1 : Int) == 1 && items.size == items.size) = true then _ else _) _ _ s
  rw [if_neg hno, pick_rev]
  first
    | exact wpAny_bind (m := Builtin.Tuple.tupleExact _) (wpAny_newObj_type (wpAny_pure ⟨_, rfl, wpAny_pure h⟩) htake)
    | exact wpAny_bind (m := Builtin.Tuple.tupleExact _) (wpAny_newObj_type (wpAny_bind (wpAny_pure (wpAny_pure ⟨_, rfl, wpAny_pure h⟩))) htake)
    | exact wpAny_bind (wpAny_bind (m := Builtin.Tuple.tupleExact _) (wpAny_newObj_type (wpAny_pure (wpAny_pure ⟨_, rfl, wpAny_pure h⟩)) htake))
    | exact wpAny_bind (wpAny_bind (m := Builtin.Tuple.tupleExact _) (wpAny_newObj_type (wpAny_pure ⟨_, rfl, wpAny_pure h⟩) htake))
end
variable {X : Cx}
def tRevT (K : PySem.W.Frag) (te : TE) : TE := fun σ H Q => te σ H fun x H1 => ∃ a xs, x = .ref a ∧ SqT K H1 a xs ∧ xs ≠ [] ∧ ∀ p, H1 p = none → Q (.ref p) (upd H1 p (.tup xs.reverse))
theorem pe_revT {e : Expr} {te : TE} {k : Nat} {p1 p2 p3 pos : Pos} (he : PE X e te) : PE X (.Subscript e (.Slice none none (some (.UnaryOp .USub (.Constant (.int 1) k p1) p2)) p3) pos) (tRevT X.K te) := by
  refine ⟨fun pins s σ H Q I h => ?_⟩
  refine Subscript_ (thn (he.run pins s σ H _ I h) fun v s1 ⟨x, H1, I1, r1, q1⟩ => ?_)
  obtain ⟨a, xs, ex, hx, hne, q⟩ := q1
  subst ex
  cases r1
  have hst : PO X (some (.UnaryOp .USub (.Constant (.int 1) k p1) p2)) (tPart (tUn (rU fun i => .int (-i)) (tC (.int 1)))) := po_some (pe_un un_neg pe_int)
  refine wpAny_Slice (thn (po_none.run pins s1 σ H1 (fun o H2 => o = none ∧ H2 = H1) I1 ⟨rfl, rfl⟩) fun vl s2 ⟨l, H2, I2, pl, el, e2⟩ => ?_)
  subst el e2
  refine thn (po_none.run pins s2 σ H2 (fun o H3 => o = none ∧ H3 = H2) I2 ⟨rfl, rfl⟩) fun vu s3 ⟨u, H3, I3, pu, eu, e3⟩ => ?_
  subst eu e3
  refine thn (hst.run pins s3 σ H3 (fun o H4 => o = some (-1) ∧ H4 = H3) I3 ⟨1, rfl, -1, rfl, rfl, rfl⟩) fun vs s4 ⟨o, H4, I4, ps, eo, e4⟩ => ?_
  subst eo e4
  cases pl
  cases pu
  have I5 : Inv X pins σ H4 { s4 with heap := s4.heap.push { cls := .type "slice", data := .fields #[.none, .none, vs] } } := I4.kept (t' := s4.toks) fun b ob q => Heap.get?_push_of_some _ q
  obtain ⟨its, r, ht, hz⟩ := I5.tuple hx
  have hlen := r.length
  show wpAny (model X.prog X.w) X.A (subscriptTail e (.Slice none none (some (.UnaryOp .USub (.Constant (.int 1) k p1) p2)) p3) (.ref a) (.ref s4.heap.objs.size)) (EP X pins σ Q) X.xe { s4 with heap := s4.heap.push { cls := .type "slice", data := .fields #[.none, .none, vs] } }
  refine tail_any (ops := [.ref a, .ref s4.heap.objs.size]) ht.typeIs (PyProof.Rows.slot_tuple_getitem.lookup) ?_ (by with_unfolding_all rfl)
  have l1 : 1 ≤ its.toArray.size := by
    rw [List.size_toArray, ← hlen]
    exact List.length_pos_iff.mpr hne
  refine getItem_tuple_rev ht (Heap.IsSliceOf.new _ .none .none vs) ps l1 ?_ (by rw [List.size_toArray]; omega)
  refine ⟨.ref _, _, I5.laid (t' := s4.toks) (o := .tup xs.reverse) (fun b ob q => Heap.get?_push_of_some _ q) (Nat.le_refl _) ?_, rfl, q _ (I5.hok.fresh (Nat.le_refl _))⟩
  exact ⟨by rw [List.length_reverse]; exact hz, _, r.reverse, IsTup.new _ _⟩
end Nm
namespace Nm
open PySem PySem.Spec PyProof.Rows L2
/-! ### max(xs, default=d) of a list of ints -/
theorem fold_max : ∀ (xs : List Int) (x : Int), PySem.W.maxOf x xs ∈ x :: xs ∧ ∀ y ∈ x :: xs, y ≤ PySem.W.maxOf x xs
  | [], x => ⟨List.mem_singleton.mpr rfl, fun y hy => by rw [List.mem_singleton.mp hy]; exact Int.le_refl _⟩
  | z :: xs, x => by
    have e : PySem.W.maxOf x (z :: xs) = PySem.W.maxOf (if PySem.W.DatumOrd.lt x z = true then z else x) xs := rfl
    obtain ⟨h1, h2⟩ := fold_max xs (if PySem.W.DatumOrd.lt x z = true then z else x)
    rw [e]
    have c : PySem.W.DatumOrd.lt x z = decide (x < z) := rfl
    rw [c] at h1 h2 ⊢
    by_cases h : x < z
    · rw [if_pos (decide_eq_true h)] at h1 h2 ⊢
      refine ⟨List.mem_cons_of_mem _ h1, fun y hy => ?_⟩
      rcases List.mem_cons.mp hy with rfl | hy
      · have := h2 z List.mem_cons_self
        omega
      · exact h2 y hy
    · rw [if_neg (fun w => h (of_decide_eq_true w))] at h1 h2 ⊢
      refine ⟨?_, fun y hy => ?_⟩
      · rcases List.mem_cons.mp h1 with w | w
        · rw [w]
          exact List.mem_cons_self
        · exact List.mem_cons_of_mem _ (List.mem_cons_of_mem _ w)
      · rcases List.mem_cons.mp hy with rfl | hy
        · exact h2 _ List.mem_cons_self
        · rcases List.mem_cons.mp hy with rfl | hy
          · have := h2 x List.mem_cons_self
            omega
          · exact h2 y (List.mem_cons_of_mem _ hy)
def rMaxD0 (K : PySem.W.Frag) : List V → List V → Hp → VK → Prop := fun vs zs H Q => ∃ (a : Addr) (ns : List Int) (d : Int), vs = [V.ref a] ∧ zs = [.int d] ∧ SqL K H a (ns.map V.int) ∧ (ns = [] → Q (.int d) H) ∧ ∀ m, m ∈ ns → (∀ y ∈ ns, y ≤ m) → Q (.int m) H
theorem cr_maxDef {X : Cx} (hc : X.calm = true) (hu : X.A.units + 64 < cLine) : CallRK X (.builtin "max") [Str.ofString "default"] (rMaxD0 X.K) := by
  intro pins s σ H xs zs us ws Q I rx rz h
  obtain ⟨a, ns, d, rfl, rfl, hs, q0, q⟩ := h
  obtain ⟨its, rv, hl, _⟩ := I.list hs
  rw [Vals.ref1 rx]
  cases rz with
  | @cons _ wd _ _ rd rt =>
  cases rt
  have hi := rv.ints
  refine PySem.W.max_list_datum_default (xs := ns) (I.ok.hd hc) hl.isList (PySem.W.HoldAll.of_ints (by rw [List.toList_toArray]; exact hi)) (Nat.lt_of_le_of_lt (by show X.A.units + 1 + 0 ≤ X.A.units + 64; omega) hu) (fun e h' tk hk => ?_) fun y ys i v h' tk e hv hh hk => ?_
  · exact ⟨.int d, H, I.kept hk, rd, q0 e⟩
  · obtain ⟨m1, m2⟩ := fold_max ys y
    obtain ⟨as, r⟩ := hh
    have w : ∃ t, v = .int (PySem.W.maxOf y ys) t := by
      have := PySem.W.HoldAll.toInts (h := h') (vs := [v]) (ns := [PySem.W.maxOf y ys]) ⟨as ++ [], .cons r .nil⟩
      cases this
      exact ⟨_, rfl⟩
    obtain ⟨t, rfl⟩ := w
    subst e
    exact ⟨.int (PySem.W.maxOf y ys), H, I.kept hk, ⟨t, rfl⟩, q _ m1 m2⟩
end Nm
namespace Nm
open PySem PySem.Spec PyProof.Rows L2 NmD
/-! ### games solved -/
def nexts (rs : List (List Str)) (k : List Str) : List (List Str) := rs.filter (isNext k)
theorem mem_nexts {rs : List (List Str)} {k l : List Str} : l ∈ nexts rs k ↔ l ∈ rs ∧ ∃ w, l = k ++ [w] := by
  unfold nexts
  rw [List.mem_filter, isNext_iff]
theorem nexts_len {rs : List (List Str)} {k l : List Str} (h : l ∈ nexts rs k) : l.length = k.length + 1 := by
  obtain ⟨_, w, rfl⟩ := mem_nexts.mp h
  rw [List.length_append, List.length_singleton]
/-- what one step tells: does the one who moves win, and in how many words -/
def stepV (told : List (Bool × Int)) : Bool × Int :=
  let winning := (told.filter fun t => !t.1).map (·.2)
  if winning = [] then (false, (told.map fun t => 1 + t.2).foldl max 0) else (true, 1 + winning.foldl min (winning.headD 0))
def sol (rs : List (List Str)) : Nat → List Str → Bool × Int
  | 0, _ => (false, 0)
  | n + 1, row => stepV ((nexts rs row).map (sol rs n))
/-- of a row of at most 60 words -/
def val (rs : List (List Str)) (row : List Str) : Bool × Int := sol rs (61 - row.length) row
theorem val_eq (rs : List (List Str)) {row : List Str} (h : row.length ≤ 60) : val rs row = stepV ((nexts rs row).map (val rs)) := by
  unfold val
  obtain ⟨n, hn⟩ : ∃ n, 61 - row.length = n + 1 := ⟨60 - row.length, by omega⟩
  rw [hn]
  show stepV ((nexts rs row).map (sol rs n)) = _
  congr 1
  refine List.map_congr_left fun l hl => ?_
  rw [nexts_len hl, show 61 - (row.length + 1) = n by omega]
/-- the one who moves wins there just if some word leads to where the other one loses -/
theorem val_win {rs : List (List Str)} {row : List Str} (h : row.length ≤ 60) : (val rs row).1 = true ↔ ∃ l ∈ nexts rs row, (val rs l).1 = false := by
  rw [val_eq rs h]
  unfold stepV
  by_cases c : (((nexts rs row).map (val rs)).filter fun t => !t.1).map (·.2) = []
  · rw [if_pos c]
    constructor
    · intro z
      cases z
    · rintro ⟨l, hl, e⟩
      have : val rs l ∈ (((nexts rs row).map (val rs)).filter fun t => !t.1) := List.mem_filter.mpr ⟨List.mem_map.mpr ⟨l, hl, rfl⟩, by rw [e]; rfl⟩
      rw [List.map_eq_nil_iff.mp c] at this
      cases this
  · rw [if_neg c]
    refine ⟨fun _ => ?_, fun _ => rfl⟩
    obtain ⟨t, ht⟩ := List.exists_mem_of_ne_nil _ (fun z => c (List.map_eq_nil_iff.mpr z))
    obtain ⟨h1, h2⟩ := List.mem_filter.mp ht
    obtain ⟨l, hl, rfl⟩ := List.mem_map.mp h1
    exact ⟨l, hl, by cases e : (val rs l).1 with
      | false => rfl
      | true => rw [e] at h2; cases h2⟩
/-- the side that wins at a row -/
def winS (rs : List (List Str)) (row : List Str) : Int := if (val rs row).1 = true then (row.length : Int) % 2 else 1 - (row.length : Int) % 2
theorem fold_maxI : ∀ (xs : List Int) (x : Int), (xs.foldl max x ∈ x :: xs) ∧ ∀ y ∈ x :: xs, y ≤ xs.foldl max x
  | [], x => ⟨List.mem_singleton.mpr rfl, fun y hy => by rw [List.mem_singleton.mp hy]; exact Int.le_refl _⟩
  | z :: xs, x => by
    obtain ⟨h1, h2⟩ := fold_maxI xs (max x z)
    rw [List.foldl_cons]
    refine ⟨?_, fun y hy => ?_⟩
    · rcases List.mem_cons.mp h1 with w | w
      · rw [w]
        rcases Int.le_total x z with c | c
        · rw [Int.max_eq_right c]
          exact List.mem_cons_of_mem _ List.mem_cons_self
        · rw [Int.max_eq_left c]
          exact List.mem_cons_self
      · exact List.mem_cons_of_mem _ (List.mem_cons_of_mem _ w)
    · have m := h2 (max x z) List.mem_cons_self
      rcases List.mem_cons.mp hy with rfl | hy
      · exact Int.le_trans (Int.le_max_left _ _) m
      · rcases List.mem_cons.mp hy with rfl | hy
        · exact Int.le_trans (Int.le_max_right _ _) m
        · exact h2 y (List.mem_cons_of_mem _ hy)
theorem fold_minI : ∀ (xs : List Int) (x : Int), (xs.foldl min x ∈ x :: xs) ∧ ∀ y ∈ x :: xs, xs.foldl min x ≤ y
  | [], x => ⟨List.mem_singleton.mpr rfl, fun y hy => by rw [List.mem_singleton.mp hy]; exact Int.le_refl _⟩
  | z :: xs, x => by
    obtain ⟨h1, h2⟩ := fold_minI xs (min x z)
    rw [List.foldl_cons]
    refine ⟨?_, fun y hy => ?_⟩
    · rcases List.mem_cons.mp h1 with w | w
      · rw [w]
        rcases Int.le_total x z with c | c
        · rw [Int.min_eq_left c]
          exact List.mem_cons_self
        · rw [Int.min_eq_right c]
          exact List.mem_cons_of_mem _ List.mem_cons_self
      · exact List.mem_cons_of_mem _ (List.mem_cons_of_mem _ w)
    · have m := h2 (min x z) List.mem_cons_self
      rcases List.mem_cons.mp hy with rfl | hy
      · exact Int.le_trans m (Int.min_le_left _ _)
      · rcases List.mem_cons.mp hy with rfl | hy
        · exact Int.le_trans m (Int.min_le_right _ _)
        · exact h2 y (List.mem_cons_of_mem _ hy)
theorem step_win {told : List (Bool × Int)} (h : (told.filter fun t => !t.1).map (·.2) ≠ []) {m : Int} (hm : m ∈ (told.filter fun t => !t.1).map (·.2)) (hl : ∀ y ∈ (told.filter fun t => !t.1).map (·.2), m ≤ y) : stepV told = (true, 1 + m) := by
  unfold stepV
  rw [if_neg h]
  generalize (told.filter fun t => !t.1).map (·.2) = ws at h hm hl
  cases ws with
  | nil => exact absurd rfl h
  | cons w ws =>
    obtain ⟨h1, h2⟩ := fold_minI (w :: ws) w
    have e : (w :: ws).foldl min ((w :: ws).headD 0) = m := by
      have a := h2 m (List.mem_cons_of_mem _ hm)
      have b : m ≤ (w :: ws).foldl min w := by
        rcases List.mem_cons.mp h1 with z | z
        · rw [z]
          exact hl w List.mem_cons_self
        · exact hl _ z
      show (w :: ws).foldl min w = m
      omega
    rw [e]
theorem step_lose0 {told : List (Bool × Int)} (h : (told.filter fun t => !t.1).map (·.2) = []) (e : told.map (fun t => 1 + t.2) = []) : stepV told = (false, 0) := by
  unfold stepV
  rw [if_pos h, e]
  rfl
theorem step_lose {told : List (Bool × Int)} (h : (told.filter fun t => !t.1).map (·.2) = []) {m : Int} (hm : m ∈ told.map (fun t => 1 + t.2)) (hl : ∀ y ∈ told.map (fun t => 1 + t.2), y ≤ m) (pos : ∀ y ∈ told.map (fun t => 1 + t.2), 0 ≤ y) : stepV told = (false, m) := by
  unfold stepV
  rw [if_pos h]
  obtain ⟨h1, h2⟩ := fold_maxI (told.map (fun t => 1 + t.2)) 0
  have a := h2 m (List.mem_cons_of_mem _ hm)
  have b : (told.map (fun t => 1 + t.2)).foldl max 0 ≤ m := by
    rcases List.mem_cons.mp h1 with z | z
    · rw [z]
      exact pos m hm
    · exact hl _ z
  rw [show (told.map (fun t => 1 + t.2)).foldl max 0 = m by omega]
theorem step_pos {told : List (Bool × Int)} (h : ∀ t ∈ told, 0 ≤ t.2) : 0 ≤ (stepV told).2 := by
  unfold stepV
  by_cases c : (told.filter fun t => !t.1).map (·.2) = []
  · rw [if_pos c]
    exact (fold_maxI _ 0).2 0 List.mem_cons_self
  · rw [if_neg c]
    have : 0 ≤ ((told.filter fun t => !t.1).map (·.2)).foldl min (((told.filter fun t => !t.1).map (·.2)).headD 0) := by
      have all : ∀ y ∈ (told.filter fun t => !t.1).map (·.2), 0 ≤ y := fun y hy => by
        obtain ⟨t, ht, rfl⟩ := List.mem_map.mp hy
        exact h t (List.mem_filter.mp ht).1
      generalize (told.filter fun t => !t.1).map (·.2) = ws at c all
      cases ws with
      | nil => exact absurd rfl c
      | cons w ws =>
        show 0 ≤ (w :: ws).foldl min w
        rcases List.mem_cons.mp (fold_minI (w :: ws) w).1 with z | z
        · rw [z]
          exact all w List.mem_cons_self
        · exact all _ z
    show 0 ≤ 1 + _
    omega
theorem sol_pos (rs : List (List Str)) : ∀ (n : Nat) (row : List Str), 0 ≤ (sol rs n row).2
  | 0, _ => Int.le_refl 0
  | n + 1, row => step_pos fun t ht => by
    obtain ⟨l, _, rfl⟩ := List.mem_map.mp ht
    exact sol_pos rs n l
theorem val_pos (rs : List (List Str)) (row : List Str) : 0 ≤ (val rs row).2 := sol_pos rs _ row
/-- the rows of a game: the empty one first -/
theorem IsG.head {rs : List (List Str)} (g : IsG rs) : ∃ t, rs = [] :: t := by
  cases rs with
  | nil => exact absurd g.nil (List.not_mem_nil)
  | cons r t =>
    rcases List.mem_cons.mp g.nil with e | m
    · exact ⟨t, by rw [e]⟩
    · cases r with
      | nil => exact ⟨t, rfl⟩
      | cons w r => exact absurd ((List.pairwise_cons.mp g.up).1 _ m) (bef_not (nil_bef w r))
end Nm
namespace Nm
open PySem PySem.Spec PyProof.Rows L2 NmD PySem.SeqAt
variable {X : Cx}
/-! ### name = {row: v for row in ..}, the row's name a local as well -/
theorem dc_core {pins : List (Addr × Obj)} {s : Shared} {σ : L2.St} {H : Hp} {Q : VK} {kx vx tg iter : Expr} {scope : Scope} {own : List (PySem.Str × Nat)} {pos pos' : Pos} {wi : TI} {g : TG} {tk tv : TE} {use : Option (Value → Sem Unit)} {Qf : Value → Shared → Prop}
    (hc : X.calm = true) (hN : X.N.Nodup) (hu : X.A.units + 1 < cLine) (I : Inv X pins σ H s) (hi : PI X tg iter wi) (ok : BlkOk X.N X.env.scope scope own)
    (hg : ∀ (s : Shared) (H : Hp) (C : Addr) (cl : List (PySem.Str × Addr)) (fp : List Addr), PG (X.blk s H scope (compEnvC scope cl C X.env) fp) tg g)
    (hk : ∀ (s : Shared) (H : Hp) (C : Addr) (cl : List (PySem.Str × Addr)) (fp : List Addr), PE (X.blk s H scope (compEnvC scope cl C X.env) fp) kx tk)
    (he : ∀ (s : Shared) (H : Hp) (C : Addr) (cl : List (PySem.Str × Addr)) (fp : List Addr), PE (X.blk s H scope (compEnvC scope cl C X.env) fp) vx tv)
    (hs : ∀ x, foldedSetIterable iter X.env x = pure x) (h : tDcT wi g tk tv (own.map (·.2)) σ H Q)
    (hRR : ∀ D C s' m H', Inv X pins σ H' s' → Q (.ref D) H' → s'.heap.Ns C m → FpOk X pins H' C → compPost (model X.prog X.w) X.A X.xe use Qf (.ref D) C (.ok .next) s') :
    wpAny (model X.prog X.w) X.A (comprehension (.DictComp kx vx [⟨tg, iter, [], 0⟩] scope pos) scope X.env pos' newDict false (eval iter X.env) use) Qf X.xe s := by
  have closed : ∀ y ∈ scope.names, y.2 = .free → ∃ c, X.env.cells.lookup y.1 = some c := fun y hy e => (ok.free y hy e).elim (fun k => I.ok.has _ (.inl k)) fun k => I.ok.has _ (.inr k)
  refine wpAny_comprehension_free (use := use) rfl hs (closure_ok closed) ok.kind (fun y hy e => by rw [ok.uniq y hy, e]) (thn (hi.run pins s σ H _ I h) fun xv s1 hx => thn hx fun itv s2 h2 => ?_)
  obtain ⟨it, fp, tn, J, H2, e, I2, T, st2, f2, q⟩ := h2
  subst e
  refine wpAny_newObj_type (newEnv_comp ?_)
  generalize hD : s2.heap.objs.size = D
  have hDn : H2 D = none := I2.hok.fresh (Nat.le_of_eq hD)
  obtain ⟨W, ⟨m0, w0⟩, turn⟩ := q D hDn
  generalize hs3 : ({ s2 with heap := s2.heap.push { cls := .type "dict", data := .dict #[] } } : Shared) = s3
  have h3 : s3.heap = s2.heap.push { cls := .type "dict", data := .dict #[] } := by rw [← hs3]
  generalize hH3 : upd H2 D (.dT []) = H3 at w0
  have I3 : Inv X pins σ H3 s3 := by
    rw [← hs3, ← hH3]
    refine I2.laid (t' := s2.toks) (fun b o e => Heap.get?_push_of_some _ e) (Nat.le_of_eq hD) ?_
    rw [← hD]
    exact dt_empty s2.heap I2.big
  have below : ∀ b ∈ fp, b < s2.heap.objs.size := fun b hb => by
    obtain ⟨o, e, _⟩ := T.obj _ _ st2 b hb
    exact Heap.lt_size e
  have f3 : ∀ b ∈ fp, FpOk X pins H3 b ∧ b < s3.heap.objs.size := fun b hb => by
    have lt := below b hb
    have ne : b ≠ D := by rw [← hD]; exact Nat.ne_of_lt lt
    refine ⟨⟨?_, (f2 b hb).2⟩, by rw [h3, Heap.size_push]; exact Nat.lt_succ_of_lt lt⟩
    rw [← hH3, upd_ne ne]
    exact (f2 b hb).1
  have st3 : tn 0 s3.heap := T.keep _ _ _ st2 fun b _ o e => by rw [h3]; exact Heap.get?_push_of_some _ e
  have I4 := block_start I3 ok hN f3
  generalize hcl : cellsFrom (s3.heap.objs.size + 1) scope.names (cloFrom X.env.cells scope.names []) = cl at I4
  have pg := hg s3 H3 s3.heap.objs.size cl fp
  have pk := hk s3 H3 s3.heap.objs.size cl fp
  have pe := he s3 H3 s3.heap.objs.size cl fp
  have goal : codeAny (model X.prog X.w) X.A (.compStart (.DictComp kx vx [⟨tg, iter, [], 0⟩] scope pos) 0 (.ref it) (.ref D) (compEnvC scope cl s3.heap.objs.size X.env))
      (compPost (model X.prog X.w) X.A X.xe use Qf (.ref D) s3.heap.objs.size) { s3 with heap := pushCells (s3.heap.push { cls := .type "dict", data := .dict #[] }) scope.names } := by
    have free3 : ∀ b ∈ fp, H3 b = none := fun b hb => (f3 b hb).1.1
    generalize hce : compEnvC scope cl s3.heap.objs.size X.env = ce at I4 pg pk pe ⊢
    have locals : ce.locals = s3.heap.objs.size := by subst hce; rfl
    generalize hs4 : ({ s3 with heap := pushCells (s3.heap.push { cls := .type "dict", data := .dict #[] }) scope.names } : Shared) = s4 at I4 ⊢
    have st4 : tn 0 s4.heap := T.keep _ _ _ st3 fun b _ o e => by rw [← hs4]; exact pushCells_keeps _ _ _ _ (Heap.get?_push_of_some _ e)
    have stat : ∀ {σ' : L2.St} {H' : Hp} {s' : Shared}, Inv (X.blk s3 H3 scope ce fp) [] σ' H' s' → (∀ b ∈ fp, H' b = none) → ∀ b ∈ fp, FpOk (X.blk s3 H3 scope ce fp) [] H' b := fun {σ' H' s'} I' hn b hb =>
      ⟨hn b hb, (I'.ok.exf b hb).1, I'.ok.exfs b hb, .inl hb, fun x c e => (I'.ok.exf b hb).2 x c e, fun p hp => absurd (show p ∈ ([] : List (Addr × Obj)) ++ [] from hp) (by simp)⟩
    have loop : codeAny (model X.prog X.w) X.A (.compLoop (.DictComp kx vx [⟨tg, iter, [], 0⟩] scope pos) 0 (.ref it) (.ref D) ce) (compPost (model X.prog X.w) X.A X.xe use Qf (.ref D) s3.heap.objs.size) s4 := by
      refine compLoop_anyD (fun n s' => ∃ i H', Inv (X.blk s3 H3 scope ce fp) [] (wipe σ (own.map (·.2))) H' s' ∧ tn i s'.heap ∧ (∀ b ∈ fp, H' b = none) ∧ W i n H') ?_ m0 ⟨0, H3, I4, st4, free3, w0⟩
      rintro n s5 ⟨i, H5, I5, st5, n5, w5⟩
      rcases turn i n H5 w5 with ⟨stop, qq⟩ | ⟨go, Nx, hNx, step⟩
      · refine thnF (T.done (X.blk s3 H3 scope ce fp) rfl rfl rfl hc i [] s5 _ H5 (fun _ _ => False) I5 (stat I5 n5) st5 stop) fun r s6 ⟨hr, I6⟩ => ?_
        subst hr
        have I7 : Inv X pins σ H5 s6 := I3.call' (ch := fp) I6.os I6.base I6.hok I6.bare fun b hb => by
          have z := (f3 b hb).1
          exact ⟨z.2.2.2.1, z.2.1, z.2.2.2.2.1, z.2.2.2.2.2⟩
        have nC : H5 s3.heap.objs.size = none := by
          rw [← locals]
          exact I6.free
        obtain ⟨m, hn, _⟩ := I6.loc
        have hn' : s6.heap.Ns s3.heap.objs.size m := by
          rw [← locals]
          exact hn
        exact hRR D s3.heap.objs.size s6 m H5 I7 qq hn' (I3.fpOk (Nat.le_refl _) nC)
      · refine thnF (T.item (X.blk s3 H3 scope ce fp) rfl rfl rfl hc i [] s5 _ H5 (fun _ _ => False) I5 (stat I5 n5) st5 go) fun r s6 ⟨u, hr, h6⟩ => ?_
        subst hr
        refine thnF h6 fun _ s7 ⟨x, H7, I7, r7, y7, st7, n7⟩ => ?_
        have I7' := I7.pinned (stat I7 n7) (T.obj _ _ st7)
        refine thnF (pg.run _ s7 _ H7 x u _ I7' r7 (step x H7 y7)) fun _ s8 ⟨σ8, H8, I8, hw8, q8⟩ => ?_
        refine wpAny_pure ?_
        rw [if_pos rfl]
        refine thnF (pk.run _ s8 σ8 H8 _ I8 q8) fun z s10 ⟨yv, H10, I10, r10, q10⟩ => ?_
        refine thnF (pe.run _ s10 σ8 H10 _ I10 q10) fun z2 s11 ⟨zv, H11, I11, r11, ents, k, b, ey, hD11, hb11, room, nx⟩ => ?_
        subst ey
        cases (show z = Value.ref b from r10)
        refine dset_tk (X := X.blk s3 H3 scope ce fp) hu I11 hD11 hb11 room r11 fun s12 I12 => ?_
        obtain ⟨m', hm, w'⟩ := hNx _ nx
        have pin' : ∀ c ∈ fp, ∀ o, s7.heap.get? c = some o → s12.heap.get? c = some o ∧ upd H11 D (.dT (putK ents k zv)) c = none := fun c hc' o e =>
          let z := I12.pin (c, o) (List.mem_append_right _ (List.mem_append_right _ (mem_pinsAt hc' e)))
          ⟨z.1, z.2.1⟩
        have len : (wipe σ (own.map (·.2))).length = σ8.length := by rw [← hw8, wipe_length]
        refine ⟨m', hm, i + 1, _, (I12.unpinned (pins := [])).weak len (fun j v e => ?_), T.keep _ _ _ st7 fun c hc' o e => (pin' c hc' o e).1, fun c hc' => ?_, w'⟩
        · rw [← hw8] at e
          exact (wipe_some e).1
        · obtain ⟨o, e, _⟩ := T.obj _ _ st7 c hc'
          exact (pin' c hc' o e).2
    exact codeAny_compStart_dict loop (T.self X.A 0 _ _ _ st4 loop)
  exact goal
theorem ps_setDcT {i : Nat} {y : PySem.Str} {py : Pos} {kx vx tg iter : Expr} {scope : Scope} {own : List (PySem.Str × Nat)} {pos spos : Pos} {wi : TI} {g : TG} {tk tv : TE} (hc : X.calm = true) (hN : X.N.Nodup) (hu : X.A.units + 1 < cLine) (hy : X.N[i]? = some y) (hyl : X.env.scope.names.lookup y = some .local)
    (hsw : swapsWith (.DictComp kx vx [⟨tg, iter, [], 0⟩] scope pos) (some (.Name y py)) spos.line X.env = pure true) (hi : PI X tg iter wi) (ok : BlkOk X.N X.env.scope scope own)
    (hg : ∀ (s : Shared) (H : Hp) (C : Addr) (cl : List (PySem.Str × Addr)) (fp : List Addr), PG (X.blk s H scope (compEnvC scope cl C X.env) fp) tg g)
    (hk : ∀ (s : Shared) (H : Hp) (C : Addr) (cl : List (PySem.Str × Addr)) (fp : List Addr), PE (X.blk s H scope (compEnvC scope cl C X.env) fp) kx tk)
    (he : ∀ (s : Shared) (H : Hp) (C : Addr) (cl : List (PySem.Str × Addr)) (fp : List Addr), PE (X.blk s H scope (compEnvC scope cl C X.env) fp) vx tv)
    (hs : ∀ x, foldedSetIterable iter X.env x = pure x := by intro _; rfl) :
    PS X (.Assign [.Name y py] (.DictComp kx vx [⟨tg, iter, [], 0⟩] scope pos) spos) (tAsg (tDcT wi g tk tv (own.map (·.2))) (gName i)) := by
  refine ⟨fun pins s σ H D I h => ?_⟩
  rw [exec_Assign_Name_used _ _ _ _ hsw]
  refine wpAny_bind (wpAny_standAt (wpAny_bind ?_))
  show wpAny _ X.A (do let _ ← comprehension (.DictComp kx vx [⟨tg, iter, [], 0⟩] scope pos) scope X.env (firstIterPos [⟨tg, iter, [], 0⟩] pos) newDict false (eval iter X.env) (some (assign (.Name y py) X.env))) _ _ s
  have h : tDcT wi g tk tv (own.map (·.2)) σ H (fun x H1 => gName i x σ H1 D.nx) := h
  refine wpAny_bind (thn (dc_core (Qf := fun _ s' => SP X pins D .next s') hc hN hu I hi ok hg hk he hs h fun L C s' m H' I' q hn f => ?_) fun _ s' hq => wpAny_pure (wpAny_pure hq))
  show wpAny _ _ (assign (.Name y py) X.env (.ref L)) _ _ _
  refine wpAny_assign_Name (store_ok2 (v := V.ref L) I' hN hy (.inl hyl) rfl (fun s2 I2 ⟨a, sb, ha⟩ => ?_) (.inr hyl))
  obtain ⟨f0, f1, f2, f3, f4, f5⟩ := f
  have haC : C ≠ a := by
    rcases ha with z | z
    · rw [z]; exact f1
    · exact fun e => f4 y a z e.symm
  refine ⟨m, hn.sameBut sb haC, fun h3 sb3 => ?_⟩
  exact ⟨_, H', I2.turned (t' := s2.toks) (fun b o hb e => (sb3.2 b hb).trans e) f0 f1 f3 f4 f5, q⟩
theorem swd_true {kx vx : Expr} {gs : List Comprehension} {scope : Scope} {pos py : Pos} {y : PySem.Str} {l : Nat} {env : Env} (hk : env.scope.kind = .function) (hy : env.scope.names.lookup y = some .local) (hl : (py.line == pos.line) = true)
    (ha : (scope.names.any fun (n, k) => n == y && (k == .local || k == .cell)) = false) : swapsWith (.DictComp kx vx gs scope pos) (some (.Name y py)) l env = pure true := by
  have ky : env.kindOf y = some .local := hy
  have hb : env.blockKind = .function := by unfold Env.blockKind; rw [hk]; rfl
  unfold swapsWith
  simp only [hb, ky, ha, Expr.pos, hl]
  rfl
end Nm
namespace Nm
open PySem PySem.Spec PyProof.Rows L2 NmD
/-! ### plans -/
def bestOf (rs : List (List Str)) (r : List Str) : List Str := ((nexts rs r).filter fun l => !(val rs l).1).headD []
/-- the plan under way: rows that wait, rows that are done, rows at which a word is told -/
structure PlS (rs : List (List Str)) (side : Int) (Wt Dn ks : List (List Str)) : Prop where
  nd : (Wt ++ Dn).Nodup
  sub : ∀ r ∈ Wt ++ Dn, r ∈ rs ∧ winS rs r = side
  nil : [] ∈ Wt ++ Dn
  own : ∀ r ∈ Dn, (r.length : Int) % 2 = side → r ∈ ks ∧ bestOf rs r ∈ Wt ++ Dn
  oth : ∀ r ∈ Dn, (r.length : Int) % 2 ≠ side → ∀ l ∈ nexts rs r, l ∈ Wt ++ Dn
  par : ∀ r ∈ Wt ++ Dn, r ≠ [] → r.dropLast ∈ Dn ∧ ((r.dropLast.length : Int) % 2 = side → r = bestOf rs r.dropLast)
  keys : ∀ r ∈ ks, r ∈ Dn ∧ (r.length : Int) % 2 = side
theorem next_ne {rs : List (List Str)} {r l : List Str} (h : l ∈ nexts rs r) : l ≠ [] ∧ l.dropLast = r := by
  obtain ⟨_, w, rfl⟩ := mem_nexts.mp h
  exact ⟨by simp, List.dropLast_concat⟩
theorem PlS.step {rs : List (List Str)} {side : Int} {W0 Dn ks nw ks' : List (List Str)} {r : List Str} (p : PlS rs side (W0 ++ [r]) Dn ks) (n1 : nw.Nodup) (n2 : ∀ l ∈ nw, l ∈ nexts rs r ∧ winS rs l = side)
    (hown : (r.length : Int) % 2 = side → r ∈ ks' ∧ bestOf rs r ∈ nw ∧ ∀ l ∈ nw, l = bestOf rs r) (hoth : (r.length : Int) % 2 ≠ side → ∀ l ∈ nexts rs r, l ∈ nw)
    (hk : ∀ x ∈ ks', x ∈ ks ∨ (x = r ∧ (r.length : Int) % 2 = side)) (hk2 : ∀ x ∈ ks, x ∈ ks') : PlS rs side (W0 ++ nw) (r :: Dn) ks' := by
  have old : ∀ x, x ∈ (W0 ++ [r]) ++ Dn → x ∈ (W0 ++ nw) ++ (r :: Dn) := fun x hx => by
    rcases List.mem_append.mp hx with h | h
    · rcases List.mem_append.mp h with h | h
      · exact List.mem_append_left _ (List.mem_append_left _ h)
      · rw [List.mem_singleton.mp h]
        exact List.mem_append_right _ List.mem_cons_self
    · exact List.mem_append_right _ (List.mem_cons_of_mem _ h)
  have new : ∀ x, x ∈ (W0 ++ nw) ++ (r :: Dn) → x ∈ nw ∨ x ∈ (W0 ++ [r]) ++ Dn := fun x hx => by
    rcases List.mem_append.mp hx with h | h
    · rcases List.mem_append.mp h with h | h
      · exact .inr (List.mem_append_left _ (List.mem_append_left _ h))
      · exact .inl h
    · rcases List.mem_cons.mp h with rfl | h
      · exact .inr (List.mem_append_left _ (List.mem_append_right _ List.mem_cons_self))
      · exact .inr (List.mem_append_right _ h)
  obtain ⟨ndW, ndD, dis⟩ := List.nodup_append.mp p.nd
  obtain ⟨ndW0, _, disr⟩ := List.nodup_append.mp ndW
  have rW : r ∈ W0 ++ [r] := List.mem_append_right _ List.mem_cons_self
  have rD : r ∉ Dn := fun h => dis r rW r h rfl
  have fresh : ∀ l ∈ nw, l ∉ (W0 ++ [r]) ++ Dn := fun l hl hm => by
    obtain ⟨ne, dl⟩ := next_ne (n2 l hl).1
    have := (p.par l hm ne).1
    rw [dl] at this
    exact rD this
  have nwm : ∀ l ∈ nw, l ∈ (W0 ++ nw) ++ (r :: Dn) := fun l hl => List.mem_append_left _ (List.mem_append_right _ hl)
  refine ⟨?_, fun x hx => ?_, old _ p.nil, fun x hx hm => ?_, fun x hx hm l hl => ?_, fun x hx ne => ?_, fun x hx => ?_⟩
  · refine List.nodup_append.mpr ⟨List.nodup_append.mpr ⟨ndW0, n1, fun a ha b hb e => ?_⟩, List.nodup_cons.mpr ⟨rD, ndD⟩, fun a ha b hb e => ?_⟩
    · exact fresh b hb (e ▸ List.mem_append_left _ (List.mem_append_left _ ha))
    · subst e
      rcases List.mem_append.mp ha with h | h
      · rcases List.mem_cons.mp hb with z | z
        · exact disr a h r List.mem_cons_self z
        · exact dis a (List.mem_append_left _ h) a z rfl
      · refine fresh a h ?_
        rcases List.mem_cons.mp hb with z | z
        · rw [z]
          exact List.mem_append_left _ rW
        · exact List.mem_append_right _ z
  · rcases new x hx with h | h
    · exact ⟨(mem_nexts.mp (n2 x h).1).1, (n2 x h).2⟩
    · exact p.sub x h
  · rcases List.mem_cons.mp hx with rfl | hx
    · exact ⟨(hown hm).1, nwm _ (hown hm).2.1⟩
    · obtain ⟨a, b⟩ := p.own x hx hm
      exact ⟨hk2 _ a, old _ b⟩
  · rcases List.mem_cons.mp hx with rfl | hx
    · exact nwm _ (hoth hm l hl)
    · exact old _ (p.oth x hx hm l hl)
  · rcases new x hx with h | h
    · obtain ⟨_, dl⟩ := next_ne (n2 x h).1
      rw [dl]
      exact ⟨List.mem_cons_self, fun hm => (hown hm).2.2 x h⟩
    · obtain ⟨a, b⟩ := p.par x h ne
      exact ⟨List.mem_cons_of_mem _ a, b⟩
  · rcases hk x hx with h | ⟨rfl, h⟩
    · obtain ⟨a, b⟩ := p.keys x h
      exact ⟨List.mem_cons_of_mem _ a, b⟩
    · exact ⟨List.mem_cons_self, h⟩
theorem mod2 (n : Nat) : ((n : Int) % 2 = 0 ∨ (n : Int) % 2 = 1) ∧ ((n + 1 : Nat) : Int) % 2 = 1 - (n : Int) % 2 := by omega
/-- the one who moves wins: the best word leads to where this one wins again -/
theorem best_ok {rs : List (List Str)} {side : Int} {r : List Str} (l60 : r.length ≤ 60) (hw : winS rs r = side) (hm : (r.length : Int) % 2 = side) : bestOf rs r ∈ nexts rs r ∧ (val rs (bestOf rs r)).1 = false ∧ winS rs (bestOf rs r) = side ∧ ((nexts rs r).filter fun l => !(val rs l).1)[0]? = some (bestOf rs r) := by
  have hv : (val rs r).1 = true := by
    cases e : (val rs r).1 with
    | true => rfl
    | false =>
      unfold winS at hw
      rw [e, if_neg Bool.false_ne_true] at hw
      have := (mod2 r.length).1
      omega
  obtain ⟨l, hl, lv⟩ := (val_win l60).mp hv
  have m : l ∈ (nexts rs r).filter fun l => !(val rs l).1 := List.mem_filter.mpr ⟨hl, by rw [lv]; rfl⟩
  unfold bestOf
  generalize e : (nexts rs r).filter (fun l => !(val rs l).1) = fs at m
  cases fs with
  | nil => cases m
  | cons b fs =>
    have mb : b ∈ (nexts rs r).filter fun l => !(val rs l).1 := by rw [e]; exact List.mem_cons_self
    obtain ⟨h1, h2⟩ := List.mem_filter.mp mb
    have vb : (val rs b).1 = false := by
      cases z : (val rs b).1 with
      | false => rfl
      | true => rw [z] at h2; cases h2
    refine ⟨h1, vb, ?_, rfl⟩
    show winS rs b = side
    unfold winS
    rw [vb, if_neg Bool.false_ne_true, nexts_len h1]
    have := (mod2 r.length).2
    omega
theorem oth_ok {rs : List (List Str)} {side : Int} {r : List Str} (l60 : r.length ≤ 60) (h01 : side = 0 ∨ side = 1) (hw : winS rs r = side) (hm : (r.length : Int) % 2 ≠ side) : ∀ l ∈ nexts rs r, winS rs l = side := fun l hl => by
  have hv : (val rs r).1 = false := by
    cases e : (val rs r).1 with
    | false => rfl
    | true =>
      unfold winS at hw
      rw [e, if_pos rfl] at hw
      exact absurd hw hm
  have lv : (val rs l).1 = true := by
    cases e : (val rs l).1 with
    | true => rfl
    | false =>
      have := (val_win l60).mpr ⟨l, hl, e⟩
      rw [hv] at this
      cases this
  unfold winS
  rw [lv, if_pos rfl, nexts_len hl]
  have a := (mod2 r.length).1
  have b := (mod2 r.length).2
  omega
theorem nexts_nd {rs : List (List Str)} (up : rs.Pairwise bef) (r : List Str) : (nexts rs r).Nodup := List.Pairwise.filter _ (bef_nodup up)
theorem PlS.len {rs : List (List Str)} {side : Int} {Wt Dn ks : List (List Str)} (p : PlS rs side Wt Dn ks) : Wt.length + Dn.length ≤ rs.length := by
  have := List.Nodup.length_le_of_subset p.nd fun x hx => (p.sub x hx).1
  rw [List.length_append] at this
  exact this
/-! ### words struck -/
/-- what is left of a game: the rows that begin with no struck one -/
def struckOf (rs gone : List (List Str)) : List (List Str) := rs.filter fun r => !(gone.map fun g => decide (r.take g.length = g)).any id
theorem mem_struck {rs gone : List (List Str)} {r : List Str} : r ∈ struckOf rs gone ↔ r ∈ rs ∧ ∀ g ∈ gone, ¬ g <+: r := by
  unfold struckOf
  rw [List.mem_filter, List.any_map]
  constructor
  · rintro ⟨h1, h2⟩
    refine ⟨h1, fun g hg hp => ?_⟩
    have : (gone.any (id ∘ fun g => decide (r.take g.length = g))) = true := List.any_eq_true.mpr ⟨g, hg, decide_eq_true (List.prefix_iff_eq_take.mp hp).symm⟩
    rw [this] at h2
    cases h2
  · rintro ⟨h1, h2⟩
    refine ⟨h1, ?_⟩
    cases e : gone.any (id ∘ fun g => decide (r.take g.length = g)) with
    | false => rfl
    | true =>
      obtain ⟨g, hg, z⟩ := List.any_eq_true.mp e
      exact absurd (List.prefix_iff_eq_take.mpr (of_decide_eq_true z).symm) (h2 g hg)
theorem isG_struck {rs gone : List (List Str)} (G : IsG rs) (ne : ∀ g ∈ gone, g ≠ []) : IsG (struckOf rs gone) :=
  ⟨List.Pairwise.filter _ G.up, mem_struck.mpr ⟨G.nil, fun g hg hp => ne g hg (List.prefix_nil.mp hp)⟩, fun r hr => by
    obtain ⟨h1, h2⟩ := mem_struck.mp hr
    exact mem_struck.mpr ⟨G.pre r h1, fun g hg hp => h2 g hg (hp.trans (List.dropLast_prefix r))⟩, fun r hr => G.ok r (mem_struck.mp hr).1, Nat.le_trans (List.length_filter_le _ _) G.few⟩
/-- striking words of side x never lets x win where it did not -/
theorem struck_win {rs gone : List (List Str)} {x : Int} (G : IsG rs) (h01 : x = 0 ∨ x = 1) (side : ∀ g ∈ gone, g ∈ rs ∧ g ≠ [] ∧ ((g.dropLast.length : Int) % 2) = x) : ∀ (n : Nat) (r : List Str), 61 - r.length = n → r ∈ struckOf rs gone → winS (struckOf rs gone) r = x → winS rs r = x
  | 0, r, hn, hr, _ => by
    have := (G.ok r (mem_struck.mp hr).1).1
    omega
  | n + 1, r, hn, hr, hw => by
    obtain ⟨mr, free⟩ := mem_struck.mp hr
    have l60 := (G.ok r mr).1
    have m01 := (mod2 r.length).1
    have up : ∀ l ∈ nexts (struckOf rs gone) r, l ∈ nexts rs r := fun l hl => by
      obtain ⟨a, b⟩ := mem_nexts.mp hl
      exact mem_nexts.mpr ⟨(mem_struck.mp a).1, b⟩
    have ih : ∀ l ∈ nexts (struckOf rs gone) r, winS (struckOf rs gone) l = x → winS rs l = x := fun l hl => struck_win G h01 side n l (by rw [nexts_len hl]; omega) (mem_nexts.mp hl).1
    have lm := (mod2 r.length).2
    by_cases hm : (r.length : Int) % 2 = x
    · -- x moves
      obtain ⟨b1, b2, b3, _⟩ := best_ok l60 hw hm
      have w := ih _ b1 b3
      have lv : (val rs (bestOf (struckOf rs gone) r)).1 = false := by
        cases e : (val rs (bestOf (struckOf rs gone) r)).1 with
        | false => rfl
        | true =>
          unfold winS at w
          rw [e, if_pos rfl, nexts_len b1] at w
          omega
      have v : (val rs r).1 = true := (val_win l60).mpr ⟨_, up _ b1, lv⟩
      unfold winS
      rw [v, if_pos rfl]
      exact hm
    · -- the other one moves
      have all := oth_ok l60 h01 hw hm
      have v : (val rs r).1 = false := by
        cases e : (val rs r).1 with
        | false => rfl
        | true =>
          obtain ⟨l, hl, lv⟩ := (val_win l60).mp e
          have hl' : l ∈ nexts (struckOf rs gone) r := by
            obtain ⟨a, w, rfl⟩ := mem_nexts.mp hl
            refine mem_nexts.mpr ⟨mem_struck.mpr ⟨a, fun g hg hp => ?_⟩, w, rfl⟩
            rcases List.prefix_concat_iff.mp hp with z | z
            · have := (side g hg).2.2
              rw [z, List.dropLast_concat] at this
              exact hm this
            · exact free g hg z
          have w := ih l hl' (all l hl')
          unfold winS at w
          rw [lv, if_neg Bool.false_ne_true, nexts_len hl] at w
          omega
      unfold winS
      rw [v, if_neg Bool.false_ne_true]
      omega
/-- words that a plan does not need may be struck -/
theorem plan_keeps {rs gone Dn ks : List (List Str)} {side : Int} (G : IsG rs) (h01 : side = 0 ∨ side = 1) (p : PlS rs side [] Dn ks)
    (free : ∀ g ∈ gone, g ∈ rs ∧ g ≠ [] ∧ ((g.dropLast.length : Int) % 2) = side ∧ ∀ k ∈ ks, g ≠ bestOf rs k) : winS (struckOf rs gone) [] = side := by
  -- every row that comes is left
  have stay : ∀ (m : Nat) (r : List Str), r.length = m → r ∈ Dn → r ∈ struckOf rs gone := by
    intro m
    induction m with
    | zero =>
      intro r hl hr
      rw [List.eq_nil_of_length_eq_zero hl]
      exact mem_struck.mpr ⟨G.nil, fun g hg hp => (free g hg).2.1 (List.prefix_nil.mp hp)⟩
    | succ m ih =>
      intro r hl hr
      have ne : r ≠ [] := fun e => by rw [e] at hl; cases hl
      obtain ⟨a, b⟩ := p.par r (by simpa using hr) ne
      have st := ih r.dropLast (by rw [List.length_dropLast]; omega) a
      refine mem_struck.mpr ⟨(p.sub r (by simpa using hr)).1, fun g hg hp => ?_⟩
      rw [← List.dropLast_concat_getLast ne] at hp
      rcases List.prefix_concat_iff.mp hp with z | z
      · rw [List.dropLast_concat_getLast ne] at z
        subst z
        obtain ⟨_, _, h3, h4⟩ := free g hg
        obtain ⟨k1, _⟩ := p.own _ a h3
        exact h4 _ k1 (b h3)
      · exact (mem_struck.mp st).2 g hg z
  have main : ∀ (n : Nat) (r : List Str), 61 - r.length = n → r ∈ Dn → winS (struckOf rs gone) r = side := by
    intro n
    induction n with
    | zero =>
      intro r hn hr
      have := (G.ok r (p.sub r (by simpa using hr)).1).1
      omega
    | succ n ih =>
      intro r hn hr
      have mr := (p.sub r (by simpa using hr)).1
      have l60 := (G.ok r mr).1
      have lm := (mod2 r.length).2
      have m01 := (mod2 r.length).1
      by_cases hm : (r.length : Int) % 2 = side
      · obtain ⟨k1, k2⟩ := p.own r hr hm
        have k2' : bestOf rs r ∈ Dn := by simpa using k2
        obtain ⟨b1, _, _, _⟩ := best_ok l60 (p.sub r (by simpa using hr)).2 hm
        have w := ih _ (by rw [nexts_len b1]; omega) k2'
        have lv : (val (struckOf rs gone) (bestOf rs r)).1 = false := by
          cases e : (val (struckOf rs gone) (bestOf rs r)).1 with
          | false => rfl
          | true =>
            unfold winS at w
            rw [e, if_pos rfl, nexts_len b1] at w
            omega
        have v : (val (struckOf rs gone) r).1 = true := (val_win l60).mpr ⟨_, mem_nexts.mpr ⟨stay _ _ rfl k2', (mem_nexts.mp b1).2⟩, lv⟩
        unfold winS
        rw [v, if_pos rfl]
        exact hm
      · have v : (val (struckOf rs gone) r).1 = false := by
          cases e : (val (struckOf rs gone) r).1 with
          | false => rfl
          | true =>
            obtain ⟨l, hl, lv⟩ := (val_win l60).mp e
            obtain ⟨a, b⟩ := mem_nexts.mp hl
            have ml : l ∈ Dn := by simpa using p.oth r hr hm l (mem_nexts.mpr ⟨(mem_struck.mp a).1, b⟩)
            have w := ih l (by rw [nexts_len hl]; omega) ml
            unfold winS at w
            rw [lv, if_neg Bool.false_ne_true, nexts_len hl] at w
            omega
        unfold winS
        rw [v, if_neg Bool.false_ne_true]
        omega
  exact main _ [] rfl (by simpa using p.nil)
/-- a word more behind which nothing is let wins for the one who plays it -/
theorem end_wins {rs ms : List (List Str)} {row : List Str} {w : Str} (l60 : row.length ≤ 59) (m : row ++ [w] ∈ ms) (leaf : ∀ z, (row ++ [w]) ++ [z] ∉ ms) : winS ms row = (row.length : Int) % 2 := by
  have lv : (val ms (row ++ [w])).1 = false := by
    cases e : (val ms (row ++ [w])).1 with
    | false => rfl
    | true =>
      obtain ⟨l, hl, _⟩ := (val_win (by rw [List.length_append, List.length_singleton]; omega)).mp e
      obtain ⟨a, z, rfl⟩ := mem_nexts.mp hl
      exact absurd a (leaf z)
  have v : (val ms row).1 = true := (val_win (by omega)).mpr ⟨_, mem_nexts.mpr ⟨m, w, rfl⟩, lv⟩
  unfold winS
  rw [v, if_pos rfl]
end Nm
namespace Nm
open PySem PySem.Spec PyProof.Rows L2 NmD
/-! ### games in which every line has so many words; games before which a word is put; what is left behind a row -/
theorem val_none {rs : List (List Str)} {row : List Str} (h : row.length ≤ 60) (e : nexts rs row = []) : val rs row = (false, 0) := by
  rw [val_eq rs h, e]
  rfl
/-- the same is told of every row behind -/
theorem val_same {rs : List (List Str)} {row : List Str} {b : Bool} {m : Int} (h : row.length ≤ 60) (ne : nexts rs row ≠ []) (m0 : 0 ≤ m) (all : ∀ l ∈ nexts rs row, val rs l = (b, m)) : val rs row = (!b, 1 + m) := by
  rw [val_eq rs h]
  have e : (nexts rs row).map (val rs) = List.replicate (nexts rs row).length (b, m) := by
    rw [← List.map_const']
    exact List.map_congr_left all
  rw [e]
  have pos : (nexts rs row).length ≠ 0 := fun z => ne (List.eq_nil_of_length_eq_zero z)
  generalize (nexts rs row).length = n at pos
  have mem : (b, m) ∈ List.replicate n (b, m) := List.mem_replicate.mpr ⟨pos, rfl⟩
  cases b with
  | false =>
    have f : ((List.replicate n (false, m)).filter fun t => !t.1).map (·.2) = List.replicate n m := by
      rw [List.filter_eq_self.mpr fun t ht => by rw [List.eq_of_mem_replicate ht]; rfl, List.map_replicate]
    refine (step_win (m := m) ?_ ?_ ?_)
    · rw [f]
      intro z
      exact pos (by have := congrArg List.length z; simpa using this)
    · rw [f]
      exact List.mem_replicate.mpr ⟨pos, rfl⟩
    · rw [f]
      intro y hy
      rw [List.eq_of_mem_replicate hy]
      exact Int.le_refl _
  | true =>
    have f : ((List.replicate n (true, m)).filter fun t => !t.1).map (·.2) = [] := by
      rw [List.filter_eq_nil_iff.mpr fun t ht => by rw [List.eq_of_mem_replicate ht]; exact fun z => Bool.noConfusion z]
      rfl
    have g : (List.replicate n (true, m)).map (fun t => 1 + t.2) = List.replicate n (1 + m) := by rw [List.map_replicate]
    refine step_lose f (m := 1 + m) ?_ ?_ ?_
    · rw [g]
      exact List.mem_replicate.mpr ⟨pos, rfl⟩
    · rw [g]
      intro y hy
      rw [List.eq_of_mem_replicate hy]
      exact Int.le_refl _
    · rw [g]
      intro y hy
      rw [List.eq_of_mem_replicate hy]
      omega
/-- every line of the game has d words -/
structure UnG (rs : List (List Str)) (d : Nat) : Prop where
  len : ∀ r ∈ rs, r.length ≤ d
  more : ∀ r ∈ rs, r.length < d → ∃ w, r ++ [w] ∈ rs
theorem un_val {rs : List (List Str)} {d : Nat} (u : UnG rs d) (d60 : d ≤ 60) : ∀ (n : Nat) (r : List Str), r ∈ rs → d - r.length = n → val rs r = (decide (n % 2 = 1), (n : Int))
  | 0, r, hr, hn => by
    have l := u.len r hr
    refine val_none (by omega) ?_
    cases e : nexts rs r with
    | nil => rfl
    | cons x _ =>
      have m : x ∈ nexts rs r := by rw [e]; exact List.mem_cons_self
      have := u.len x (mem_nexts.mp m).1
      rw [nexts_len m] at this
      omega
  | n + 1, r, hr, hn => by
    have l := u.len r hr
    obtain ⟨w, hw⟩ := u.more r hr (by omega)
    have ne : nexts rs r ≠ [] := fun e => by
      have m : r ++ [w] ∈ nexts rs r := mem_nexts.mpr ⟨hw, w, rfl⟩
      rw [e] at m
      cases m
    have v := val_same (b := decide (n % 2 = 1)) (m := (n : Int)) (by omega) ne (by omega) fun x hx => un_val u d60 n x (mem_nexts.mp hx).1 (by rw [nexts_len hx]; omega)
    rw [v]
    have e1 : (!decide (n % 2 = 1)) = decide ((n + 1) % 2 = 1) := by
      by_cases c : n % 2 = 1
      · rw [decide_eq_true c, decide_eq_false (by omega)]
        rfl
      · rw [decide_eq_false c, decide_eq_true (by omega)]
        rfl
    rw [e1]
    congr 1
    omega
theorem un_win {rs : List (List Str)} {d : Nat} (u : UnG rs d) (d60 : d ≤ 60) (nil : [] ∈ rs) : winS rs [] = 1 - (d : Int) % 2 ∧ (val rs []).2 = (d : Int) := by
  have v := un_val u d60 d [] nil rfl
  unfold winS
  rw [v]
  refine ⟨?_, rfl⟩
  by_cases c : d % 2 = 1
  · rw [decide_eq_true c, if_pos rfl]
    show (0 : Int) % 2 = _
    omega
  · rw [decide_eq_false c, if_neg Bool.false_ne_true]
    show 1 - (0 : Int) % 2 = _
    omega
/-- what is told behind a row is what is told there -/
theorem nexts_behind {rs : List (List Str)} (row more : List Str) : (nexts (behindOf rs row) more).map (fun l => row ++ l) = nexts rs (row ++ more) := by
  unfold behindOf nexts
  rw [List.filter_map, List.map_map, List.filter_filter]
  refine Eq.trans (b := (rs.filter (isNext (row ++ more))).map id) ?_ (List.map_id _)
  have e : rs.filter (fun a => ((isNext more ∘ List.drop row.length) a && decide (a.take row.length = row))) = rs.filter (isNext (row ++ more)) := List.filter_congr fun l hl => by
    show (isNext more (l.drop row.length) && decide (l.take row.length = row)) = isNext (row ++ more) l
    rw [Bool.eq_iff_iff, Bool.and_eq_true, isNext_iff, isNext_iff, decide_eq_true_eq]
    constructor
    · rintro ⟨⟨w, h1⟩, h2⟩
      refine ⟨w, ?_⟩
      rw [← List.take_append_drop row.length l, h1, h2, List.append_assoc]
    · rintro ⟨w, rfl⟩
      rw [List.append_assoc]
      exact ⟨⟨w, List.drop_left ..⟩, List.take_left ..⟩
  rw [e]
  refine List.map_congr_left fun l hl => ?_
  obtain ⟨w, rfl⟩ := isNext_iff.mp (List.mem_filter.mp hl).2
  show row ++ ((row ++ more ++ [w]).drop row.length) = row ++ more ++ [w]
  rw [List.append_assoc, List.drop_left]
theorem val_behind {rs : List (List Str)} (row : List Str) : ∀ (n : Nat) (more : List Str), 61 - (row ++ more).length = n → (row ++ more).length ≤ 60 → (∀ r ∈ rs, r.length ≤ 60) → val (behindOf rs row) more = val rs (row ++ more)
  | 0, more, hn, hl, _ => by omega
  | n + 1, more, hn, hl, ok => by
    have hl' := hl
    rw [List.length_append] at hl'
    rw [val_eq _ hl, val_eq (behindOf rs row) (by omega), ← nexts_behind row more, List.map_map]
    congr 1
    refine List.map_congr_left fun l hx => ?_
    have ll := nexts_len hx
    have mm : row ++ l ∈ rs := mem_behind.mp (mem_nexts.mp hx).1
    have lm := ok _ mm
    refine val_behind row n l ?_ lm ok
    rw [List.length_append, ll]
    rw [List.length_append] at hn
    omega
theorem win_behind {rs : List (List Str)} (G : IsG rs) {row more : List Str} (m : row ++ more ∈ rs) : winS (behindOf rs row) more = (winS rs (row ++ more) + (row.length : Int)) % 2 ∧ (val (behindOf rs row) more).2 = (val rs (row ++ more)).2 := by
  have v := val_behind row _ more rfl (G.ok _ m).1 fun r hr => (G.ok r hr).1
  unfold winS
  rw [v, List.length_append]
  refine ⟨?_, rfl⟩
  cases (val rs (row ++ more)).1 with
  | true =>
    rw [if_pos rfl, if_pos rfl]
    omega
  | false =>
    rw [if_neg Bool.false_ne_true, if_neg Bool.false_ne_true]
    omega
theorem good_behind {rs : List (List Str)} (G : IsG rs) {row more : List Str} (m : row ++ more ∈ rs) : ((nexts (behindOf rs row) more).filter fun l => !(val (behindOf rs row) l).1).map lastW = ((nexts rs (row ++ more)).filter fun l => !(val rs l).1).map lastW := by
  rw [← nexts_behind row more, List.filter_map, List.map_map]
  have e : (nexts (behindOf rs row) more).filter ((fun l => !(val rs l).1) ∘ fun l => row ++ l) = (nexts (behindOf rs row) more).filter fun l => !(val (behindOf rs row) l).1 := List.filter_congr fun l hl => by
    have mm : row ++ l ∈ rs := mem_behind.mp (mem_nexts.mp hl).1
    show (!(val rs (row ++ l)).1) = _
    rw [val_behind row _ l rfl (G.ok _ mm).1 fun r hr => (G.ok r hr).1]
  rw [e]
  refine List.map_congr_left fun l hl => ?_
  obtain ⟨_, w, rfl⟩ := mem_nexts.mp (List.mem_filter.mp hl).1
  show lastW (more ++ [w]) = lastW (row ++ (more ++ [w]))
  rw [← List.append_assoc, lastW_snoc, lastW_snoc]
/-- a word put before all rows -/
theorem nexts_put (w : Str) (rs : List (List Str)) (r : List Str) : nexts ([] :: rs.map fun q => w :: q) (w :: r) = (nexts rs r).map fun q => w :: q := by
  unfold nexts
  rw [List.filter_cons_of_neg (by unfold isNext; rw [decide_eq_false (by show ¬ (0 = (w :: r).length + 1); omega), Bool.false_and]; exact Bool.false_ne_true), List.filter_map]
  congr 1
  refine List.filter_congr fun q _ => ?_
  show isNext (w :: r) (w :: q) = isNext r q
  rw [Bool.eq_iff_iff, isNext_iff, isNext_iff]
  constructor
  · rintro ⟨z, e⟩
    exact ⟨z, (List.cons.inj e).2⟩
  · rintro ⟨z, rfl⟩
    exact ⟨z, rfl⟩
theorem val_put {w : Str} {rs : List (List Str)} (short : ∀ r ∈ rs, r.length < 60) : ∀ (n : Nat) (r : List Str), 61 - r.length = n → r ∈ rs → val ([] :: rs.map fun q => w :: q) (w :: r) = val rs r
  | 0, r, hn, hr => by
    have := short r hr
    omega
  | n + 1, r, hn, hr => by
    have l := short r hr
    rw [val_eq _ (show (w :: r).length ≤ 60 by rw [List.length_cons]; omega), val_eq rs (by omega), nexts_put, List.map_map]
    congr 1
    refine List.map_congr_left fun q hq => ?_
    exact val_put short n q (by rw [nexts_len hq]; omega) (mem_nexts.mp hq).1
end Nm
namespace Nm
open PySem PySem.Spec PyProof.Rows L2 NmD
theorem shaped_rwL {r : List Str} (h : ∀ z ∈ r, wordOk z) : SeqAt.shaped (.list (rowL r)) = true := by
  unfold SeqAt.shaped
  rw [PyData.canLay0, lay_rowL r fun z hz => lay_word (h z hz), PyData.depth, depth_rowL]
  rfl
theorem eqv_rwL (a b : List Str) : PyData.eqv (.list (rowL a)) (.list (rowL b)) = decide (a = b) := by rw [PyData.eqv, eqv_rowL]
theorem dp_strL {K : PySem.W.Frag} {H : Hp} {a : Addr} {ws : List Str} (h : H a = some (.lst (ws.map V.str))) : Dp K H (.ref a) (.list (rowL ws)) := .lst (SqL.of h) (dpAll_row ws)
/-- rows that go together: no more than those of a game and the beginnings of the others -/
theorem begs_more {og qs gs : List (List Str)} (G : IsG og) (b : Begs (og ++ qs) gs) : gs.length ≤ og.length + (qs.map fun r => r.length + 1).sum := by
  have s := List.Nodup.length_le_of_subset (l₂ := og ++ qs.flatMap fun r => (List.range (r.length + 1)).map r.take) (bef_nodup b.up) (fun x hx => by
    rcases (b.mem x).mp hx with rfl | ⟨r, hr, p⟩
    · exact List.mem_append_left _ G.nil
    · rcases List.mem_append.mp hr with m | m
      · exact List.mem_append_left _ (G.pfx m p)
      · refine List.mem_append_right _ (List.mem_flatMap.mpr ⟨r, m, List.mem_map.mpr ⟨x.length, List.mem_range.mpr ?_, (List.prefix_iff_eq_take.mp p).symm⟩⟩)
        have := p.length_le
        omega)
  have e : (qs.flatMap fun r => (List.range (r.length + 1)).map r.take).length = (qs.map fun r => r.length + 1).sum := by
    rw [List.length_flatMap]
    congr 1
    refine List.map_congr_left fun r _ => ?_
    rw [List.length_map, List.length_range]
  rw [List.length_append, e] at s
  exact s
theorem sum_le {β : Type} (f : β → Nat) (c : Nat) : ∀ l : List β, (∀ x ∈ l, f x ≤ c) → (l.map f).sum ≤ c * l.length
  | [], _ => by simp
  | x :: l, h => by
    have h1 := h x List.mem_cons_self
    have h2 := sum_le f c l fun y hy => h y (List.mem_cons_of_mem _ hy)
    rw [List.map_cons, List.sum_cons, List.length_cons, Nat.mul_succ]
    omega
/-- the beginnings of a row that are not yet there -/
def newPre (ds : List (List Str)) (row : List Str) : List (List Str) := ((List.range (row.length + 1)).filter fun k => decide (row.take k ∉ ds)).map row.take
theorem mem_newPre {ds : List (List Str)} {row x : List Str} : x ∈ newPre ds row ↔ x <+: row ∧ x ∉ ds := by
  unfold newPre
  rw [List.mem_map]
  constructor
  · rintro ⟨k, hk, rfl⟩
    exact ⟨List.take_prefix _ _, of_decide_eq_true (List.mem_filter.mp hk).2⟩
  · rintro ⟨p, n⟩
    have e := (List.prefix_iff_eq_take.mp p).symm
    refine ⟨x.length, List.mem_filter.mpr ⟨List.mem_range.mpr ?_, decide_eq_true (by rw [e]; exact n)⟩, e⟩
    have := p.length_le
    omega
theorem newPre_nd (ds : List (List Str)) (row : List Str) : (newPre ds row).Nodup := by
  unfold newPre
  rw [List.Nodup, List.pairwise_map]
  refine List.Pairwise.imp_of_mem ?_ (List.Pairwise.filter _ (List.nodup_range (n := row.length + 1)))
  intro a b ha hb n e
  have la := List.mem_range.mp (List.mem_filter.mp ha).1
  have lb := List.mem_range.mp (List.mem_filter.mp hb).1
  have := congrArg List.length e
  rw [List.length_take, List.length_take] at this
  omega
end Nm
namespace Nm
open PySem PySem.Spec PyProof.Rows L2 NmD
/-! ### a thing of any kind: what stands at a value, whatever it is -/
mutual
inductive At (tp : Addr) (H : Hp) : V → PyData → Prop
  | non : At tp H .non .none
  | bl (b : Bool) : At tp H (.bl b) (.bool b)
  | int (i : Int) : At tp H (.int i) (.int i)
  | str (z : Str) (l : z.length ≤ 1000) : At tp H (.str z) (.str z)
  | tup {a : Addr} {xs : List V} {ds : List PyData} : H a = some (.tup xs) → AtAll tp H xs ds → At tp H (.ref a) (.tuple ds)
  | lst {a : Addr} {xs : List V} {ds : List PyData} : a ≠ tp → H a = some (.lst xs) → AtAll tp H xs ds → At tp H (.ref a) (.list ds)
  | dct {a : Addr} {kvs : List (Key × V)} : H a = some (.dK kvs) → At tp H (.ref a) (.dict [])
inductive AtAll (tp : Addr) (H : Hp) : List V → List PyData → Prop
  | nil : AtAll tp H [] []
  | cons {v : V} {vs : List V} {d : PyData} {ds : List PyData} : At tp H v d → AtAll tp H vs ds → AtAll tp H (v :: vs) (d :: ds)
end
mutual
theorem At.same {tp : Addr} {H H' : Hp} (g : Same H H') : ∀ (d : PyData) (v : V), At tp H v d → At tp H' v d
  | .none, _, h => by
    cases h
    exact .non
  | .bool b, _, h => by
    cases h
    exact .bl b
  | .int i, _, h => by
    cases h
    exact .int i
  | .str z, _, h => by
    cases h with
    | str _ l => exact .str z l
  | .tuple ds, _, h => by
    cases h with
    | tup h1 h2 => exact .tup (g _ _ h1) (AtAll.same g ds _ h2)
  | .list ds, _, h => by
    cases h with
    | lst n h1 h2 => exact .lst n (g _ _ h1) (AtAll.same g ds _ h2)
  | .dict ks, _, h => by
    cases h with
    | dct h1 => exact .dct (g _ _ h1)
theorem AtAll.same {tp : Addr} {H H' : Hp} (g : Same H H') : ∀ (ds : List PyData) (vs : List V), AtAll tp H vs ds → AtAll tp H' vs ds
  | [], _, h => by
    cases h
    exact .nil
  | d :: ds, _, h => by
    cases h with
    | cons h1 h2 => exact .cons (At.same g d _ h1) (AtAll.same g ds _ h2)
end
mutual
theorem At.mov {tp : Addr} {H H' : Hp} (g : Mov tp H H') (ok : ∀ xs, H tp ≠ some (.tup xs)) (ok2 : ∀ ks, H tp ≠ some (.dK ks)) : ∀ (d : PyData) (v : V), At tp H v d → At tp H' v d
  | .none, _, h => by
    cases h
    exact .non
  | .bool b, _, h => by
    cases h
    exact .bl b
  | .int i, _, h => by
    cases h
    exact .int i
  | .str z, _, h => by
    cases h with
    | str _ l => exact .str z l
  | .tuple ds, _, h => by
    cases h with
    | tup h1 h2 => exact .tup (g _ _ h1 fun e => ok _ (e ▸ h1)) (AtAll.mov g ok ok2 ds _ h2)
  | .list ds, _, h => by
    cases h with
    | lst n h1 h2 => exact .lst n (g _ _ h1 n) (AtAll.mov g ok ok2 ds _ h2)
  | .dict ks, _, h => by
    cases h with
    | dct h1 => exact .dct (g _ _ h1 fun e => ok2 _ (e ▸ h1))
theorem AtAll.mov {tp : Addr} {H H' : Hp} (g : Mov tp H H') (ok : ∀ xs, H tp ≠ some (.tup xs)) (ok2 : ∀ ks, H tp ≠ some (.dK ks)) : ∀ (ds : List PyData) (vs : List V), AtAll tp H vs ds → AtAll tp H' vs ds
  | [], _, h => by
    cases h
    exact .nil
  | d :: ds, _, h => by
    cases h with
    | cons h1 h2 => exact .cons (At.mov g ok ok2 d _ h1) (AtAll.mov g ok ok2 ds _ h2)
end
/-- a thing apart from the tape stays when the tape is turned on -/
theorem At.tape {tp l : Addr} {H H' : Hp} {d : PyData} {v : V} (h : At tp H v d) (t : TapeAt H tp l) (g : Mov tp H H') : At tp H' v d := by
  obtain ⟨ns, i, c, m, n, hT, _⟩ := t
  exact At.mov g (fun xs e => by rw [hT] at e; cases e) (fun ks e => by rw [hT] at e; cases e) d v h
theorem atAll_paired {tp : Addr} {H : Hp} : ∀ {vs : List V} {ds : List PyData}, AtAll tp H vs ds → Paired (At tp H) vs ds
  | [], _, h => by
    cases h
    exact .nil
  | v :: vs, _, h => by
    cases h with
    | cons h1 h2 => exact .cons h1 (atAll_paired h2)
theorem paired_atAll {tp : Addr} {H : Hp} : ∀ {vs : List V} {ds : List PyData}, Paired (At tp H) vs ds → AtAll tp H vs ds
  | _, _, .nil => .nil
  | _, _, .cons h t => .cons h (paired_atAll t)
theorem At.ty {K : PySem.W.Frag} {tp : Addr} {H : Hp} {v : V} {d : PyData} (h : At tp H v d) : TyX K H v (.type (tyD d)) := by
  cases h with
  | non => exact .base .non
  | bl b => exact .base (.bl b)
  | int i => exact .base (.int i)
  | str z _ => exact .base (.str z)
  | tup h _ => exact .base (.tup h)
  | lst _ h _ => exact .base (.lst h)
  | dct h => exact .base (.dK h)
/-- an int that is no flag -/
def intD : PyData → Bool
  | .int _ => true
  | _ => false
theorem At.tyi {K : PySem.W.Frag} {tp : Addr} {H : Hp} {v : V} {d : PyData} (h : At tp H v d) : TyI K H v := by
  cases h with
  | non => exact ⟨false, false, ⟨_, .base .non, kit_ty (by decide +kernel)⟩, ⟨_, .base .non, kit_ty (by decide +kernel)⟩, rfl⟩
  | bl b => exact ⟨true, true, ⟨_, .base (.bl b), kit_ty (by decide +kernel)⟩, ⟨_, .base (.bl b), kit_ty (by decide +kernel)⟩, rfl⟩
  | int i => exact tyi_int i
  | str z _ => exact tyi_str z
  | tup h _ => exact tyi_tup h
  | lst _ h _ => exact ⟨false, false, ⟨_, .base (.lst h), kit_ty (by decide +kernel)⟩, ⟨_, .base (.lst h), kit_ty (by decide +kernel)⟩, rfl⟩
  | dct h => exact ⟨false, false, ⟨_, .base (.dK h), kit_ty (by decide +kernel)⟩, ⟨_, .base (.dK h), kit_ty (by decide +kernel)⟩, rfl⟩
/-! ### the judgements -/
def letD (d : PyData) (most : Int) : Bool := match d with
  | .str z => letB z most
  | _ => false
def intIn (d : PyData) (lo hi : Int) : Bool := match d with
  | .int n => decide (lo ≤ n) && decide (n ≤ hi)
  | _ => false
def rowsD (d : PyData) (most : Int) : Bool := match d with
  | .tuple ds => decide ((ds.length : Int) ≤ most) && ds.all (fun e => letD e 20)
  | _ => false
def boardD (d : PyData) : Bool := match d with
  | .tuple [n, s, r] => letD n 8 && (intIn s 0 1 && rowsD r 20)
  | _ => false
theorem At.within {tp : Addr} {H : Hp} {v : V} {d : PyData} (h : At tp H v d) (lo hi : Int) : Nm.within v lo hi = intIn d lo hi := by
  cases h <;> rfl
theorem strOr {tp : Addr} {H : Hp} {v : V} {d : PyData} (h : At tp H v d) : (∃ z, v = .str z ∧ d = .str z ∧ z.length ≤ 1000) ∨ ((∀ K : PySem.W.Frag, PySem.W.kitOne K (.type (tyD d)) (.type "str") = some false) ∧ ∀ m, letD d m = false) := by
  cases h with
  | str z l => exact .inl ⟨z, rfl, rfl, l⟩
  | non => exact .inr ⟨fun K => kit_ty (a := "NoneType") (b := "str") (by decide +kernel), fun _ => rfl⟩
  | bl b => exact .inr ⟨fun K => kit_ty (a := "bool") (b := "str") (by decide +kernel), fun _ => rfl⟩
  | int i => exact .inr ⟨fun K => kit_ty (a := "int") (b := "str") (by decide +kernel), fun _ => rfl⟩
  | tup _ _ => exact .inr ⟨fun K => kit_ty (a := "tuple") (b := "str") (by decide +kernel), fun _ => rfl⟩
  | lst _ _ _ => exact .inr ⟨fun K => kit_ty (a := "list") (b := "str") (by decide +kernel), fun _ => rfl⟩
  | dct _ => exact .inr ⟨fun K => kit_ty (a := "dict") (b := "str") (by decide +kernel), fun _ => rfl⟩
theorem tupOr {tp : Addr} {H : Hp} {v : V} {d : PyData} (h : At tp H v d) : (∃ a xs ds, v = .ref a ∧ d = .tuple ds ∧ H a = some (.tup xs) ∧ Paired (At tp H) xs ds) ∨ ((∀ K : PySem.W.Frag, PySem.W.kitOne K (.type (tyD d)) (.type "tuple") = some false) ∧ ∀ ds, d ≠ .tuple ds) := by
  cases h with
  | tup h1 h2 => exact .inl ⟨_, _, _, rfl, rfl, h1, atAll_paired h2⟩
  | str z l => exact .inr ⟨fun K => kit_ty (a := "str") (b := "tuple") (by decide +kernel), fun _ e => nomatch e⟩
  | non => exact .inr ⟨fun K => kit_ty (a := "NoneType") (b := "tuple") (by decide +kernel), fun _ e => nomatch e⟩
  | bl b => exact .inr ⟨fun K => kit_ty (a := "bool") (b := "tuple") (by decide +kernel), fun _ e => nomatch e⟩
  | int i => exact .inr ⟨fun K => kit_ty (a := "int") (b := "tuple") (by decide +kernel), fun _ e => nomatch e⟩
  | lst _ _ _ => exact .inr ⟨fun K => kit_ty (a := "list") (b := "tuple") (by decide +kernel), fun _ e => nomatch e⟩
  | dct _ => exact .inr ⟨fun K => kit_ty (a := "dict") (b := "tuple") (by decide +kernel), fun _ e => nomatch e⟩
theorem rowsD_no {d : PyData} (h : ∀ ds, d ≠ .tuple ds) (m : Int) : rowsD d m = false := by
  cases d with
  | tuple ds => exact absurd rfl (h ds)
  | _ => rfl
theorem boardD_no {d : PyData} (h : ∀ ds, d ≠ .tuple ds) : boardD d = false := by
  cases d with
  | tuple ds => exact absurd rfl (h ds)
  | _ => rfl
theorem boardD_len {ds : List PyData} (h : ds.length ≠ 3) : boardD (.tuple ds) = false := by
  match ds, h with
  | [], _ => rfl
  | [_], _ => rfl
  | [_, _], _ => rfl
  | [_, _, _], h => exact absurd rfl h
  | _ :: _ :: _ :: _ :: _, _ => rfl
/-- how many things stand in it at most -/
def small (d : PyData) : Bool := match d with
  | .tuple ds => decide (ds.length ≤ 1000)
  | _ => true
/-! ### right boards, read off -/
def strOfT (d : PyData) : Str := match d with
  | .str z => z
  | _ => Str.empty
def intOf (d : PyData) : Int := match d with
  | .int i => i
  | _ => 0
def rowOfT (d : PyData) : List Str := match d with
  | .tuple ds => ds.map strOfT
  | _ => []
def bdOf (d : PyData) : Bd := match d with
  | .tuple [n, s, r] => (strOfT n, intOf s, rowOfT r)
  | _ => (Str.empty, 0, [])
def bdsOf (d : PyData) : List Bd := match d with
  | .tuple ds => ds.map bdOf
  | _ => []
theorem let_at {tp : Addr} {H : Hp} {v : V} {d : PyData} {m : Int} (h : At tp H v d) (l : letD d m = true) : v = .str (strOfT d) ∧ letB (strOfT d) m = true ∧ (strOfT d).length ≤ 1000 := by
  rcases strOr h with ⟨z, rfl, rfl, hz⟩ | ⟨_, no⟩
  · exact ⟨rfl, l, hz⟩
  · rw [no m] at l
    cases l
theorem row_at {tp : Addr} {H : Hp} : ∀ {xs : List V} {ds : List PyData}, Paired (At tp H) xs ds → ds.all (fun e => letD e 20) = true → xs = (ds.map strOfT).map V.str ∧ (ds.map strOfT).all (fun z => letB z 20) = true ∧ ∀ z ∈ ds.map strOfT, z.length ≤ 1000
  | _, _, .nil, _ => ⟨rfl, rfl, fun z hz => absurd hz (List.not_mem_nil)⟩
  | _, _, .cons (a := x) (b := d) h t, l => by
    rw [List.all_cons, Bool.and_eq_true] at l
    obtain ⟨e, l1, l2⟩ := let_at h l.1
    obtain ⟨e2, l3, l4⟩ := row_at t l.2
    refine ⟨by rw [List.map_cons, List.map_cons, ← e2, ← e], by rw [List.map_cons, List.all_cons, l1, l3]; rfl, fun z hz => ?_⟩
    rw [List.map_cons] at hz
    rcases List.mem_cons.mp hz with rfl | hz
    · exact l2
    · exact l4 z hz
theorem board_at {tp : Addr} {H : Hp} {v : V} {d : PyData} (h : At tp H v d) (b : boardD d = true) : BoardAt H v (bdOf d) ∧ okB (bdOf d) := by
  rcases tupOr h with ⟨a, xs, ds, rfl, rfl, ha, pr⟩ | ⟨_, no⟩
  rotate_left
  · rw [boardD_no no] at b
    cases b
  by_cases c : ds.length = 3
  rotate_left
  · rw [boardD_len c] at b
    cases b
  obtain ⟨d1, d2, d3, rfl⟩ : ∃ d1 d2 d3, ds = [d1, d2, d3] := by
    match ds, c with
    | [d1, d2, d3], _ => exact ⟨d1, d2, d3, rfl⟩
  cases pr with
  | @cons x1 _ _ _ h1 t1 =>
  cases t1 with
  | @cons x2 _ _ _ h2 t2 =>
  cases t2 with
  | @cons x3 _ _ _ h3 t3 =>
  cases t3 with
  | nil =>
    have b' : (letD d1 8 && (intIn d2 0 1 && rowsD d3 20)) = true := b
    rw [Bool.and_eq_true, Bool.and_eq_true] at b'
    obtain ⟨b1, b2, b3⟩ := b'
    obtain ⟨e1, n1, n2⟩ := let_at h1 b1
    have e2 : x2 = .int (intOf d2) := by
      cases h2 with
      | int i => rfl
      | _ => exact absurd b2 (by simp [intIn])
    rcases tupOr h3 with ⟨r, zs, ws, rfl, rfl, hr, pz⟩ | ⟨_, no⟩
    rotate_left
    · rw [rowsD_no no] at b3
      cases b3
    have b3' : (decide ((ws.length : Int) ≤ 20) && ws.all (fun e => letD e 20)) = true := b3
    rw [Bool.and_eq_true] at b3'
    have l20 := of_decide_eq_true b3'.1
    obtain ⟨e3, r1, r2⟩ := row_at pz b3'.2
    subst e1 e2 e3
    refine ⟨⟨a, r, rfl, ha, hr⟩, ?_, n2, by show (ws.map strOfT).length ≤ 1000; rw [List.length_map]; omega, r2⟩
    show (letB (strOfT d1) 8 && (Nm.within (.int (intOf d2)) 0 1 && rowB (ws.map strOfT) 20)) = true
    rw [n1, h2.within, b2]
    unfold rowB
    rw [r1, List.length_map, decide_eq_true (show ((ws.length : Nat) : Int) ≤ 20 by omega)]
    rfl
/-- the number of the first that is no board -/
def firstBad : List PyData → Nat → Option Int
  | [], _ => none
  | d :: ds, i => if boardD d = true then firstBad ds (i + 1) else some (i : Int)
def dueD (d : PyData) : Option Int := match d with
  | .tuple ds => if 1 ≤ ds.length ∧ ds.length ≤ 12 then firstBad ds 0 else some (-1)
  | _ => some (-1)
theorem dueD_no {d : PyData} (h : ∀ ds, d ≠ .tuple ds) : dueD d = some (-1) := by
  cases d with
  | tuple ds => exact absurd rfl (h ds)
  | _ => rfl
theorem firstBad_at : ∀ (ds : List PyData) (k i : Nat) (d : PyData), ds[i]? = some d → (∀ j e, j < i → ds[j]? = some e → boardD e = true) → boardD d = false → firstBad ds k = some (((k + i : Nat)) : Int)
  | [], _, _, _, h, _, _ => by simp at h
  | e :: ds, k, 0, d, h, _, b => by
    have e' : e = d := by simpa using h
    subst e'
    show (if boardD e = true then _ else some (k : Int)) = _
    rw [b, if_neg Bool.false_ne_true]
    rfl
  | e :: ds, k, i + 1, d, h, all, b => by
    show (if boardD e = true then firstBad ds (k + 1) else some (k : Int)) = _
    rw [all 0 e (Nat.succ_pos i) rfl, if_pos rfl, firstBad_at ds (k + 1) i d (by simpa using h) (fun j f hj hf => all (j + 1) f (Nat.succ_lt_succ hj) (by simpa using hf)) b]
    congr 1
    omega
theorem firstBad_none : ∀ (ds : List PyData) (k : Nat), (∀ e ∈ ds, boardD e = true) → firstBad ds k = none
  | [], _, _ => rfl
  | e :: ds, k, h => by
    show (if boardD e = true then firstBad ds (k + 1) else some (k : Int)) = _
    rw [h e List.mem_cons_self, if_pos rfl]
    exact firstBad_none ds (k + 1) fun f hf => h f (List.mem_cons_of_mem _ hf)
/-- right boards in a tuple -/
theorem boards_at {tp : Addr} {H : Hp} : ∀ {xs : List V} {ds : List PyData}, Paired (At tp H) xs ds → (∀ e ∈ ds, boardD e = true) → Paired (BoardAt H) xs (ds.map bdOf) ∧ ∀ b ∈ ds.map bdOf, okB b
  | _, _, .nil, _ => ⟨.nil, fun b hb => absurd hb (List.not_mem_nil)⟩
  | _, _, .cons h t, l => by
    obtain ⟨b1, b2⟩ := board_at h (l _ List.mem_cons_self)
    obtain ⟨r1, r2⟩ := boards_at t fun e he => l e (List.mem_cons_of_mem _ he)
    refine ⟨.cons b1 r1, fun b hb => ?_⟩
    rw [List.map_cons] at hb
    rcases List.mem_cons.mp hb with rfl | hb
    · exact b2
    · exact r2 b hb
/-- a hall whose boards stand at a -/
def HallIs (K : PySem.W.Frag) (H : Hp) (p a : Addr) (bs : List Bd) : Prop := ∃ C dx fs n ys, Cls K C ∧ NoAttr K C "boards" ∧ NoAttr K C "names" ∧ H p = some (.ins C dx fs) ∧ fs.lookup ("boards" : Str) = some (.ref a) ∧ fs.lookup ("names" : Str) = some (.ref n) ∧
  BoardsAt H a bs ∧ H n = some (.tup (ys.map V.str)) ∧ Names (bs.map (·.1)) ys
theorem HallIs.at {K : PySem.W.Frag} {H : Hp} {p a : Addr} {bs : List Bd} (h : HallIs K H p a bs) : HallAt K H p bs := by
  obtain ⟨C, dx, fs, n, ys, h1, h2, h3, h4, h5, h6, h7, h8, h9⟩ := h
  exact ⟨C, dx, fs, a, n, ys, h1, h2, h3, h4, h5, h6, h7, h8, h9⟩
end Nm
namespace Nm
open PySem PySem.Spec PyProof.Rows L2
/-- t * 0 is () -/
theorem tuple_mul0 (l : Addr) (items : Array Value) (n : Nat) (dd : Option Addr) (sl : Array (Option Value)) (u : Tok) (hne : items.isEmpty = false) :
    Meets (Builtin.«tuple.__mul__» ⟨[.ref l, .int 0 u], []⟩) (fun _ R s => s.heap.get? l = some { cls := .type "tuple", dict := dd, data := .seq items n, slots := sl } ∧ ∀ tk, R (.ok (.ret (Value.ref s.heap.objs.size))) { s with heap := s.heap.push { cls := .type "tuple", data := .seq #[] }, toks := tk }) :=
  .of_wp fun prog w A R s h => by
    obtain ⟨hp, g, d, tk, os⟩ := s
    obtain ⟨hl, h⟩ := h
    have f1 := AutoSeq1.idx_int
    have c0 : (decide ((0 : Int) < -(2 ^ 63)) || decide ((0 : Int) ≥ 2 ^ 63)) = false := by decide
    have c1 : (items.isEmpty || (0 : Int) == 1) = false := by rw [hne]; rfl
    have c2 : (decide ((0 : Int) ≤ 0) || items.isEmpty) = true := by rw [hne]; rfl
    wp_walk using wpAny_loadPart' hl
    exact ⟨_, rfl, h _⟩
def rRep0 (K : PySem.W.Frag) : R2 := fun x y H Q => ∃ l xs, x = .ref l ∧ y = .int 0 ∧ SqT K H l xs ∧ xs ≠ [] ∧ ∀ p, H p = none → Q (.ref p) (upd H p (.tup []))
def rMulS : R2 := fun x y H Q => ∃ (z : Str) (k : Int), x = .str z ∧ y = .int k ∧ 2 ≤ k ∧ k ≤ 1000 ∧ 1 ≤ z.length ∧ z.length ≤ 1000 ∧ (⟨(List.replicate k.toNat z.cps).foldl (· ++ ·) #[]⟩ : Str).length ≤ 1000000 ∧ Q (.str ⟨(List.replicate k.toNat z.cps).foldl (· ++ ·) #[]⟩) H
section
variable {X : Cx}
theorem op_rep0 : OpR X (binaryOp .Mult) (rRep0 X.K) := by
  intro pins s σ H x y v u Q I rx ry h
  obtain ⟨l, xs, rfl, rfl, hT, hne, q⟩ := h
  cases rx
  obtain ⟨t, rfl⟩ := ry
  obtain ⟨its, r, ⟨⟨cls, dd, data, sl⟩, ho, hc, n, hd⟩, hs⟩ := I.tuple hT
  simp only at hc hd
  subst hc hd
  have ne : its.toArray.isEmpty = false := by
    cases its with
    | nil =>
      cases r
      exact absurd rfl hne
    | cons a b => rfl
  refine wpAny_binaryOp_repeat_ref (T := "tuple") (U := "int") (by decide) ⟨_, ho, rfl⟩ (fun s' => typeIs_int s' 0 t) noFill_tuple_mul F.fills_int_mul F.slot_int_rmul repeat_tuple F.slot_int_index.lookup
    (call_meets F.slot_int_rmul (typeIs_int s 0 t) F.entry_int_rmul (F.args_int_rmul_2 _ _) (int_rmul_tuple 0 t l its.toArray n dd sl)
      ⟨ho, rfl, ⟨_, ho, rfl⟩, call_meets F.slot_tuple_mul ⟨_, ho, rfl⟩ F.entry_tuple_mul (F.args_tuple_mul_2 _ _) (tuple_mul0 l its.toArray n dd sl t ne) ⟨ho, fun tk => ?_⟩⟩)
  refine ⟨.ref s.heap.objs.size, upd H s.heap.objs.size (.tup []), ?_, rfl, q _ (I.hok.fresh (Nat.le_refl _))⟩
  exact I.laid (t' := tk) (o := .tup []) (fun b ob q => Heap.get?_push_of_some _ q) (Nat.le_refl _) ⟨Nat.zero_le _, [], .nil, IsTup.new _ _⟩
theorem op_mulS : OpR X (binaryOp .Mult) rMulS := by
  intro pins s σ H x y v u Q I rx ry h
  obtain ⟨z, k, rfl, rfl, k1, k2, z1, z2, lz, q⟩ := h
  obtain ⟨t, rfl⟩ := rx
  obtain ⟨t2, rfl⟩ := ry
  have ne : ¬ k < 1 := by omega
  have c : (k == 1 || z.length == 0) = false := by
    rw [Bool.or_eq_false_iff]
    exact ⟨beq_eq_false_iff_ne.mpr (by omega), beq_eq_false_iff_ne.mpr (by omega)⟩
  refine P.mul_str ?_ (fun _ _ => ?_) (fun _ _ => ?_) ?_
  · rw [decide_eq_false (show ¬ (k < -(2 ^ 63 : Int)) by omega), decide_eq_false (show ¬ (k ≥ 2 ^ 63) by omega)]
    rfl
  · have h1 : (2 ^ 63 - 1 : Int) / k ≥ 1000 := (Int.le_ediv_iff_mul_le (by omega)).mpr (by omega)
    omega
  · have h1 : z.length * k.toNat ≤ 1000 * 1000 := Nat.mul_le_mul z2 (by omega)
    unfold Builtin.Str.tooLong
    first
      | exact decide_eq_false (by rw [sizeLine_eq]; omega)
      | (simp only [decide_eq_false_iff_not]; rw [sizeLine_eq]; omega)
      | (simp [sizeLine_eq]; omega)
  · rw [if_neg ne, c, if_neg Bool.false_ne_true]
    exact ⟨by rw [sizeLine_eq]; omega, .str _, H, I.tok _, ⟨_, rfl⟩, q⟩
end
end Nm
/-! repr(x) in the law's own def: nothing is being shown when the law is asked -/
namespace Nm
open PySem PySem.Spec PyProof.Rows L2
/-- a def that is only asked where nothing is being shown -/
structure FnG (P : Program) (w : World) (K : PySem.W.Frag) (mg : Str → Option Value) (base : Heap) (k : Nat) (f : Addr) (fd : FuncData) (ps : List Str) (sp : Sp) : Prop where
  len : ∀ vs H Q E, sp vs H Q E → vs.length = ps.length
  run : ∀ (A : Around) (outer : List Env) (s : Shared) (H : Hp) (args : Args) (us : List Value) (vs : List V) (Q : VK) (E : XK), A.guards = some [] → Room k A → Env0 P w K mg base A outer s H → BindsTo s fd args (ps.zip us) → Vals vs us → sp vs H Q E → codeAny (model P w) A (.call (.ref f) args) (CR CX0 outer P w H s Q E) s
section
variable {P : Program} {w : World} {K : PySem.W.Frag} {mg : Str → Option Value} {base : Heap}
theorem okG {x qual : Str} {st : Stmt} {f : Addr} {fd : FuncData} {N ps : List Str} {k : Nat} {sp : Sp} (F : Fun K x qual st f fd) (S : FnScope N ps (defScope st)) (len : ∀ vs H Q E, sp vs H Q E → vs.length = ps.length)
    (hbody : ∀ (cdv : Value) (A : Around) (outer : List Env) (s : Shared) (H : Hp) (vs : List V) (Q : VK) (E : XK), A.guards = some [] → Room k (A.deeper (envOfC qual (defScope st) s.heap.objs.size f cdv)) → sp vs H Q E →
      ∃ t, PSs (cxOf CX0 P w K mg base N qual (defScope st) f cdv A outer s H E).nox (defBody st) t ∧ t { nx := fun _ H' => Q .non H', rt := Q } (start N vs) H) : FnG P w K mg base (k + 1) f fd ps sp := by
  obtain ⟨oc, od, kV, doc, pm, an, cdv, ct, osl, rfl, lk, hcd⟩ := F.ex
  refine ⟨len, fun A outer s H args us vs Q E hg hr e0 hb r hsp => ?_⟩
  obtain ⟨t, h, hq⟩ := hbody cdv A outer s H vs Q E hg (hr.deeper _) hsp
  have ht := h.nox
  have hl := len _ _ _ _ hsp
  have old : ∀ b o, base.get? b = some o → s.heap.get? b = some o := fun b o e => (e0.bs b o e).1
  have KX := e0.mod.kin.keeps old
  have lim := e0.mod.nolimit.keeps old
  refine codeAny_call_function hr.depth (KX _ _ lk) rfl S.co S.gen rfl (PySem.W.codeRec_of KX hcd) (hb _ _ _ _ ?_)
  refine wpAny_newFunctionEnv_cells S.kind (fun ⟨n, v⟩ hy => (S.par n (List.of_mem_zip hy).1).imp id fun q => ⟨q, PySem.W.cellsFrom_some _ _ _ (.inl q)⟩) fun env he s1 x1 => ?_
  subst he
  refine ⟨lim.keeps x1.toInCall.keep, codeAny_func ?_⟩
  have I := inv_start (CX := CX0) (P := P) (w := w) (K := K) (mg := mg) (base := base) (E := E) S hr.hd e0 hl r x1
  refine wpAny_mono (ht.run [] s1 (start N vs) H _ I hq) (fun fl s' hs => ?_) fun e s' hs => hs
  cases fl with
  | ret u =>
    obtain ⟨v, σ', H', J, rv, q⟩ := hs
    exact ⟨v, H', J.os, J.bare, J.base, J.hok, rv, q⟩
  | next =>
    obtain ⟨σ', H', J, q⟩ := hs
    exact ⟨V.non, H', J.os, J.bare, J.base, J.hok, rfl, q⟩
  | brk => exact hs.elim fun _ z => z.elim fun _ z => z.2.elim
  | cont => exact hs.elim fun _ z => z.elim fun _ z => z.2.elim
end
section
variable {P : Program} {w : World} {K : PySem.W.Frag} {mg mb : Str → Option Value} {k : Nat} {fa a : Addr} {fd : FuncData} {x : Str} {sp : Sp} {s1 : Shared} {vs : List Value} {ns : List Int}
/-- the law asked at a script, from an abstract heap that tracks the script at most -/
theorem law_fromG {H : Hp} (KX : K.In s1.heap) (hns : s1.heap.Ns mainGlobals mg) (hb : s1.heap.Ns builtinsNs mb) (hbb : ∀ x : Str, x ≠ "__name__" → mb x = bootBuiltins x) (hlim : s1.heap.NoLimit) (hg : s1.gens = #[])
    (ha : s1.heap.get? a = some { cls := .type "list", data := .seq vs.toArray }) (hr : Room k callerA)
    (F : ∀ base : Heap, K.In base → base.Ns mainGlobals mg → FnG P w K mg base k fa fd [x] sp) (hbind : ∀ (s : Shared) (u : Value), BindsTo s fd ⟨[u], []⟩ [(x, u)])
    (hsp : sp [.ref a] H (fun v _ => v = .bl true) fun _ _ _ => False)
    (hO : Only H) (hok : HOk P w H s1.heap) (hA : ∀ b u, H b = some u → b = a) (hK : ∀ u, H a = some u → K.lookup a = none) :
    codeAny (model P w) callerA (.call (.ref fa) ⟨[.ref a], []⟩) (fun r s' => r = .ok (.ret (.bool true)) ∧ OldK s1.heap s'.heap ∧ s'.os = s1.os ∧ AllBare s'.gens) s1 := by
  have hid : ∀ {b : Addr} {o : Obj}, s1.heap.get? b = some o → (b = a → H a = none) → (hidT s1.heap H).get? b = some o := fun {b o} e n => hidT_get e (by
    cases q : H b with
    | none => rfl
    | some u =>
      have e' := hA b u q
      rw [e', n e'] at q
      cases q)
  have space : ∀ {b : Addr} {m : Str → Option Value}, s1.heap.Ns b m → (hidT s1.heap H).Ns b m := fun {b m} ⟨o, es, ep, e, d, r⟩ => ⟨o, es, ep, hid e (fun z => by
    rw [z, ha] at e
    cases e
    exact absurd d (fun w => by cases (show Data.seq vs.toArray _ = Data.dict es ep from w))), d, r⟩
  have kin : K.In (hidT s1.heap H) := fun b o e => hid (KX b o e) (fun z => by
    cases q : H a with
    | none => rfl
    | some u =>
      rw [z, hK u q] at e
      cases e)
  have mod : Mod K mg (hidT s1.heap H) := ⟨kin, space hns, ⟨mb, space hb, hbb⟩, hlim.imp fun _ h => ⟨space h.1, h.2⟩⟩
  have env : Env0 P w K mg (hidT s1.heap H) callerA [] s1 H := ⟨rfl, mod, fun b o e => of_hidT e, Nat.le_of_eq (hidT_size _ _), trivial, fun b z => absurd (show b ∈ ([] : List Addr) from z) (List.not_mem_nil), hok, .of_eq hg⟩
  refine codeAny_mono ((F _ kin (space hns)).run callerA [] s1 H ⟨[.ref a], []⟩ [.ref a] [.ref a] _ _ rfl hr env (hbind s1 (.ref a)) (.cons rfl .nil) hsp) fun r s' h => ?_
  cases r with
  | error e => exact (show False from h).elim
  | ok fl =>
    cases fl with
    | ret u =>
      obtain ⟨v, H', os, bare, un, hok', rv, q⟩ := h
      cases (show v = .bl true from q)
      cases (show u = Value.bool true from rv)
      refine ⟨rfl, OldK.of_keep fun b o e => ?_, os, bare⟩
      rcases hO b with z | ⟨ob, xs, z⟩
      · exact un.keep b o e z (fun w => absurd (show b ∈ ([] : List Addr) from w) (List.not_mem_nil)) (by simp)
      · have e1 := (hok b _ z).1
        have e2 := (hok' b _ (un.frzs b ob _ z)).1
        rw [e] at e1
        cases e1
        exact e2
    | _ => exact False.elim h
theorem law_callG (KX : K.In s1.heap) (hns : s1.heap.Ns mainGlobals mg) (hb : s1.heap.Ns builtinsNs mb) (hbb : ∀ x : Str, x ≠ "__name__" → mb x = bootBuiltins x) (hlim : s1.heap.NoLimit) (hg : s1.gens = #[])
    (ha : s1.heap.get? a = some { cls := .type "list", data := .seq vs.toArray }) (hi : IntsAre vs ns) (hl : ns.length ≤ sizeLine) (hr : Room k callerA)
    (F : ∀ base : Heap, K.In base → base.Ns mainGlobals mg → FnG P w K mg base k fa fd [x] sp) (hbind : ∀ (s : Shared) (u : Value), BindsTo s fd ⟨[u], []⟩ [(x, u)])
    (hsp : ∀ H : Hp, SqL K H a (ns.map V.int) → sp [.ref a] H (fun v _ => v = .bl true) fun _ _ _ => False) :
    codeAny (model P w) callerA (.call (.ref fa) ⟨[.ref a], []⟩) (fun r s' => r = .ok (.ret (.bool true)) ∧ OldK s1.heap s'.heap ∧ s'.os = s1.os ∧ AllBare s'.gens) s1 := by
  have rv := vals_ints hi
  have lv := hi.length
  cases hk : K.lookup a with
  | some o =>
    have e := KX a o hk
    rw [ha] at e
    cases e
    exact law_fromG (H := fun _ => none) KX hns hb hbb hlim hg ha hr F hbind (hsp _ (.inr ⟨_, vs.toArray, _, hk, rfl, rfl, rfl, by rw [List.size_toArray, lv]; exact hl, by simpa using rv⟩)) (fun _ => .inl rfl) (fun b u z => nomatch (show (none : Option HO) = some u from z)) (fun b u z => nomatch (show (none : Option HO) = some u from z)) fun u z => nomatch (show (none : Option HO) = some u from z)
  | none =>
    refine law_fromG (H := upd (fun _ => none) a (.frz { cls := .type "list", data := .seq vs.toArray } (.lst (ns.map V.int)))) KX hns hb hbb hlim hg ha hr F hbind (hsp _ (.inl (.inr ⟨_, upd_same⟩))) (fun b => ?_) (fun b u z => ?_) (fun b u z => ?_) fun _ _ => hk
    · by_cases c : b = a
      · rw [c]
        exact .inr ⟨_, _, upd_same⟩
      · exact .inl (upd_ne c)
    · by_cases c : b = a
      · subst c
        rw [upd_same] at z
        cases z
        exact ⟨ha, by rw [List.length_map]; exact hl, vs, _, rv, ha⟩
      · rw [upd_ne c] at z
        cases z
    · by_cases c : b = a
      · exact c
      · rw [upd_ne c] at z
        cases z
end
theorem walk_ofG {l : PySem.W.OpenLaw} {n k : Nat} {q : Program} {loose : List Str} {XP : (Str → Option Value) → Heap → Prop} {YP : World → Heap → Prop} {d : DefRec} {K : Params → PySem.W.Frag} {sp : World → Sp} {x : Str}
    (hn : l.most = some n) (hn2 : n ≤ sizeLine) (hdf : d.params.defaults = []) (hr : Room k callerA)
    (hY : ∀ (w : World) (h : Heap), YP w h → (K w.params).In h)
    (F : ∀ (w : World) (mg : Str → Option Value) (fa : Addr) (h : Heap), (K w.params).In h → h.Ns mainGlobals mg → mg d.name = some (.ref fa) →
      ∃ fd : FuncData, (∀ (s : Shared) (u : Value), BindsTo s fd ⟨[u], []⟩ [(x, u)]) ∧
        ∀ base : Heap, (K w.params).In base → base.Ns mainGlobals mg → FnG l.prog w (K w.params) mg base k fa fd [x] (sp w))
    (hsp : ∀ (w : World) (H : Hp) (a : Addr) (ns : List Int), SqL (K w.params) H a (ns.map V.int) → sp w [.ref a] H (fun v _ => v = .bl true) fun _ _ _ => False) :
    PySem.W.WalkO q loose XP YP l.row.toRowW d [] (fun f vs => PySem.call f vs) := by
  refine Att.attach_call hn hdf fun w s0 s1 mg mb fa o pm cd doc a vs ns G Y ho hd hcd hmg hobj hints hlen hg => ?_
  have KX := hY w _ Y
  obtain ⟨fd, hb, hF⟩ := F w mg fa _ KX G.T.g hmg
  exact law_callG KX G.T.g G.T.b G.T.builtins G.T.nolimit hg hobj hints (Nat.le_trans hlen hn2) hr hF hb fun H hS => hsp w H a ns hS
/-! ### what is shown -/
def keyD : Key → PyData
  | .inl i => .int i
  | .inr z => .str z
mutual
/-- data at any depth, dicts among them -/
inductive Sh (K : PySem.W.Frag) (H : Hp) : V → PyData → Prop where
  | non : Sh K H .non .none
  | bl (b : Bool) : Sh K H (.bl b) (.bool b)
  | int (i : Int) : Sh K H (.int i) (.int i)
  | str (z : Str) : Sh K H (.str z) (.str z)
  | lst {a : Addr} {xs : List V} {ds : List PyData} : (a == sysModules) = false → SqL K H a xs → ShAll K H xs ds → Sh K H (.ref a) (.list ds)
  | tup {a : Addr} {xs : List V} {ds : List PyData} : SqT K H a xs → ShAll K H xs ds → Sh K H (.ref a) (.tuple ds)
  | dct {a : Addr} {kvs : List (Key × V)} {ps : List (PyData × PyData)} : H a = some (.dK kvs) → ShKv K H kvs ps → Sh K H (.ref a) (.dict ps)
inductive ShAll (K : PySem.W.Frag) (H : Hp) : List V → List PyData → Prop where
  | nil : ShAll K H [] []
  | cons {v : V} {vs : List V} {d : PyData} {ds : List PyData} : Sh K H v d → ShAll K H vs ds → ShAll K H (v :: vs) (d :: ds)
inductive ShKv (K : PySem.W.Frag) (H : Hp) : List (Key × V) → List (PyData × PyData) → Prop where
  | nil : ShKv K H [] []
  | cons {k : Key} {v : V} {kvs : List (Key × V)} {d : PyData} {ps : List (PyData × PyData)} : Sh K H v d → ShKv K H kvs ps → ShKv K H ((k, v) :: kvs) ((keyD k, d) :: ps)
end
section
variable {X : Cx} {pins : List (Addr × Obj)} {σ : L2.St} {H : Hp} {s : Shared}
theorem key_reads {k : Key} {u : Value} (h : keyIs k u = true) : Reads s.heap u (keyD k) [] := by
  rcases keyIs_shape h with ⟨i, tk, ek, eu⟩ | ⟨z, tk, ek, eu⟩
  · rw [ek, eu]
    exact Reads.int i tk
  · rw [ek, eu]
    exact Reads.str z tk
mutual
theorem Sh.reads (I : Inv X pins σ H s) : ∀ (d : PyData) (v : V) (u : Value), Sh X.K H v d → RelV v u → ∃ as, Reads s.heap u d as ∧ sysModules ∉ as
  | .none, _, _, h, r => by
    cases h
    cases r
    exact ⟨_, Reads.none, List.not_mem_nil⟩
  | .bool b, _, _, h, r => by
    cases h
    cases r
    exact ⟨_, Reads.bool b, List.not_mem_nil⟩
  | .int i, _, _, h, r => by
    cases h
    obtain ⟨t, rfl⟩ := r
    exact ⟨_, Reads.int i t, List.not_mem_nil⟩
  | .str z, _, _, h, r => by
    cases h
    obtain ⟨t, rfl⟩ := r
    exact ⟨_, Reads.str z t, List.not_mem_nil⟩
  | .list ds, _, _, h, r => by
    cases h with
    | lst ns hs ha =>
      cases r
      obtain ⟨its, rv, ⟨o, n, ho, hc, _, hd⟩, _⟩ := I.list hs
      obtain ⟨as, hr, na⟩ := ShAll.reads I ds _ its ha rv
      refine ⟨_, Reads.list ho hc hd hr, fun m => ?_⟩
      rcases List.mem_cons.mp m with e | m
      · rw [← e, beq_self_eq_true] at ns
        cases ns
      · exact na m
  | .tuple ds, _, _, h, r => by
    cases h with
    | tup hs ha =>
      cases r
      obtain ⟨its, rv, ⟨o, ho, hc, n, hd⟩, _⟩ := I.tuple hs
      obtain ⟨as, hr, na⟩ := ShAll.reads I ds _ its ha rv
      exact ⟨_, Reads.tuple ho hc hd hr, na⟩
  | .dict ps, _, _, h, r => by
    cases h with
    | dct hd hk =>
      cases r
      obtain ⟨_, ns, vs, rel, o, es, ep, ho, hx, hdt, _, prs, _⟩ := dk_of I.hok hd
      obtain ⟨as, bs, q1, q2, n1, n2⟩ := ShKv.reads I ps _ _ _ hk rel prs
      refine ⟨_, Reads.dict ho hx.1 hdt q1 q2, fun m => ?_⟩
      rcases List.mem_append.mp m with m | m
      · rcases List.mem_cons.mp m with e | m
        · rw [← e, beq_self_eq_true] at ns
          cases ns
        · exact n1 m
      · exact n2 m
theorem ShAll.reads (I : Inv X pins σ H s) : ∀ (ds : List PyData) (vs : List V) (us : List Value), ShAll X.K H vs ds → Vals vs us → ∃ as, ReadsAll s.heap us ds as ∧ sysModules ∉ as
  | [], _, _, h, r => by
    cases h
    cases r
    exact ⟨_, ReadsAll.nil, List.not_mem_nil⟩
  | d :: ds, _, _, h, r => by
    cases h with
    | cons h1 h2 =>
      cases r with
      | cons r1 r2 =>
        obtain ⟨as, q1, n1⟩ := Sh.reads I d _ _ h1 r1
        obtain ⟨bs, q2, n2⟩ := ShAll.reads I ds _ _ h2 r2
        exact ⟨_, ReadsAll.cons q1 q2, fun m => (List.mem_append.mp m).elim n1 n2⟩
theorem ShKv.reads (I : Inv X pins σ H s) : ∀ (ps : List (PyData × PyData)) (kvs : List (Key × V)) (vs : List (Key × Value)) (es : List DictEntry), ShKv X.K H kvs ps → KV kvs vs → Pairs (mixKind X.prog X.w) es vs → ∃ as bs, ReadsAll s.heap (es.map (·.key)) (ps.map (·.1)) as ∧ ReadsAll s.heap (es.map (·.val)) (ps.map (·.2)) bs ∧ sysModules ∉ as ∧ sysModules ∉ bs
  | [], _, _, _, h, r, p => by
    cases h
    cases r
    cases p
    exact ⟨_, _, ReadsAll.nil, ReadsAll.nil, List.not_mem_nil, List.not_mem_nil⟩
  | q :: ps, _, _, _, h, r, p => by
    cases h with
    | cons h1 h2 =>
      cases r with
      | cons r1 r2 =>
        cases p with
        | cons hk hv p2 =>
          obtain ⟨e1, e2⟩ := r1
          rw [← e1] at hk
          obtain ⟨as, q1, n1⟩ := Sh.reads I _ _ _ h1 e2
          obtain ⟨bs, cs, q2, q3, n2, n3⟩ := ShKv.reads I ps _ _ _ h2 r2 p2
          rw [← hv] at q1
          refine ⟨_, _, ReadsAll.cons (key_reads hk) q2, ReadsAll.cons q1 q3, n2, fun m => (List.mem_append.mp m).elim n1 n3⟩
end
end
def rRepr (K : PySem.W.Frag) : List V → Hp → VK → Prop := fun xs H Q => ∃ (a : Addr) (d : PyData), xs = [.ref a] ∧ Sh K H (.ref a) d ∧ d.showable = true ∧ d.shown.length ≤ sizeLine ∧ d.depth ≤ 40 ∧ Q (.str d.shown) H
theorem call_repr {X : Cx} (hg : X.A.guards = some []) (hu : X.A.units + 64 < cLine) : CallR X (.builtin "repr") (rRepr X.K) := by
  intro pins s σ H xs us Q I r h
  obtain ⟨a, d, rfl, hsh, hs, hz, hd, q⟩ := h
  cases r with
  | cons r1 r2 =>
    cases r2
    cases r1
    obtain ⟨as, rd, ns⟩ := Sh.reads I d _ _ hsh rfl
    exact repr_of_reads' rd hs (fun _ => ns) hg (by omega) (fun _ _ e => e) (fun h' u tk hk => ⟨.str d.shown, H, I.kept (t' := tk) hk, ⟨u, rfl⟩, q⟩) hz
end Nm
namespace Nm
open PySem PySem.Spec PyProof.Rows L2 NmD
/-! ### dicts whose keys are names -/
theorem put_new {kvs : List (Key × V)} {k : Key} {y : V} (h : k ∉ kvs.map (·.1)) : (putK kvs k y).map (·.1) = kvs.map (·.1) ++ [k] := by
  unfold putK
  rw [if_neg (fun z => by
    obtain ⟨p, hp, e⟩ := List.any_eq_true.mp z
    exact h (List.mem_map.mpr ⟨p, hp, of_decide_eq_true e⟩)), List.map_append]
  rfl
theorem put_old {kvs : List (Key × V)} {k : Key} {y : V} (h : k ∈ kvs.map (·.1)) : (putK kvs k y).map (·.1) = kvs.map (·.1) := by
  unfold putK
  obtain ⟨p, hp, e⟩ := List.mem_map.mp h
  rw [if_pos (List.any_eq_true.mpr ⟨p, hp, decide_eq_true e⟩), List.map_map]
  refine List.map_congr_left fun q _ => ?_
  show (if q.1 = k then (q.1, y) else q).1 = q.1
  split <;> rfl
theorem tups_dK {H : Hp} {D : Addr} {kvs ks : List (Key × V)} (h : H D = some (.dK kvs)) : Tups H (upd H D (.dK ks)) := fun e us he => by
  rw [upd_ne (fun z => by rw [z, h] at he; cases he)]
  exact he
/-- for each name a thing -/
def NdAt (R : Hp → V → Str → Prop) (H : Hp) (D : Addr) (ns : List Str) : Prop := ∃ kvs : List (Key × V), H D = some (.dK kvs) ∧ kvs.map (·.1) = ns.map Sum.inr ∧ ∀ n ∈ ns, ∃ y, valV kvs (.inr n) = some y ∧ R H y n
/-- for each name a game -/
def GnAt (g : Str → List (List Str)) (H : Hp) (y : V) (n : Str) : Prop := ∃ a, y = .ref a ∧ GmAt H a (g n)
abbrev GsAt (H : Hp) (D : Addr) (ns : List Str) (g : Str → List (List Str)) : Prop := NdAt (GnAt g) H D ns
theorem GsAt.mono {H H' : Hp} {D : Addr} {ns : List Str} {g : Str → List (List Str)} (h : GsAt H D ns g) (k : Keep H H') : GsAt H' D ns g := by
  obtain ⟨kvs, h1, h2, h3⟩ := h
  refine ⟨kvs, k _ _ h1 (fun xs e => nomatch e), h2, fun n hn => ?_⟩
  obtain ⟨y, e1, a, e2, e3⟩ := h3 n hn
  exact ⟨y, e1, a, e2, e3.keep k.tups⟩
theorem GsAt.same {H H' : Hp} {D : Addr} {ns : List Str} {g : Str → List (List Str)} (h : GsAt H D ns g) (k : Same H H') : GsAt H' D ns g := h.mono (same_keep k)
theorem GsAt.get {H : Hp} {D : Addr} {ns : List Str} {g : Str → List (List Str)} (h : GsAt H D ns g) {n : Str} (hn : n ∈ ns) : ∃ a, DGet H D (.str n) (some (.ref a)) ∧ GmAt H a (g n) := by
  obtain ⟨kvs, h1, h2, h3⟩ := h
  obtain ⟨y, e1, a, rfl, e3⟩ := h3 n hn
  exact ⟨a, e1 ▸ DGet.k (k := .inr n) h1, e3⟩
/-- the begun rows at the boards of a name -/
def rowsOf (bs : List Bd) (n : Str) : List (List Str) := (bs.filter fun b => decide (b.1 = n)).map (·.2.2)
theorem mem_rowsOf {bs : List Bd} {b : Bd} (h : b ∈ bs) : b.2.2 ∈ rowsOf bs b.1 := List.mem_map.mpr ⟨b, List.mem_filter.mpr ⟨h, decide_eq_true rfl⟩, rfl⟩
theorem of_rowsOf {bs : List Bd} {n : Str} {r : List Str} (h : r ∈ rowsOf bs n) : ∃ b ∈ bs, b.1 = n ∧ b.2.2 = r := by
  obtain ⟨b, hb, rfl⟩ := List.mem_map.mp h
  obtain ⟨h1, h2⟩ := List.mem_filter.mp hb
  exact ⟨b, h1, of_decide_eq_true h2, rfl⟩
end Nm
namespace Nm
open PySem PySem.Spec PyProof.Rows L2 NmD
variable {X : Cx}
/-! ### name = {text: v for text in ..} -/
theorem ps_setDcK {i : Nat} {y : PySem.Str} {py : Pos} {kx vx tg iter : Expr} {ifs : List Expr} {scope : Scope} {own : List (PySem.Str × Nat)} {pos spos : Pos} {wi : TI} {g : TG} {tt : TT} {tk tv : TE} (hc : X.calm = true) (hN : X.N.Nodup) (hy : X.N[i]? = some y) (hyl : X.env.scope.names.lookup y = some .local)
    (hsw : swapsWith (.DictComp kx vx [⟨tg, iter, ifs, 0⟩] scope pos) (some (.Name y py)) spos.line X.env = pure true) (hi : PI X tg iter wi) (ok : BlkOk X.N X.env.scope scope own)
    (hg : ∀ (s : Shared) (H : Hp) (C : Addr) (cl : List (PySem.Str × Addr)) (fp : List Addr), PG (X.blk s H scope (compEnvC scope cl C X.env) fp) tg g)
    (ht : ∀ (s : Shared) (H : Hp) (C : Addr) (cl : List (PySem.Str × Addr)) (fp : List Addr), PTs (X.blk s H scope (compEnvC scope cl C X.env) fp) ifs tt)
    (hk : ∀ (s : Shared) (H : Hp) (C : Addr) (cl : List (PySem.Str × Addr)) (fp : List Addr), PE (X.blk s H scope (compEnvC scope cl C X.env) fp) kx tk)
    (he : ∀ (s : Shared) (H : Hp) (C : Addr) (cl : List (PySem.Str × Addr)) (fp : List Addr), PE (X.blk s H scope (compEnvC scope cl C X.env) fp) vx tv)
    (hs : ∀ x, foldedSetIterable iter X.env x = pure x := by intro _; rfl) :
    PS X (.Assign [.Name y py] (.DictComp kx vx [⟨tg, iter, ifs, 0⟩] scope pos) spos) (tAsg (tDc wi g tt tk tv (own.map (·.2))) (gName i)) := by
  refine ⟨fun pins s σ H D I h => ?_⟩
  rw [exec_Assign_Name_used _ _ _ _ hsw]
  refine wpAny_bind (wpAny_standAt (wpAny_bind ?_))
  show wpAny _ X.A (do let _ ← comprehension (.DictComp kx vx [⟨tg, iter, ifs, 0⟩] scope pos) scope X.env (firstIterPos [⟨tg, iter, ifs, 0⟩] pos) newDict false (eval iter X.env) (some (assign (.Name y py) X.env))) _ _ s
  have h : tDc wi g tt tk tv (own.map (·.2)) σ H (fun x H1 => gName i x σ H1 D.nx) := h
  refine wpAny_bind (thn (L2.dc_core (Qf := fun _ s' => SP X pins D .next s') hc hN I hi ok hg ht hk he hs h fun L C s' m H' I' q hn f => ?_) fun _ s' hq => wpAny_pure (wpAny_pure hq))
  show wpAny _ _ (assign (.Name y py) X.env (.ref L)) _ _ _
  refine wpAny_assign_Name (store_ok2 (v := V.ref L) I' hN hy (.inl hyl) rfl (fun s2 I2 ⟨a, sb, ha⟩ => ?_) (.inr hyl))
  obtain ⟨f0, f1, f2, f3, f4, f5⟩ := f
  have haC : C ≠ a := by
    rcases ha with z | z
    · rw [z]; exact f1
    · exact fun e => f4 y a z e.symm
  refine ⟨m, hn.sameBut sb haC, fun h3 sb3 => ?_⟩
  exact ⟨_, H', I2.turned (t' := s2.toks) (fun b o hb e => (sb3.2 b hb).trans e) f0 f1 f3 f4 f5, q⟩
/-- it goes through names that are all unlike, and makes for each a thing -/
theorem dcK_names {K : PySem.W.Frag} {R : Hp → V → Str → Prop} (st : ∀ H H' y n, Same H H' → R H y n → R H' y n) (sd : ∀ H D kvs ks y n, H D = some (.dK kvs) → R H y n → R (upd H D (.dK ks)) y n)
    {a : Addr} {ns : List Str} (nd : ns.Nodup) (few : ns.length ≤ 100000) {g : TG} {tt : TT} {tk tv : TE} {vs : List Nat} {σ : L2.St} {H1 : Hp} {D : Addr} {Qd : Hp → Prop} (ha : H1 a = some (.tup (ns.map V.str))) (hD : H1 D = none)
    (hs : ∀ (i : Nat) (n : Str) (H : Hp) (Nx : Hp → Prop), ns[i]? = some n → Same H1 H → (∀ z H5, Same H H5 → R H5 z n → ∃ kvs k, V.str n = kV k ∧ H5 D = some (.dK kvs) ∧ kvs.length < sizeLine ∧ Nx (upd H5 D (.dK (putK kvs k z)))) →
      g (.str n) (wipe σ vs) H fun σ2 H2 => wipe σ2 vs = wipe σ vs ∧ tt σ2 H2 fun b H3 => if b = true then tk σ2 H3 fun y H4 => tv σ2 H4 fun z H5 => ∃ kvs k, y = kV k ∧ H5 D = some (.dK kvs) ∧ kvs.length < sizeLine ∧ Nx (upd H5 D (.dK (putK kvs k z))) else Nx H3)
    (hd : ∀ H, Same H1 H → NdAt R H D ns → Qd H) :
    ∃ W : Nat → Nat → Hp → Prop, (∃ m, W 0 m (upd H1 D (.dK []))) ∧ ∀ i m H, W i m H →
      ((Itt K a).stop i H ∧ Qd H) ∨ ((Itt K a).go i H ∧ ∃ Nx : Hp → Prop, (∀ H', Nx H' → ∃ m', m' < m ∧ W (i + 1) m' H') ∧ ∀ x H', (Itt K a).yld i H x H' → g x (wipe σ vs) H' fun σ2 H2 => wipe σ2 vs = wipe σ vs ∧ tt σ2 H2 fun b H3 =>
        if b = true then tk σ2 H3 fun y H4 => tv σ2 H4 fun z H5 => ∃ kvs k, y = kV k ∧ H5 D = some (.dK kvs) ∧ kvs.length < sizeLine ∧ Nx (upd H5 D (.dK (putK kvs k z))) else Nx H3) := by
  have big : (100000 : Nat) < sizeLine := by decide
  refine dc_tup (K := K) (xs := ns.map V.str) (fun i H => Same H1 H ∧ ∃ kvs : List (Key × V), H D = some (.dK kvs) ∧ kvs.map (·.1) = (ns.take i).map Sum.inr ∧ ∀ n ∈ ns.take i, ∃ y, valV kvs (.inr n) = some y ∧ R H y n) ⟨same_new hD, [], upd_same, rfl, fun n hn => absurd hn (List.not_mem_nil)⟩ (fun i H _ p => SqT.of (p.1 _ _ ha)) ?_ ?_
  · rintro i x H hx ⟨sm, kvs, hkD, hk, hv⟩
    rw [List.getElem?_map] at hx
    cases hn : ns[i]? with
    | none => rw [hn] at hx; cases hx
    | some n =>
      rw [hn] at hx
      cases hx
      have nin : n ∉ ns.take i := fun m => by
        have nd2 := nd
        rw [← List.take_append_drop i ns] at nd2
        have hd : n ∈ ns.drop i := by
          obtain ⟨hlt, hv⟩ := List.getElem?_eq_some_iff.mp hn
          rw [List.drop_eq_getElem_cons hlt, hv]
          exact List.mem_cons_self
        exact (List.nodup_append.mp nd2).2.2 n m n hd rfl
      have lkv : kvs.length ≤ ns.length := by
        have e := congrArg List.length hk
        rw [List.length_map, List.length_map, List.length_take] at e
        omega
      refine hs i n H _ hn sm fun z H5 g5 r => ⟨kvs, .inr n, rfl, g5 _ _ hkD, by omega, same_mut (sm.trans g5) hD, putK kvs (.inr n) z, upd_same, ?_, fun m hm => ?_⟩
      · rw [put_new (fun z => by
          rw [hk] at z
          obtain ⟨m, hm, e⟩ := List.mem_map.mp z
          cases e
          exact nin hm), hk, take_one hn, List.map_append]
        rfl
      · rw [valV_put]
        by_cases c : m = n
        · subst c
          rw [if_pos rfl]
          exact ⟨z, rfl, sd _ _ _ _ _ _ (g5 _ _ hkD) r⟩
        · rw [if_neg (fun e => c (Sum.inr.inj e))]
          rw [take_one hn, List.mem_append, List.mem_singleton] at hm
          obtain ⟨y, e1, e2⟩ := hv m (hm.resolve_right c)
          exact ⟨y, e1, sd _ _ _ _ _ _ (g5 _ _ hkD) (st _ _ _ _ g5 e2)⟩
  · rintro H ⟨sm, kvs, hkD, hk, hv⟩
    rw [List.length_map, List.take_length] at hk hv
    exact hd H sm ⟨kvs, hkD, hk, hv⟩
/-- xs[i] of a list or a tuple -/
def rIxA (K : PySem.W.Frag) : R2 := fun x y H Q => rIxL K x y H Q ∨ rIxT K x y H Q
theorem ix_any : IxR X (rIxA X.K) := by
  intro value slice pins s σ H x y v u Q I rx ry h hs
  rcases h with h | h
  · exact ix_list value slice pins s σ H x y v u Q I rx ry h hs
  · exact ix_tup value slice pins s σ H x y v u Q I rx ry h hs
end Nm
namespace Nm
open PySem PySem.Spec PyProof.Rows L2 RZ
/-! ### zip of a tuple and a list -/
def ItzM (K : PySem.W.Frag) (a b : Addr) : It :=
  ⟨fun i H => ∃ (xs ys : List V) (x y : V), SqT K H a xs ∧ SqL K H b ys ∧ xs[i]? = some x ∧ ys[i]? = some y,
    fun i H v H' => ∃ T x y, v = .ref T ∧ H T = none ∧ H' = upd H T (.tup [x, y]) ∧ (∀ xs, SqT K H a xs → xs[i]? = some x) ∧ ∀ ys, SqL K H b ys → ys[i]? = some y,
    fun i H => ∃ xs ys : List V, SqT K H a xs ∧ SqL K H b ys ∧ i ≤ xs.length ∧ i ≤ ys.length ∧ (i = xs.length ∨ i = ys.length)⟩
theorem apart_sep {z TI TO i1 i2 a b : Addr} (D : ZipApart z TI TO i1 i2 a b) : ZipSep2 z TI TO i1 i2 [i1, a] [i2, b] := by
  have nm : ∀ {x c d : Addr}, x ≠ c → x ≠ d → x ∉ [c, d] := fun h1 h2 m => by
    rcases (show _ = _ ∨ _ = _ by simpa using m) with q | q
    · exact h1 q
    · exact h2 q
  exact ⟨D.TIz, D.TOz, D.TITO, D.TIi1, by simp, nm (Ne.symm D.i1z) (Ne.symm D.l1z), nm D.TOi1 (Ne.symm D.l1TO), D.TIi2, by simp, nm (Ne.symm D.i2z) (Ne.symm D.l2z), nm D.TOi2 (Ne.symm D.l2TO), nm D.i12 (Ne.symm D.l2i1), nm (Ne.symm D.i12) (Ne.symm D.l1i2)⟩
theorem turn_zipM {P : Program} {w : World} {K : PySem.W.Frag} {elts : List Expr} {kk : Nat} {tpos : Pos} {a b z TI TO i1 i2 : Addr} (D : ZipApart z TI TO i1 i2 a b) :
    Turn P w K (.Tuple elts kk tpos) (ItzM K a b) [z, TI, TO, i1, i2] z (fun i h => IsZip h z TI TO .none ∧ IsPair h TI (.ref i1) (.ref i2) ∧ (∃ x y, IsPair h TO x y) ∧ h.IsTupleIter i1 a i ∧ h.IsListIter i2 b i) where
  mem := by simp
  obj := fun i h st c hc => by
    obtain ⟨hz, hTI, ⟨x, y, hTO⟩, ⟨o1, e1, _, d1⟩, ⟨o2, e2, _, d2⟩⟩ := st
    have e' : c = z ∨ c = TI ∨ c = TO ∨ c = i1 ∨ c = i2 := by simpa using hc
    rcases e' with q | q | q | q | q
    · rw [q]; exact ⟨_, hz, fun v q => nomatch q⟩
    · rw [q]; exact ⟨_, hTI, fun v q => nomatch q⟩
    · rw [q]; exact ⟨_, hTO, fun v q => nomatch q⟩
    · rw [q]; exact ⟨o1, e1, fun v q => by rw [d1] at q; cases q⟩
    · rw [q]; exact ⟨o2, e2, fun v q => by rw [d2] at q; cases q⟩
  keep := fun i h h' st k => by
    obtain ⟨hz, hTI, ⟨x, y, hTO⟩, h1, h2⟩ := st
    exact ⟨k z (by simp) _ hz, k TI (by simp) _ hTI, ⟨x, y, k TO (by simp) _ hTO⟩, h1.at fun o q => k i1 (by simp) o q, h2.at fun o q => k i2 (by simp) o q⟩
  item := by
    intro X hP hw hK hc i pins s σ H E I hf st hg
    subst hP hw hK
    obtain ⟨hz, hTI, ⟨x0, y0, hTO⟩, h1, h2⟩ := st
    obtain ⟨xs, ys, x, y, hqx, hqy, hx, hy⟩ := hg
    obtain ⟨its, rv, p, _⟩ := I.tuple hqx
    obtain ⟨its2, rv2, p2, _⟩ := I.list hqy
    obtain ⟨u, hu, ru⟩ := rv.get hx
    obtain ⟨u2, hu2, ru2⟩ := rv2.get hy
    have hzl : z < s.heap.objs.size := Heap.lt_size hz
    have n1 : a ≠ i1 := D.l1i1
    have n2 : b ≠ i2 := D.l2i2
    refine wpAny_pyNext_zipD2_item (apart_sep D) (Draws.tuple (A := X.A.in1) (I.ok.hd hc) i1 a n1 its.toArray) (Draws.list (A := X.A.in1) (I.ok.hd hc) i2 b n2 its2.toArray) hz hTI hTO ⟨h1, p⟩ ⟨h2, p2.isList⟩ (by have := (List.getElem?_eq_some_iff.mp hu).1; simpa using this) (by have := (List.getElem?_eq_some_iff.mp hu2).1; simpa using this) fun y1 y2 h' tk q1 q2 z' TO' st1 st2 hT hsz hk => ?_
    have ey1 : y1 = u := by
      rw [show its.toArray[i]? = some u by simpa using hu] at q1
      exact (Option.some.inj q1).symm
    have ey2 : y2 = u2 := by
      rw [show its2.toArray[i]? = some u2 by simpa using hu2] at q2
      exact (Option.some.inj q2).symm
    subst ey1 ey2
    refine ⟨_, rfl, wpAny_letOwnedTupleGo_zip (s := { s with heap := h', toks := tk }) z' fun h'' z'' sb => ?_⟩
    have hT2 : h''.get? s.heap.objs.size = some { cls := .type "tuple", data := .seq #[y1, y2] } := (sb.2 _ (Nat.ne_of_gt hzl)).trans hT
    have new : ObjOk X.prog X.w (upd H s.heap.objs.size (.tup [x, y])) h'' s.heap.objs.size (.tup [x, y]) :=
      ⟨by show 2 ≤ sizeLine; decide, [y1, y2], .cons ru (.cons ru2 .nil), ⟨_, hT2, rfl, _, rfl⟩⟩
    have I1 : Inv X pins σ (upd H s.heap.objs.size (.tup [x, y])) { s with heap := h'', toks := tk } :=
      I.turnedNew (ch := [z, TI, TO, i1, i2]) (fun c o hb q => (sb.2 c (fun q' => hb (by simp [q']))).trans (hk c o (fun q' => hb (by simp [q'])) (fun q' => hb (by simp [q'])) (fun q' => hb (by simp [q'])) (fun q' => hb (by simp [q'])) q)) hf (Nat.le_refl _) new
    refine ⟨.ref s.heap.objs.size, _, I1, rfl, ⟨_, x, y, rfl, I.hok.fresh (Nat.le_refl _), rfl, fun l hl => by rw [I.tuple_inj hl hqx]; exact hx, fun l hl => by rw [I.list_inj hl hqy]; exact hy⟩, ⟨z'', ?_, ⟨y1, y2, ?_⟩, ?_, ?_⟩, fun c hcm => ?_⟩
    · exact (sb.2 _ D.TIz).trans (hk _ _ D.TIz D.TITO D.TIi1 D.TIi2 hTI)
    · exact (sb.2 _ D.TOz).trans TO'
    · exact st1.1.at fun o q => (sb.2 _ D.i1z).trans q
    · exact st2.1.at fun o q => (sb.2 _ D.i2z).trans q
    · have hlt : c < s.heap.objs.size := by
        have e' : c = z ∨ c = TI ∨ c = TO ∨ c = i1 ∨ c = i2 := by simpa using hcm
        rcases e' with q | q | q | q | q
        · rw [q]; exact hzl
        · rw [q]; exact Heap.lt_size hTI
        · rw [q]; exact Heap.lt_size hTO
        · rw [q]; obtain ⟨_, e1, _⟩ := h1; exact Heap.lt_size e1
        · rw [q]; obtain ⟨_, e2, _⟩ := h2; exact Heap.lt_size e2
      rw [upd_ne (Nat.ne_of_lt hlt)]
      exact (hf c hcm).1
  done := by
    intro X hP hw hK hc i pins s σ H E I hf st hg
    subst hP hw hK
    obtain ⟨hz, hTI, ⟨x0, y0, hTO⟩, h1, h2⟩ := st
    obtain ⟨xs, ys, hqx, hqy, le1, le2, hend⟩ := hg
    obtain ⟨its, rv, p, _⟩ := I.tuple hqx
    obtain ⟨its2, rv2, p2, _⟩ := I.list hqy
    have l1 := rv.length
    have l2 := rv2.length
    have n1 : a ≠ i1 := D.l1i1
    have n2 : b ≠ i2 := D.l2i2
    refine wpAny_pyNext_zipD2_end (apart_sep D) (Draws.tuple (A := X.A.in1) (I.ok.hd hc) i1 a n1 its.toArray) (Draws.list (A := X.A.in1) (I.ok.hd hc) i2 b n2 its2.toArray) hz hTI hTO ⟨h1, p⟩ ⟨h2, p2.isList⟩ (by simp; omega) (by simp; omega) (hend.elim (fun q => .inl (by simp; omega)) fun q => .inr (by simp; omega)) fun h' tk hk => ⟨rfl, I.turnedL (ch := [z, TI, TO, i1, i2]) (fun c o hb q =>
      hk c o (fun q' => hb (by simp [q'])) (fun q' => hb (by simp [q'])) (fun q' => hb (by simp [q'])) (fun q' => hb (by simp [q'])) q) hf⟩
  self := fun A i s Q E st h => wpAny_pyIter_zip st.1 h
def iZipM (K : PySem.W.Frag) (ta : TA) : TI := fun σ H R => ta σ H fun vs H1 => ∃ a b xs ys, vs = [.ref a, .ref b] ∧ SqT K H1 a xs ∧ SqL K H1 b ys ∧ R (ItzM K a b) H1
theorem pi_zipM {X : Cx} {e e2 : Expr} {ta : TA} {p pos tpos : Pos} {elts : List Expr} {kk : Nat} (hg : Gl X "zip") (hm : X.mg "zip" = none) (ha : PA X [e, e2] ta)
    (hs : starEach [e, e2] X.env = (false, eval e X.env) :: starEach [e2] X.env := by rfl) (hpl : (backTo pos (starEach [e2] X.env)).any (·.1) = false := by rfl) :
    PI X (.Tuple elts kk tpos) (.Call (.Name "zip" p) [e, e2] [] pos) (iZipM X.K ta) := by
  refine ⟨fun pins s σ H R I h => ?_⟩
  refine Call_ (ld_blt I hg hm PyProof.Rows.boot_zip (PyProof.Rows.callWith_type1 (thn (ha.run pos pins s σ H _ I h) fun us s1 ⟨vs, H1, I1, r1, q1⟩ => ?_) hs hpl))
  obtain ⟨a, b, xs, ys, ex, hqx, hqy, q⟩ := q1
  subst ex
  cases r1 with
  | cons r rr =>
    cases rr with
    | cons r' rr =>
      cases rr
      cases r
      cases r'
      have fresh5 : ∀ c, c ∈ [s1.heap.objs.size + 4, s1.heap.objs.size + 2, s1.heap.objs.size + 3, s1.heap.objs.size, s1.heap.objs.size + 1] → FpOk X pins H1 c := fun c hcm => by
        have e' : c = s1.heap.objs.size + 4 ∨ c = s1.heap.objs.size + 2 ∨ c = s1.heap.objs.size + 3 ∨ c = s1.heap.objs.size ∨ c = s1.heap.objs.size + 1 := by simpa using hcm
        have hle : s1.heap.objs.size ≤ c := by
          rcases e' with z | z | z | z | z
          · rw [z]; exact Nat.le_add_right _ _
          · rw [z]; exact Nat.le_add_right _ _
          · rw [z]; exact Nat.le_add_right _ _
          · rw [z]; exact Nat.le_refl _
          · rw [z]; exact Nat.le_add_right _ _
        exact I1.fpOk hle (I1.hok.fresh hle)
      obtain ⟨its, rv, p1, _⟩ := I1.tuple hqx
      obtain ⟨its2, rv2, p2, _⟩ := I1.list hqy
      obtain ⟨o1, ho1, _⟩ := id p1
      refine zip_begins2 (begins_tuple a its.toArray) (begins_list b its2.toArray) p1 p2.isList fun h' hz hTI hTO h1 h2 hsz hk => wpAny_pyIter_zip hz ?_
      have I2 : Inv X pins σ H1 { s1 with heap := h' } := I1.kept (t' := s1.toks) hk
      exact ⟨s1.heap.objs.size + 4, [s1.heap.objs.size + 4, s1.heap.objs.size + 2, s1.heap.objs.size + 3, s1.heap.objs.size, s1.heap.objs.size + 1], _, _, H1, rfl, I2, turn_zipM (PySem.W.ktu_apart s1.heap.objs.size a b (Heap.lt_size ho1) p2.lt), ⟨hz, hTI, ⟨_, _, hTO⟩, ⟨_, h1, rfl, rfl⟩, ⟨_, h2, rfl, rfl⟩⟩, fresh5, q⟩
theorem walk_zipM {K : PySem.W.Frag} {a b : Addr} {xs ys : List V} {n : Nat} (hn : n = xs.length) (hl : xs.length = ys.length) : Walk (ItzM K a b) n (fun H => SqT K H a xs ∧ SqL K H b ys) (YPair (fun i => xs[i]?) (fun i => ys[i]?)) := by
  subst hn
  refine ⟨fun i _ hi q => ?_, fun _ q => ⟨xs, ys, q.1, q.2, Nat.le_refl _, by omega, .inl rfl⟩, fun i H v H' _ q y => ?_⟩
  · have h1 : i < xs.length := by omega
    have h2 : i < ys.length := by omega
    exact ⟨xs, ys, xs[i], ys[i], q.1, q.2, by simp [h1], by simp [h2]⟩
  · obtain ⟨T, x, z, h1, h2, h3, h4, h5⟩ := y
    exact ⟨T, x, z, h1, h2, h3, h4 xs q.1, h5 ys q.2⟩
end Nm
/-! what is shown of games -/
namespace Nm
open PySem PySem.Spec PyProof.Rows L2 NmD
variable {K : PySem.W.Frag} {H : Hp}
theorem sh_strs : ∀ ws : List Str, ShAll K H (ws.map V.str) (rowL ws)
  | [] => .nil
  | _ :: ws => .cons (.str _) (sh_strs ws)
theorem sh_row {a : Addr} {ws : List Str} (h : H a = some (.tup (ws.map V.str))) : Sh K H (.ref a) (rowD ws) := .tup (SqT.of h) (sh_strs ws)
theorem sh_rows : ∀ {xs : List V} {rs : List (List Str)}, Paired (RwAt H) xs rs → ShAll K H xs (rs.map rowD)
  | _, _, .nil => .nil
  | _, _, .cons ⟨r, e, h⟩ t => by
    subst e
    exact .cons (sh_row h) (sh_rows t)
theorem sh_game {a : Addr} {rs : List (List Str)} (h : GmAt H a rs) : Sh K H (.ref a) (gameD rs) := by
  obtain ⟨xs, h1, h2⟩ := h
  exact .tup (SqT.of h1) (sh_rows h2)
abbrev gsKv (ys : List Str) (g : Str → List (List Str)) : List (PyData × PyData) := ys.map fun n => (.str n, gameD (g n))
abbrev gsD (ys : List Str) (g : Str → List (List Str)) : PyData := .dict (gsKv ys g)
theorem sh_kv {g : Str → List (List Str)} : ∀ (ys : List Str) (kvs : List (Key × V)), kvs.map (·.1) = ys.map Sum.inr → ys.Nodup → (∀ n ∈ ys, ∃ y, valV kvs (.inr n) = some y ∧ GnAt g H y n) → ShKv K H kvs (gsKv ys g)
  | [], [], _, _, _ => .nil
  | [], _ :: _, h, _, _ => by cases h
  | _ :: _, [], h, _, _ => by cases h
  | n :: ys, (k, v) :: kvs, h, nd, hv => by
    rw [List.map_cons, List.map_cons] at h
    injection h with h1 h2
    have h1 : k = .inr n := h1
    subst h1
    obtain ⟨nn, nd2⟩ := List.nodup_cons.mp nd
    obtain ⟨y, ey, a, rfl, gm⟩ := hv n List.mem_cons_self
    have ev : valV ((Sum.inr n, v) :: kvs) (Sum.inr n : Key) = some v := by
      unfold valV
      rw [List.find?_cons, decide_eq_true (show (Sum.inr n, v).1 = (Sum.inr n : Key) from rfl)]
      rfl
    rw [ev] at ey
    cases ey
    refine .cons (sh_game gm) (sh_kv ys kvs h2 nd2 fun m hm => ?_)
    obtain ⟨y, ey, r⟩ := hv m (List.mem_cons_of_mem _ hm)
    refine ⟨y, ?_, r⟩
    unfold valV at ey ⊢
    rw [List.find?_cons, decide_eq_false (show ¬ (Sum.inr n, V.ref a).1 = (Sum.inr m : Key) from fun e => nn (by rw [Sum.inr.inj e]; exact hm))] at ey
    exact ey
theorem sh_games {D : Addr} {ys : List Str} {g : Str → List (List Str)} (h : GsAt H D ys g) (nd : ys.Nodup) : Sh K H (.ref D) (gsD ys g) := by
  obtain ⟨kvs, h1, h2, h3⟩ := h
  exact .dct h1 (sh_kv ys kvs h2 nd h3)
theorem show_strs : ∀ ws : List Str, PyData.showableAll (rowL ws) = true
  | [] => by simp [PyData.showableAll]
  | w :: ws => by rw [rowL, List.map_cons, PyData.showableAll, show_strs ws, PyData.showable]; rfl
theorem show_rows : ∀ rs : List (List Str), PyData.showableAll (rs.map rowD) = true
  | [] => by simp [PyData.showableAll]
  | r :: rs => by rw [List.map_cons, PyData.showableAll, show_rows rs, PyData.showable, show_strs]; rfl
theorem show_games (ys : List Str) (g : Str → List (List Str)) : (gsD ys g).showable = true := by
  rw [PyData.showable]
  induction ys with
  | nil => simp [gsKv, PyData.showableKv]
  | cons n ys ih => rw [gsKv, List.map_cons, PyData.showableKv, PyData.showable, PyData.showable, show_rows, Bool.true_and, Bool.true_and]; exact ih
theorem w_strs : ∀ ws : List Str, (∀ z ∈ ws, z.length ≤ 20) → PyData.weightAll (rowL ws) ≤ 21 * ws.length
  | [], _ => by simp [PyData.weightAll]
  | w :: ws, h => by
    have h1 := w_strs ws fun z hz => h z (List.mem_cons_of_mem _ hz)
    have h2 : w.cps.size ≤ 20 := h w List.mem_cons_self
    rw [rowL, List.map_cons, PyData.weightAll, PyData.weight, List.length_cons]
    have h1 : PyData.weightAll (ws.map PyData.str) ≤ 21 * ws.length := h1
    omega
theorem len_of_let {z : Str} {m : Int} (h : letB z m = true) : (z.length : Int) ≤ m := by
  unfold letB at h
  rw [Bool.and_eq_true, Bool.and_eq_true] at h
  exact of_decide_eq_true h.1.2
theorem w_rows : ∀ rs : List (List Str), (∀ r ∈ rs, rwOk r) → PyData.weightAll (rs.map rowD) ≤ 1261 * rs.length
  | [], _ => by simp [PyData.weightAll]
  | r :: rs, h => by
    have h1 := w_rows rs fun z hz => h z (List.mem_cons_of_mem _ hz)
    have ok := h r List.mem_cons_self
    have h2 := w_strs r fun z hz => by have := len_of_let (ok.2 z hz).1; omega
    have h3 := ok.1
    rw [List.map_cons, PyData.weightAll, PyData.weight, List.length_cons]
    omega
theorem w_games {g : Str → List (List Str)} : ∀ ys : List Str, (∀ n ∈ ys, n.length ≤ 20 ∧ (∀ r ∈ g n, rwOk r) ∧ (g n).length < 64) → PyData.weightKv (gsKv ys g) ≤ 80000 * ys.length
  | [], _ => by simp [PyData.weightKv]
  | n :: ys, h => by
    have h1 := w_games ys fun m hm => h m (List.mem_cons_of_mem _ hm)
    obtain ⟨l, ok, few⟩ := h n List.mem_cons_self
    have h2 := w_rows (g n) ok
    have l : n.cps.size ≤ 20 := l
    rw [gsKv, List.map_cons, PyData.weightKv, PyData.weight, PyData.weight, List.length_cons]
    have h1 : PyData.weightKv (ys.map fun n => (PyData.str n, gameD (g n))) ≤ 80000 * ys.length := h1
    omega
theorem ints_rows : ∀ rs : List (List Str), PyData.intsShortAll 13 (rs.map rowD) = true
  | [] => by simp [PyData.intsShortAll]
  | r :: rs => by rw [List.map_cons, PyData.intsShortAll, ints_rows rs, PyData.intsShort, PyData.intsShortAll_strs]; rfl
theorem leaves_games {g : Str → List (List Str)} : ∀ ys : List Str, (∀ n ∈ ys, PyData.canLay0 (.str n) = true ∧ (∀ r ∈ g n, ∀ z ∈ r, wordOk z)) → PyData.leavesShortKv 13 (gsKv ys g) = true
  | [], _ => by simp [PyData.leavesShortKv]
  | n :: ys, h => by
    have h1 := leaves_games ys fun m hm => h m (List.mem_cons_of_mem _ hm)
    obtain ⟨l, ok⟩ := h n List.mem_cons_self
    have e1 : PyData.leavesShort 13 (.str n) = true := PyData.leavesShort_of_canLay0 13 _ l (by rw [PyData.intsShort])
    have e2 : PyData.leavesShort 13 (gameD (g n)) = true := PyData.leavesShort_of_canLay0 13 _ (by rw [PyData.canLay0]; exact (lay_rows _ ok).1) (by rw [PyData.intsShort]; exact ints_rows _)
    rw [gsKv, List.map_cons, PyData.leavesShortKv, e1, e2, Bool.true_and, Bool.true_and]
    exact h1
theorem depth_games {g : Str → List (List Str)} : ∀ ys : List Str, (∀ n ∈ ys, ∀ r ∈ g n, ∀ z ∈ r, wordOk z) → PyData.depthKv (gsKv ys g) ≤ 2
  | [], _ => by simp [PyData.depthKv]
  | n :: ys, h => by
    have h1 := depth_games ys fun m hm => h m (List.mem_cons_of_mem _ hm)
    have h2 := (lay_rows _ (h n List.mem_cons_self)).2
    rw [gsKv, List.map_cons, PyData.depthKv, PyData.depth, PyData.depth]
    have h1 : PyData.depthKv (ys.map fun n => (PyData.str n, gameD (g n))) ≤ 2 := h1
    omega
/-- games of few names can be shown -/
theorem shown_games {ys : List Str} {g : Str → List (List Str)} (few : ys.length ≤ 12) (hn : ∀ n ∈ ys, letB n 20 = true) (hg : ∀ n ∈ ys, (∀ r ∈ g n, rwOk r) ∧ (g n).length < 64) : (gsD ys g).shown.length ≤ sizeLine ∧ (gsD ys g).depth ≤ 40 := by
  have w := w_games (g := g) ys fun n hn' => ⟨by have := len_of_let (hn n hn'); omega, hg n hn'⟩
  refine ⟨PyData.shown_fits (B := 13) (by decide) (by decide) ?_ ?_, ?_⟩
  · rw [PyData.leavesShort]
    exact leaves_games ys fun n hn' => ⟨lay_let (hn n hn'), fun r hr => ((hg n hn').1 r hr).2⟩
  · rw [PyData.weight]
    have : (80000 : Nat) * 12 ≤ 2 ^ 20 := by decide
    omega
  · rw [PyData.depth]
    have := depth_games (g := g) ys fun n hn' r hr => ((hg n hn').1 r hr).2
    omega
end Nm
namespace K06
open PySem L2
def top (i : Nat) : Stmt := PySem.Challenge.pw_untoldgames_k06_whole_what_a_knowing_gue.main.body.getD i (.Pass ⟨0, 0, 0, 0⟩)
abbrev s_is_integer : Stmt := top 11
abbrev s_is_within : Stmt := top 12
abbrev s_is_side : Stmt := top 13
abbrev s_is_lettered : Stmt := top 14
abbrev s_is_word : Stmt := top 15
abbrev s_is_words : Stmt := top 17
abbrev s_is_name : Stmt := top 16
abbrev s_is_board : Stmt := top 31
abbrev s_names_of : Stmt := top 32
abbrev s_Hall___init__ : Stmt := inClass (top 33) 0
abbrev s__law_tape : Stmt := top 51
abbrev s__law_pick : Stmt := top 52
abbrev s_is_row : Stmt := top 18
abbrev s_is_ascending : Stmt := top 19
abbrev s_is_game : Stmt := top 22
abbrev s_check_game : Stmt := top 23
abbrev s_check_place : Stmt := top 24
abbrev s_let_words : Stmt := top 25
abbrev s_beginnings : Stmt := top 26
abbrev s_game_of : Stmt := top 27
abbrev s__law_words : Stmt := top 57
abbrev s_next_rows : Stmt := top 42
abbrev s_solved : Stmt := top 43
abbrev s_good_words : Stmt := top 44
abbrev s__law_results : Stmt := top 58
abbrev s__law_some : Stmt := top 54
abbrev s__law_word : Stmt := top 55
abbrev s__law_line : Stmt := top 59
abbrev s__law_game : Stmt := top 56
abbrev s__law_boards : Stmt := top 60
abbrev s_least_games : Stmt := top 36
abbrev s__law_games_for : Stmt := top 62
abbrev s_are_games : Stmt := top 34
abbrev s_check_games : Stmt := top 35
abbrev s_begun_rows : Stmt := top 39
abbrev s_is_turn : Stmt := top 38
abbrev s_best_at : Stmt := top 46
abbrev s_told_won : Stmt := top 47
abbrev s_are_rows : Stmt := top 40
abbrev s_told_move : Stmt := top 48
abbrev s_told_answer : Stmt := top 49
abbrev s__law_shuffled : Stmt := top 61
abbrev s__law_good : Stmt := top 63
abbrev s__law_due_move : Stmt := top 64
abbrev s__law_is : Stmt := top 53
abbrev s_law : Stmt := top 65
theorem sc_is_integer : FnScope ["thing"] ["thing"] (defScope s_is_integer) := ⟨rfl, rfl, rfl, by decide +kernel, rfl, by decide +kernel, by decide +kernel⟩
theorem sc_is_within : FnScope ["thing", "low", "high"] ["thing", "low", "high"] (defScope s_is_within) := ⟨rfl, rfl, rfl, by decide +kernel, rfl, by decide +kernel, by decide +kernel⟩
theorem sc_is_side : FnScope ["thing"] ["thing"] (defScope s_is_side) := ⟨rfl, rfl, rfl, by decide +kernel, rfl, by decide +kernel, by decide +kernel⟩
theorem sc_is_lettered : FnScope ["thing", "most", "sign"] ["thing", "most"] (defScope s_is_lettered) := ⟨rfl, rfl, rfl, by decide +kernel, rfl, by decide +kernel, by decide +kernel⟩
theorem sc_is_word : FnScope ["thing"] ["thing"] (defScope s_is_word) := ⟨rfl, rfl, rfl, by decide +kernel, rfl, by decide +kernel, by decide +kernel⟩
theorem sc_is_words : FnScope ["thing", "most", "word"] ["thing", "most"] (defScope s_is_words) := ⟨rfl, rfl, rfl, by decide +kernel, rfl, by decide +kernel, by decide +kernel⟩
theorem sc_is_name : FnScope ["thing"] ["thing"] (defScope s_is_name) := ⟨rfl, rfl, rfl, by decide +kernel, rfl, by decide +kernel, by decide +kernel⟩
theorem sc_is_board : FnScope ["thing", "name", "side", "begun"] ["thing"] (defScope s_is_board) := ⟨rfl, rfl, rfl, by decide +kernel, rfl, by decide +kernel, by decide +kernel⟩
theorem sc_names_of : FnScope ["boards", "board"] ["boards"] (defScope s_names_of) := ⟨rfl, rfl, rfl, by decide +kernel, rfl, by decide +kernel, by decide +kernel⟩
theorem sc_Hall___init__ : FnScope ["self", "boards", "at", "board"] ["self", "boards"] (defScope s_Hall___init__) := ⟨rfl, rfl, rfl, by decide +kernel, rfl, by decide +kernel, by decide +kernel⟩
theorem sc__law_tape : FnScope ["script"] ["script"] (defScope s__law_tape) := ⟨rfl, rfl, rfl, by decide +kernel, rfl, by decide +kernel, by decide +kernel⟩
theorem sc__law_pick : FnScope ["tape", "size", "digit", "cell", "mixed"] ["tape", "size"] (defScope s__law_pick) := ⟨rfl, rfl, rfl, by decide +kernel, rfl, by decide +kernel, by decide +kernel⟩
theorem sc_is_row : FnScope ["thing"] ["thing"] (defScope s_is_row) := ⟨rfl, rfl, rfl, by decide +kernel, rfl, by decide +kernel, by decide +kernel⟩
theorem sc_is_ascending : FnScope ["things", "one", "other"] ["things"] (defScope s_is_ascending) := ⟨rfl, rfl, rfl, by decide +kernel, rfl, by decide +kernel, by decide +kernel⟩
theorem sc_is_game : FnScope ["thing", "rows", "row"] ["thing"] (defScope s_is_game) := ⟨rfl, rfl, rfl, by decide +kernel, rfl, by decide +kernel, by decide +kernel⟩
theorem sc_check_game : FnScope ["game"] ["game"] (defScope s_check_game) := ⟨rfl, rfl, rfl, by decide +kernel, rfl, by decide +kernel, by decide +kernel⟩
theorem sc_check_place : FnScope ["game", "row"] ["game", "row"] (defScope s_check_place) := ⟨rfl, rfl, rfl, by decide +kernel, rfl, by decide +kernel, by decide +kernel⟩
theorem sc_let_words : FnScope ["game", "row", "longer"] ["game", "row"] (defScope s_let_words) := ⟨rfl, rfl, rfl, by decide +kernel, rfl, by decide +kernel, by decide +kernel⟩
theorem sc_beginnings : FnScope ["rows", "found", "row", "end"] ["rows"] (defScope s_beginnings) := ⟨rfl, rfl, rfl, by decide +kernel, rfl, by decide +kernel, by decide +kernel⟩
theorem sc_game_of : FnScope ["rows", "game", "row"] ["rows"] (defScope s_game_of) := ⟨rfl, rfl, rfl, by decide +kernel, rfl, by decide +kernel, by decide +kernel⟩
theorem sc__law_words : FnScope ["game", "row", "other"] ["game", "row"] (defScope s__law_words) := ⟨rfl, rfl, rfl, by decide +kernel, rfl, by decide +kernel, by decide +kernel⟩
theorem sc_next_rows : FnScope ["game", "found", "row"] ["game"] (defScope s_next_rows) := ⟨rfl, rfl, rfl, by decide +kernel, rfl, by decide +kernel, by decide +kernel⟩
theorem sc_solved : FnScope ["game", "after", "verdicts", "row", "told", "winning", "longer", "other_wins", "left", "_"] ["game"] (defScope s_solved) := ⟨rfl, rfl, rfl, by decide +kernel, rfl, by decide +kernel, by decide +kernel⟩
theorem sc_good_words : FnScope ["game", "row", "verdicts", "longer"] ["game", "row"] (defScope s_good_words) := ⟨rfl, rfl, rfl, by decide +kernel, rfl, by decide +kernel, by decide +kernel⟩
theorem sc__law_results : FnScope ["game", "found", "size", "row", "side", "later", "good", "one", "word", "told"] ["game"] (defScope s__law_results) := ⟨rfl, rfl, rfl, by decide +kernel, rfl, by decide +kernel, by decide +kernel⟩
theorem sc__law_some : FnScope ["tape", "things"] ["tape", "things"] (defScope s__law_some) := ⟨rfl, rfl, rfl, by decide +kernel, rfl, by decide +kernel, by decide +kernel⟩
theorem sc__law_word : FnScope ["tape", "few"] ["tape"] (defScope s__law_word) := ⟨rfl, rfl, rfl, by decide +kernel, rfl, by decide +kernel, by decide +kernel⟩
theorem sc__law_line : FnScope ["tape", "many", "k"] ["tape", "many"] (defScope s__law_line) := ⟨rfl, rfl, rfl, by decide +kernel, rfl, by decide +kernel, by decide +kernel⟩
theorem sc__law_game : FnScope ["tape", "most", "rows", "turn", "row", "longer"] ["tape", "most"] (defScope s__law_game) := ⟨rfl, rfl, rfl, by decide +kernel, rfl, by decide +kernel, by decide +kernel⟩
theorem sc__law_boards : FnScope ["tape", "most", "begun", "many", "names", "line", "other", "found", "k", "row"] ["tape", "most", "begun"] (defScope s__law_boards) := ⟨rfl, rfl, rfl, by decide +kernel, rfl, by decide +kernel, by decide +kernel⟩
theorem sc_least_games : FnScope ["hall", "games", "name", "board"] ["hall"] (defScope s_least_games) := ⟨rfl, rfl, rfl, by decide +kernel, rfl, by decide +kernel, by decide +kernel⟩
theorem sc__law_games_for : FnScope ["tape", "hall", "games", "name"] ["tape", "hall"] (defScope s__law_games_for) := ⟨rfl, rfl, rfl, by decide +kernel, rfl, by decide +kernel, by decide +kernel⟩
theorem sc_are_games : FnScope ["hall", "thing", "name", "_", "begun"] ["hall", "thing"] (defScope s_are_games) := ⟨rfl, rfl, rfl, by decide +kernel, rfl, by decide +kernel, by decide +kernel⟩
theorem sc_check_games : FnScope ["hall", "games"] ["hall", "games"] (defScope s_check_games) := ⟨rfl, rfl, rfl, by decide +kernel, rfl, by decide +kernel, by decide +kernel⟩
theorem sc_begun_rows : FnScope ["hall", "_", "begun"] ["hall"] (defScope s_begun_rows) := ⟨rfl, rfl, rfl, by decide +kernel, rfl, by decide +kernel, by decide +kernel⟩
theorem sc_is_turn : FnScope ["board", "row"] ["board", "row"] (defScope s_is_turn) := ⟨rfl, rfl, rfl, by decide +kernel, rfl, by decide +kernel, by decide +kernel⟩
theorem sc_best_at : FnScope ["hall", "games", "rows", "verdicts", "found", "at", "board", "mover_wins", "_", "name"] ["hall", "games", "rows"] (defScope s_best_at) := ⟨rfl, rfl, rfl, by decide +kernel, rfl, by decide +kernel, by decide +kernel⟩
theorem sc_told_won : FnScope ["hall", "games"] ["hall", "games"] (defScope s_told_won) := ⟨rfl, rfl, rfl, by decide +kernel, rfl, by decide +kernel, by decide +kernel⟩
theorem sc_are_rows : FnScope ["hall", "thing", "row", "begun"] ["hall", "thing"] (defScope s_are_rows) := ⟨rfl, rfl, rfl, by decide +kernel, rfl, by decide +kernel, by decide +kernel⟩
theorem sc_told_move : FnScope ["hall", "games", "rows", "now", "at", "board", "row"] ["hall", "games", "rows"] (defScope s_told_move) := ⟨rfl, rfl, rfl, by decide +kernel, rfl, by decide +kernel, by decide +kernel⟩
theorem sc_told_answer : FnScope ["hall", "games", "board", "row", "name", "words"] ["hall", "games", "board", "row"] (defScope s_told_answer) := ⟨rfl, rfl, rfl, by decide +kernel, rfl, by decide +kernel, by decide +kernel⟩
theorem sc__law_shuffled : FnScope ["tape", "things", "left", "found", "turn"] ["tape", "things"] (defScope s__law_shuffled) := ⟨rfl, rfl, rfl, by decide +kernel, rfl, by decide +kernel, by decide +kernel⟩
theorem sc__law_good : FnScope ["game", "results", "row", "word"] ["game", "results", "row"] (defScope s__law_good) := ⟨rfl, rfl, rfl, by decide +kernel, rfl, by decide +kernel, by decide +kernel⟩
theorem sc__law_due_move : FnScope ["boards", "games", "results", "won", "rows", "board", "name", "side", "begun", "row"] ["boards", "games", "results", "won", "rows"] (defScope s__law_due_move) := ⟨rfl, rfl, rfl, by decide +kernel, rfl, by decide +kernel, by decide +kernel⟩
theorem sc__law_is : FnScope ["told", "due", "one", "two"] ["told", "due"] (defScope s__law_is) := ⟨rfl, rfl, rfl, by decide +kernel, rfl, by decide +kernel, by decide +kernel⟩
theorem sc_law : FnScope ["script", "tape", "turn", "boards", "hall", "games", "text", "results", "name", "won", "step", "rows", "side", "begun", "board", "row", "words", "k"] ["script"] (defScope s_law) := ⟨rfl, rfl, rfl, by decide +kernel, rfl, by decide +kernel, by decide +kernel⟩
structure Txt (K : PySem.W.Frag) (mg : Str → Option Value) : Prop where
  d_is_integer : Nm.Top K mg "is_integer" s_is_integer
  d_is_within : Nm.Top K mg "is_within" s_is_within
  d_is_side : Nm.Top K mg "is_side" s_is_side
  d_is_lettered : Nm.Top K mg "is_lettered" s_is_lettered
  d_is_word : Nm.Top K mg "is_word" s_is_word
  d_is_words : Nm.Top K mg "is_words" s_is_words
  d_is_name : Nm.Top K mg "is_name" s_is_name
  d_is_board : Nm.Top K mg "is_board" s_is_board
  d_names_of : Nm.Top K mg "names_of" s_names_of
  d__law_tape : Nm.Top K mg "_law_tape" s__law_tape
  d__law_pick : Nm.Top K mg "_law_pick" s__law_pick
  d_is_row : Nm.Top K mg "is_row" s_is_row
  d_is_ascending : Nm.Top K mg "is_ascending" s_is_ascending
  d_is_game : Nm.Top K mg "is_game" s_is_game
  d_check_game : Nm.Top K mg "check_game" s_check_game
  d_check_place : Nm.Top K mg "check_place" s_check_place
  d_let_words : Nm.Top K mg "let_words" s_let_words
  d_beginnings : Nm.Top K mg "beginnings" s_beginnings
  d_game_of : Nm.Top K mg "game_of" s_game_of
  d__law_words : Nm.Top K mg "_law_words" s__law_words
  d_next_rows : Nm.Top K mg "next_rows" s_next_rows
  d_solved : Nm.Top K mg "solved" s_solved
  d_good_words : Nm.Top K mg "good_words" s_good_words
  d__law_results : Nm.Top K mg "_law_results" s__law_results
  d__law_some : Nm.Top K mg "_law_some" s__law_some
  d__law_word : Nm.Top K mg "_law_word" s__law_word
  d__law_line : Nm.Top K mg "_law_line" s__law_line
  d__law_game : Nm.Top K mg "_law_game" s__law_game
  d__law_boards : Nm.Top K mg "_law_boards" s__law_boards
  d_least_games : Nm.Top K mg "least_games" s_least_games
  d__law_games_for : Nm.Top K mg "_law_games_for" s__law_games_for
  d_are_games : Nm.Top K mg "are_games" s_are_games
  d_check_games : Nm.Top K mg "check_games" s_check_games
  d_begun_rows : Nm.Top K mg "begun_rows" s_begun_rows
  d_is_turn : Nm.Top K mg "is_turn" s_is_turn
  d_best_at : Nm.Top K mg "best_at" s_best_at
  d_told_won : Nm.Top K mg "told_won" s_told_won
  d_are_rows : Nm.Top K mg "are_rows" s_are_rows
  d_told_move : Nm.Top K mg "told_move" s_told_move
  d_told_answer : Nm.Top K mg "told_answer" s_told_answer
  d__law_shuffled : Nm.Top K mg "_law_shuffled" s__law_shuffled
  d__law_good : Nm.Top K mg "_law_good" s__law_good
  d__law_due_move : Nm.Top K mg "_law_due_move" s__law_due_move
  d__law_is : Nm.Top K mg "_law_is" s__law_is
  d_law : Nm.Top K mg "law" s_law
  m_all : mg "all" = none
  m_bool : mg "bool" = none
  m_dict : mg "dict" = none
  m_enumerate : mg "enumerate" = none
  m_int : mg "int" = none
  m_isinstance : mg "isinstance" = none
  m_len : mg "len" = none
  m_list : mg "list" = none
  m_max : mg "max" = none
  m_min : mg "min" = none
  m_range : mg "range" = none
  m_repr : mg "repr" = none
  m_sorted : mg "sorted" = none
  m_str : mg "str" = none
  m_tuple : mg "tuple" = none
  m_zip : mg "zip" = none
  g_MOST_BEGUN : ∃ u, mg "MOST_BEGUN" = some u ∧ RelV (.int 20) u
  g_MOST_BOARDS : ∃ u, mg "MOST_BOARDS" = some u ∧ RelV (.int 12) u
  g_MOST_ROWS : ∃ u, mg "MOST_ROWS" = some u ∧ RelV (.int 600) u
  g_MOST_WORDS : ∃ u, mg "MOST_WORDS" = some u ∧ RelV (.int 60) u
  cls_Hall : ∃ C f fd, Cls K C ∧ Mk K C f ∧ mg "Hall" = some (.ref C) ∧ Fun K "__init__" "Hall.__init__" s_Hall___init__ f fd ∧ NoAttr K C "boards" ∧ NoAttr K C "names"
end K06
namespace K06
open PySem L2 Nm
open C8 (Cal Mak pe_c pe_mk pe_gc)
open RZ (ItzT pi_zipA)
section
variable {P : Program} {w : World} {K : PySem.W.Frag} {mg : Str → Option Value} {base : Heap}
def sp_is_integer (K : PySem.W.Frag) : Sp := fun vs H Q _ => ∃ (x : V), vs = [x] ∧ TyI K H x ∧ Q (.bl (isInt x)) H
theorem c_is_integer (T : Txt K mg) : Cal P w K mg base 1 "is_integer" (sp_is_integer K) [] := by
  have sc := sc_is_integer
  refine cal_of T.d_is_integer sc (fun _ _ _ _ _ _ us hl => match us, hl with | [_], _ => rfl) (fun vs H Q E h => ?_) (fun f cdv A outer s H vs Q E hr h => ?_)
  · obtain ⟨x, rfl, _⟩ := h
    rfl
  · obtain ⟨x, rfl, h⟩ := h
    refine ⟨_, (pss_one (ps_ret (pe_and (pe_callB call_isi rfl T.m_isinstance (by decide +kernel) (pa_cons (pv 0) (pa_cons (pe_bltn (v := .ty "int") (u := .type "int") rfl T.m_int (by decide +kernel) rfl) pa_nil))) (pe_one (pe_not (pe_callB call_isi rfl T.m_isinstance (by decide +kernel) (pa_cons (pv 0) (pa_cons (pe_bltn (v := .ty "bool") (u := .type "bool") rfl T.m_bool (by decide +kernel) rfl) pa_nil)))))))), ?_⟩
    obtain ⟨⟨b, c, ⟨t, h1, h2⟩, ⟨u, h3, h4⟩, e⟩, q⟩ := h
    refine ⟨_, rfl, _, _, t, _, b, rfl, .ty _, h1, h2, b, rfl, ?_⟩
    cases b with
    | false =>
      refine iteF ?_
      rw [← e] at q
      exact q
    | true =>
      refine iteT ⟨_, rfl, _, _, u, _, c, rfl, .ty _, h3, h4, c, rfl, ?_⟩
      rw [← e] at q
      exact q
end
end K06
namespace K06
open PySem L2 Nm
open C8 (Cal Mak pe_c pe_mk pe_gc)
open RZ (ItzT pi_zipA)
section
variable {P : Program} {w : World} {K : PySem.W.Frag} {mg : Str → Option Value} {base : Heap}
def sp_is_within (K : PySem.W.Frag) : Sp := fun vs H Q _ => ∃ (x : V) (lo hi : Int), vs = [x, .int lo, .int hi] ∧ TyI K H x ∧ Q (.bl (within x lo hi)) H
theorem c_is_within (T : Txt K mg) : Cal P w K mg base 2 "is_within" (sp_is_within K) [] := by
  have C_is_integer := c_is_integer (P := P) (w := w) (base := base) T
  have sc := sc_is_within
  refine cal_of T.d_is_within sc (fun _ _ _ _ _ _ us hl => match us, hl with | [_, _, _], _ => rfl) (fun vs H Q E h => ?_) (fun f cdv A outer s H vs Q E hr h => ?_)
  · obtain ⟨x, lo, hi, rfl, _⟩ := h
    rfl
  · obtain ⟨x, lo, hi, rfl, h⟩ := h
    refine ⟨_, (pss_one (ps_ret (pe_and (pe_c C_is_integer hr (by omega) rfl (pa_cons (pv 0) pa_nil)) (pe_one (pe_chain op_le op_le (pv 1) (pv 0) (pv 2)))))), ?_⟩
    obtain ⟨ty, q⟩ := h
    refine ⟨_, rfl, x, rfl, ty, isInt x, rfl, ?_⟩
    cases x with
    | int n =>
      refine iteT ⟨_, rfl, _, rfl, lo, n, rfl, rfl, decide (lo ≤ n), rfl, ?_⟩
      by_cases c : lo ≤ n
      · rw [if_pos (decide_eq_true c)]
        refine ⟨_, rfl, n, hi, rfl, rfl, ?_⟩
        have e : within (.int n) lo hi = decide (n ≤ hi) := by
          show (decide (lo ≤ n) && decide (n ≤ hi)) = _
          rw [decide_eq_true c, Bool.true_and]
        rw [e] at q
        exact q
      · rw [if_neg (by rw [decide_eq_false c]; exact Bool.false_ne_true)]
        have e : within (.int n) lo hi = false := by
          show (decide (lo ≤ n) && decide (n ≤ hi)) = _
          rw [decide_eq_false c, Bool.false_and]
        rw [e] at q
        exact q
    | _ => exact iteF q
end
end K06
namespace K06
open PySem L2 Nm
open C8 (Cal Mak pe_c pe_mk pe_gc)
open RZ (ItzT pi_zipA)
section
variable {P : Program} {w : World} {K : PySem.W.Frag} {mg : Str → Option Value} {base : Heap}
def sp_is_side (K : PySem.W.Frag) : Sp := fun vs H Q _ => ∃ (x : V), vs = [x] ∧ TyI K H x ∧ Q (.bl (within x 0 1)) H
theorem c_is_side (T : Txt K mg) : Cal P w K mg base 3 "is_side" (sp_is_side K) [] := by
  have C_is_within := c_is_within (P := P) (w := w) (base := base) T
  have sc := sc_is_side
  refine cal_of T.d_is_side sc (fun _ _ _ _ _ _ us hl => match us, hl with | [_], _ => rfl) (fun vs H Q E h => ?_) (fun f cdv A outer s H vs Q E hr h => ?_)
  · obtain ⟨x, rfl, _⟩ := h
    rfl
  · obtain ⟨x, rfl, h⟩ := h
    refine ⟨_, (pss_one (ps_ret (pe_c C_is_within hr (by omega) rfl (pa_cons (pv 0) (pa_cons pe_int (pa_cons pe_int pa_nil)))))), ?_⟩
    obtain ⟨ty, q⟩ := h
    exact ⟨_, rfl, x, 0, 1, rfl, ty, q⟩
end
end K06
namespace K06
open PySem L2 Nm
open C8 (Cal Mak pe_c pe_mk pe_gc)
open RZ (ItzT pi_zipA)
section
variable {P : Program} {w : World} {K : PySem.W.Frag} {mg : Str → Option Value} {base : Heap}
def sp_is_lettered (K : PySem.W.Frag) : Sp := fun vs H Q _ => ∃ (z : Str) (most : Int), vs = [.str z, .int most] ∧ z.length ≤ 1000 ∧ ∀ H', Same H H' → Q (.bl (letB z most)) H'
theorem c_is_lettered (T : Txt K mg) : Cal P w K mg base 1 "is_lettered" (sp_is_lettered K) [] := by
  have sc := sc_is_lettered
  refine cal_of T.d_is_lettered sc (fun _ _ _ _ _ _ us hl => match us, hl with | [_, _], _ => rfl) (fun vs H Q E h => ?_) (fun f cdv A outer s H vs Q E hr h => ?_)
  · obtain ⟨z, most, rfl, _⟩ := h
    rfl
  · obtain ⟨z, most, rfl, h⟩ := h
    refine ⟨_, (pss_cons (ps_if (PW.pt (pw_or (pt_not (pt_val (pe_callB call_isi rfl T.m_isinstance (by decide +kernel) (pa_cons (pv 0) (pa_cons (pe_bltn (v := .ty "str") (u := .type "str") rfl T.m_str (by decide +kernel) rfl) pa_nil))))) (pw_or1 (pt_not (pt_chain op_le op_le pe_int (pe_callB call_len_str rfl T.m_len (by decide +kernel) (pa_cons (pv 0) pa_nil)) (pv 1)))))) (pss_one (ps_ret pe_bl)) pss_nil)
  (pss_one (ps_ret (pe_callB (cr_all rfl) rfl T.m_all (by decide +kernel) (pa_cons (pe_lc (own := [("sign", 2)]) (g := gName 2) rfl sc.nd (pi_str (pv 0)) (blkOk_by (own := [("sign", 2)]) (N := ["thing", "most", "sign"]) (sc := defScope s_is_lettered) (by decide +kernel)) (fun _ _ _ _ _ => (pg_name (i := 2) sc.nd rfl (Or.inl rfl))) (fun _ _ _ _ _ => pts_nil) (fun _ _ _ _ _ => (pe_chain op_le_str op_le_str pe_str (pv 2) pe_str))) pa_nil))))), ?_⟩
    obtain ⟨hz, q⟩ := h
    obtain ⟨t, h1, h2⟩ := tyc_str (K := K) (H := H) z
    have fit : z.length ≤ sizeLine := Nat.le_trans hz (by decide)
    refine ⟨_, rfl, _, _, t, _, true, rfl, .ty _, h1, h2, true, rfl, ?_⟩
    refine iteF ?_
    refine ⟨_, rfl, z, rfl, fit, 1, (z.length : Int), rfl, rfl, decide (1 ≤ (z.length : Int)), rfl, ?_⟩
    by_cases c1 : 1 ≤ (z.length : Int)
    · rw [if_pos (decide_eq_true c1)]
      refine ⟨_, rfl, (z.length : Int), most, rfl, rfl, decide ((z.length : Int) ≤ most), rfl, ?_⟩
      by_cases c2 : (z.length : Int) ≤ most
      · rw [decide_eq_true c2]
        refine iteF ?_
        refine ⟨_, rfl, z, rfl, fun D hD => ?_⟩
        refine lc_it walk_str (fun i H1 => H1 D = some (.lst ((z.cps.toList.take i).map fun c => V.bl (decide (97 ≤ c) && decide (c ≤ 122)))) ∧ Same H H1) ⟨upd_same, same_new hD⟩ (fun _ _ _ _ => trivial) ?_ ?_
        · rintro i x H0 H1 hi ⟨hl, g⟩ ⟨rfl, c, hc, rfl⟩
          refine ⟨rfl, ?_⟩
          have hc' : z.cps.toList[i]? = some c := by rw [Array.getElem?_toList]; exact hc
          have tk : (z.cps.toList.take (i + 1)).map (fun c => V.bl (decide (97 ≤ c) && decide (c ≤ 122))) = (z.cps.toList.take i).map (fun c => V.bl (decide (97 ≤ c) && decide (c ≤ 122))) ++ [V.bl (decide (97 ≤ c) && decide (c ≤ 122))] := by
            rw [List.take_add_one, hc', List.map_append]
            rfl
          have small : ((z.cps.toList.take i).map fun c => V.bl (decide (97 ≤ c) && decide (c ≤ 122))).length < sizeLine := by
            rw [List.length_map, List.length_take]
            have a : z.cps.toList.length = z.length := by rw [Array.length_toList]; rfl
            have b : (1000 : Nat) < sizeLine := by decide
            omega
          have fin : ∀ v : Bool, v = (decide (97 ≤ c) && decide (c ≤ 122)) → ∃ acc, H1 D = some (.lst acc) ∧ acc.length < sizeLine ∧
              (upd H1 D (.lst (acc ++ [V.bl v])) D = some (.lst ((z.cps.toList.take (i + 1)).map fun c => V.bl (decide (97 ≤ c) && decide (c ≤ 122)))) ∧ Same H (upd H1 D (.lst (acc ++ [V.bl v])))) := fun v e => by
            refine ⟨_, hl, small, ?_, same_mut g hD⟩
            rw [upd_same, tk, e]
          refine ⟨_, rfl, _, _, rfl, rfl, !decide (([c] : List Nat) < [97]), rfl, ?_⟩
          rw [sign_lt]
          by_cases d : 97 ≤ c
          · rw [if_pos (by rw [decide_eq_false (by omega)]; rfl)]
            refine ⟨_, _, rfl, rfl, ?_⟩
            refine fin (!decide (([122] : List Nat) < [c])) ?_
            rw [sign_lt, decide_eq_true d, Bool.true_and]
            by_cases d2 : c ≤ 122
            · rw [decide_eq_true d2, decide_eq_false (by omega)]
              rfl
            · rw [decide_eq_false d2, decide_eq_true (by omega)]
              rfl
          · rw [if_neg (by rw [decide_eq_true (by omega)]; exact Bool.false_ne_true)]
            refine fin false ?_
            rw [decide_eq_false d]
            rfl
        · rintro H1 ⟨hl, g⟩
          have hn : z.cps.toList.take z.cps.size = z.cps.toList := List.take_of_length_le (by rw [Array.length_toList]; exact Nat.le_refl _)
          rw [hn] at hl
          refine ⟨D, z.cps.toList.map (fun c => decide (97 ≤ c) && decide (c ≤ 122)), rfl, SqL.of (by rw [hl, List.map_map]; rfl), ?_⟩
          have e : letB z most = ((z.cps.toList.map (fun c => decide (97 ≤ c) && decide (c ≤ 122))).all id) := by
            unfold letB
            rw [decide_eq_true c1, decide_eq_true c2, List.all_map]
            rfl
          have q' := q H1 g
          rw [e] at q'
          exact q'
      · rw [decide_eq_false c2]
        refine iteT ?_
        have e : letB z most = false := by unfold letB; rw [decide_eq_false c2, Bool.and_false, Bool.false_and]
        have q' := q H (Same.refl H)
        rw [e] at q'
        exact q'
    · rw [if_neg (by rw [decide_eq_false c1]; exact Bool.false_ne_true)]
      refine ⟨false, rfl, iteT ?_⟩
      have e : letB z most = false := by unfold letB; rw [decide_eq_false c1, Bool.false_and, Bool.false_and]
      have q' := q H (Same.refl H)
      rw [e] at q'
      exact q'
end
end K06
namespace K06
open PySem L2 Nm
open C8 (Cal Mak pe_c pe_mk pe_gc)
open RZ (ItzT pi_zipA)
section
variable {P : Program} {w : World} {K : PySem.W.Frag} {mg : Str → Option Value} {base : Heap}
def sp_is_word (K : PySem.W.Frag) : Sp := fun vs H Q _ => ∃ (z : Str), vs = [.str z] ∧ z.length ≤ 1000 ∧ ∀ H', Same H H' → Q (.bl (letB z 20)) H'
theorem c_is_word (T : Txt K mg) : Cal P w K mg base 2 "is_word" (sp_is_word K) [] := by
  have C_is_lettered := c_is_lettered (P := P) (w := w) (base := base) T
  have sc := sc_is_word
  refine cal_of T.d_is_word sc (fun _ _ _ _ _ _ us hl => match us, hl with | [_], _ => rfl) (fun vs H Q E h => ?_) (fun f cdv A outer s H vs Q E hr h => ?_)
  · obtain ⟨z, rfl, _⟩ := h
    rfl
  · obtain ⟨z, rfl, h⟩ := h
    refine ⟨_, (pss_one (ps_ret (pe_c C_is_lettered hr (by omega) rfl (pa_cons (pv 0) (pa_cons pe_int pa_nil))))), ?_⟩
    exact ⟨_, rfl, z, 20, rfl, h.1, h.2⟩
end
end K06
namespace K06
open PySem L2 Nm
open C8 (Cal Mak pe_c pe_mk pe_gc)
open RZ (ItzT pi_zipA)
section
variable {P : Program} {w : World} {K : PySem.W.Frag} {mg : Str → Option Value} {base : Heap}
def sp_is_words (K : PySem.W.Frag) : Sp := fun vs H Q _ => ∃ (a : Addr) (zs : List Str) (most : Int), vs = [.ref a, .int most] ∧ H a = some (.tup (zs.map V.str)) ∧ zs.length ≤ 1000 ∧ (∀ z ∈ zs, z.length ≤ 1000) ∧ ∀ H', Same H H' → Q (.bl (rowB zs most)) H'
theorem c_is_words (T : Txt K mg) : Cal P w K mg base 3 "is_words" (sp_is_words K) [] := by
  have C_is_word := c_is_word (P := P) (w := w) (base := base) T
  have sc := sc_is_words
  refine cal_of T.d_is_words sc (fun _ _ _ _ _ _ us hl => match us, hl with | [_, _], _ => rfl) (fun vs H Q E h => ?_) (fun f cdv A outer s H vs Q E hr h => ?_)
  · obtain ⟨a, zs, most, rfl, _⟩ := h
    rfl
  · obtain ⟨a, zs, most, rfl, h⟩ := h
    refine ⟨_, (pss_one (ps_ret (pe_and (pe_callB call_isi rfl T.m_isinstance (by decide +kernel) (pa_cons (pv 0) (pa_cons (pe_bltn (v := .ty "tuple") (u := .type "tuple") rfl T.m_tuple (by decide +kernel) rfl) pa_nil))) (pe_and (pe_cmpR op_le (pe_callB (r := Nm.rLenS K) (id := "len") Nm.call_lenS rfl T.m_len (by decide +kernel) (pa_cons (pv 0) pa_nil)) (pv 1) (nomark _)) (pe_one (pe_callB (cr_all rfl) rfl T.m_all (by decide +kernel) (pa_cons (pe_lc (own := [("word", 2)]) (g := gName 2) rfl sc.nd (pi_tup (pv 0)) (blkOk_by (own := [("word", 2)]) (N := ["thing", "most", "word"]) (sc := defScope s_is_words) (by decide +kernel)) (fun _ _ _ _ _ => (pg_name (i := 2) sc.nd rfl (Or.inl rfl))) (fun _ _ _ _ _ => pts_nil) (fun _ _ _ _ _ => (pe_c C_is_word hr (by omega) rfl (pa_cons (pv 2) pa_nil)))) pa_nil))))))), ?_⟩
    obtain ⟨ha, hl, hz, q⟩ := h
    obtain ⟨t, h1, h2⟩ := tyc_tup (K := K) ha
    refine ⟨_, rfl, _, _, t, _, true, rfl, .ty _, h1, h2, true, rfl, ?_⟩
    refine iteT ⟨_, rfl, a, _, rfl, .inr (SqT.of ha), _, rfl, _, _, rfl, rfl, decide (((zs.map V.str).length : Int) ≤ most), rfl, ?_⟩
    rw [List.length_map]
    by_cases c : (zs.length : Int) ≤ most
    · rw [decide_eq_true c]
      refine iteT ⟨_, rfl, a, rfl, ⟨_, SqT.of ha⟩, fun D hD => ?_⟩
      refine lc_tup (K := K) (a := a) (xs := zs.map V.str) (fun i H1 => H1 D = some (.lst ((zs.take i).map fun z => V.bl (letB z 20))) ∧ Same H H1) ⟨upd_same, same_new hD⟩ (fun i H1 _ p => SqT.of (p.2 _ _ ha)) ?_ ?_
      · rintro i x H1 hx ⟨hl1, g⟩
        obtain ⟨z, hz1, rfl⟩ : ∃ z, zs[i]? = some z ∧ x = V.str z := by
          rw [List.getElem?_map] at hx
          cases e : zs[i]? with
          | none =>
            rw [e] at hx
            cases hx
          | some z =>
            rw [e] at hx
            exact ⟨z, rfl, (Option.some.inj hx).symm⟩
        refine ⟨rfl, ?_⟩
        refine ⟨_, rfl, z, rfl, hz z (List.mem_of_getElem? hz1), fun H2 g2 => ?_⟩
        refine ⟨_, g2 _ _ hl1, ?_, ?_, ?_⟩
        · rw [List.length_map, List.length_take]
          have b : (1000 : Nat) < sizeLine := by decide
          omega
        · rw [upd_same, take_one hz1, List.map_append]
          rfl
        · exact same_mut (g.trans g2) hD
      · rintro H1 ⟨hl1, g⟩
        rw [List.length_map, List.take_length] at hl1
        refine ⟨D, zs.map (fun z => letB z 20), rfl, SqL.of (by rw [hl1, List.map_map]; rfl), ?_⟩
        have e : rowB zs most = (zs.map (fun z => letB z 20)).all id := by
          unfold rowB
          rw [decide_eq_true c, Bool.true_and, List.all_map]
          rfl
        have q' := q H1 g
        rw [e] at q'
        exact q'
    · rw [decide_eq_false c]
      refine iteF ?_
      have e : rowB zs most = false := by unfold rowB; rw [decide_eq_false c, Bool.false_and]
      have q' := q H (Same.refl H)
      rw [e] at q'
      exact q'
end
end K06
namespace K06
open PySem L2 Nm
open C8 (Cal Mak pe_c pe_mk pe_gc)
open RZ (ItzT pi_zipA)
section
variable {P : Program} {w : World} {K : PySem.W.Frag} {mg : Str → Option Value} {base : Heap}
def sp_is_name (K : PySem.W.Frag) : Sp := fun vs H Q _ => ∃ (z : Str), vs = [.str z] ∧ z.length ≤ 1000 ∧ ∀ H', Same H H' → Q (.bl (letB z 8)) H'
theorem c_is_name (T : Txt K mg) : Cal P w K mg base 2 "is_name" (sp_is_name K) [] := by
  have C_is_lettered := c_is_lettered (P := P) (w := w) (base := base) T
  have sc := sc_is_name
  refine cal_of T.d_is_name sc (fun _ _ _ _ _ _ us hl => match us, hl with | [_], _ => rfl) (fun vs H Q E h => ?_) (fun f cdv A outer s H vs Q E hr h => ?_)
  · obtain ⟨z, rfl, _⟩ := h
    rfl
  · obtain ⟨z, rfl, h⟩ := h
    refine ⟨_, (pss_one (ps_ret (pe_c C_is_lettered hr (by omega) rfl (pa_cons (pv 0) (pa_cons pe_int pa_nil))))), ?_⟩
    exact ⟨_, rfl, z, 8, rfl, h.1, h.2⟩
end
end K06
namespace K06
open PySem L2 Nm
open C8 (Cal Mak pe_c pe_mk pe_gc)
open RZ (ItzT pi_zipA)
section
variable {P : Program} {w : World} {K : PySem.W.Frag} {mg : Str → Option Value} {base : Heap}
def sp_is_board (K : PySem.W.Frag) : Sp := fun vs H Q _ => ∃ (v : V) (b : Bd), vs = [v] ∧ BoardAt H v b ∧ smallBd b ∧ ∀ H', Same H H' → Q (.bl (boardB b)) H'
theorem c_is_board (T : Txt K mg) : Cal P w K mg base 4 "is_board" (sp_is_board K) [] := by
  have C_is_name := c_is_name (P := P) (w := w) (base := base) T
  have C_is_side := c_is_side (P := P) (w := w) (base := base) T
  have C_is_words := c_is_words (P := P) (w := w) (base := base) T
  have sc := sc_is_board
  refine cal_of T.d_is_board sc (fun _ _ _ _ _ _ us hl => match us, hl with | [_], _ => rfl) (fun vs H Q E h => ?_) (fun f cdv A outer s H vs Q E hr h => ?_)
  · obtain ⟨v, b, rfl, _⟩ := h
    rfl
  · obtain ⟨v, b, rfl, h⟩ := h
    refine ⟨_, (pss_cons (ps_if (PW.pt (pw_or (pt_not (pt_val (pe_callB call_isi rfl T.m_isinstance (by decide +kernel) (pa_cons (pv 0) (pa_cons (pe_bltn (v := .ty "tuple") (u := .type "tuple") rfl T.m_tuple (by decide +kernel) rfl) pa_nil))))) (pw_or1 (pt_cmpR op_ne (pe_callB (r := Nm.rLenS K) (id := "len") Nm.call_lenS rfl T.m_len (by decide +kernel) (pa_cons (pv 0) pa_nil)) pe_int (nomark _))))) (pss_one (ps_ret pe_bl)) pss_nil)
  (pss_cons (ps_asg (pv 0) (pg_tup rfl (pgs_cons (pg_name (i := 1) sc.nd rfl (Or.inl rfl)) (pgs_cons (pg_name (i := 2) sc.nd rfl (Or.inl rfl)) (pgs_cons (pg_name (i := 3) sc.nd rfl (Or.inl rfl)) pgs_nil)))))
  (pss_one (ps_ret (pe_and (pe_c C_is_name hr (by omega) rfl (pa_cons (pv 1) pa_nil)) (pe_and (pe_c C_is_side hr (by omega) rfl (pa_cons (pv 2) pa_nil)) (pe_one (pe_c C_is_words hr (by omega) rfl (pa_cons (pv 3) (pa_cons (pe_gc rfl T.g_MOST_BEGUN) pa_nil)))))))))), ?_⟩
    obtain ⟨⟨a, r, rfl, h1, h2⟩, ⟨z1, z2, z3⟩, q⟩ := h
    obtain ⟨t, t1, t2⟩ := tyc_tup (K := K) h1
    refine ⟨_, rfl, _, _, t, _, true, rfl, .ty _, t1, t2, true, rfl, ?_⟩
    refine iteF ⟨_, rfl, a, _, rfl, .inr (SqT.of h1), rfl, _, rfl, ?_⟩
    refine iteF ⟨_, rfl, a, _, rfl, SqT.of h1, rfl, _, _, rfl, _, _, rfl, _, _, rfl, rfl, ?_⟩
    refine ⟨_, rfl, b.1, rfl, z1, fun H1 g1 => ⟨letB b.1 8, rfl, ?_⟩⟩
    have e : boardB b = (letB b.1 8 && (within (.int b.2.1) 0 1 && rowB b.2.2 20)) := rfl
    cases e1 : letB b.1 8 with
    | false =>
      refine iteF ?_
      rw [e1, Bool.false_and] at e
      have q' := q H1 g1
      rw [e] at q'
      exact q'
    | true =>
      rw [e1, Bool.true_and] at e
      refine iteT ⟨_, rfl, _, rfl, tyi_int _, within (.int b.2.1) 0 1, rfl, ?_⟩
      cases e2 : within (.int b.2.1) 0 1 with
      | false =>
        refine iteF ?_
        rw [e2, Bool.false_and] at e
        have q' := q H1 g1
        rw [e] at q'
        exact q'
      | true =>
        rw [e2, Bool.true_and] at e
        refine iteT ⟨_, rfl, r, b.2.2, 20, rfl, g1 _ _ h2, z2, z3, fun H2 g2 => ?_⟩
        have q' := q H2 (g1.trans g2)
        rw [e] at q'
        exact q'
end
end K06
namespace K06
open PySem L2 Nm
open C8 (Cal Mak pe_c pe_mk pe_gc)
open RZ (ItzT pi_zipA)
section
variable {P : Program} {w : World} {K : PySem.W.Frag} {mg : Str → Option Value} {base : Heap}
def sp_names_of (K : PySem.W.Frag) : Sp := fun vs H Q _ => ∃ (a : Addr) (bs : List Bd), vs = [.ref a] ∧ BoardsAt H a bs ∧ bs.length < 64 ∧ ∀ H' p ys, Same H H' → H p = none → H' p = some (.tup (ys.map V.str)) → Names (bs.map (·.1)) ys → Q (.ref p) H'
theorem c_names_of (T : Txt K mg) : Cal P w K mg base 1 "names_of" (sp_names_of K) [] := by
  have sc := sc_names_of
  refine cal_of T.d_names_of sc (fun _ _ _ _ _ _ us hl => match us, hl with | [_], _ => rfl) (fun vs H Q E h => ?_) (fun f cdv A outer s H vs Q E hr h => ?_)
  · obtain ⟨a, bs, rfl, _⟩ := h
    rfl
  · obtain ⟨a, bs, rfl, h⟩ := h
    refine ⟨_, (pss_one (ps_ret (pe_callTy call_tuple_of rfl T.m_tuple (by decide +kernel) (pa_cons (pe_callB (Nm.cr_sortTx rfl) rfl T.m_sorted (by decide +kernel) (pa_cons (Nm.pe_nm (own := [("board", 1)]) (g := gName 1) rfl sc.nd (pi_tup (pv 0)) (blkOk_by (own := [("board", 1)]) (N := ["boards", "board"]) (sc := defScope s_names_of) (by decide +kernel)) (fun _ _ _ _ _ => (pg_name (i := 1) sc.nd rfl (Or.inl rfl))) (fun _ _ _ _ _ => (pe_ix (r := rIxT K) ix_tup (pv 1) pe_int (fun _ _ => rfl)))) pa_nil)) pa_nil)))), ?_⟩
    obtain ⟨⟨xs, ha, pr⟩, hl, q⟩ := h
    refine ⟨_, rfl, a, rfl, ⟨_, SqT.of ha⟩, fun D hD => ?_⟩
    refine nm_tup (K := K) (a := a) (xs := xs) (fun i H1 => H1 D = some (TxO w D (gathered ((bs.take i).map (·.1)))) ∧ Same H H1) ⟨upd_same, same_new hD⟩ (fun i H1 _ p => SqT.of (p.2 _ _ ha)) ?_ ?_
    · rintro i x H1 hx ⟨hl1, g⟩
      obtain ⟨b, hb, c, r, rfl, h1, h2⟩ := paired_at pr i x hx
      refine ⟨rfl, ?_⟩
      refine ⟨_, rfl, c, _, 0, .str b.1, rfl, rfl, SqT.of (g _ _ h1), rfl, b.1, _, rfl, hl1, ?_, ?_, ?_⟩
      · have z := (gathered_facts ((bs.take i).map (·.1))).2.2
        rw [List.length_map, List.length_take] at z
        have : (64 : Nat) + 1 < scanBound := by decide
        omega
      · rw [upd_same, take_one hb, List.map_append]
        show some (TxO w D (plus (gathered ((bs.take i).map (·.1))) b.1)) = some (TxO w D (gathered ((bs.take i).map (·.1) ++ [b.1])))
        rw [gathered_snoc]
      · exact same_mut g hD
    · rintro H1 ⟨hl1, g⟩
      have el : xs.length = bs.length := paired_len pr
      rw [el, List.take_length] at hl1
      obtain ⟨f1, f2, f3⟩ := gathered_facts (bs.map (·.1))
      rw [List.length_map] at f3
      refine ⟨D, _, rfl, hl1, by omega, fun ys p pm up hp => ?_⟩
      have g2 : Same H (upd H1 p (.lst (ys.map V.str))) := g.trans (same_new hp)
      refine ⟨p, _, rfl, .inl ⟨SqL.of upd_same, fun l hl => ?_⟩⟩
      refine q _ l ys (g2.trans (same_new hl)) (g2.free hl) upd_same ⟨up, pm.nodup_iff.mpr f1, fun x => ?_⟩
      rw [pm.mem_iff]
      exact f2 x
end
end K06
namespace K06
open PySem L2 Nm
open C8 (Cal Mak pe_c pe_mk pe_gc)
open RZ (ItzT pi_zipA)
section
variable {P : Program} {w : World} {K : PySem.W.Frag} {mg : Str → Option Value} {base : Heap}
def sp_Hall (K : PySem.W.Frag) (C : Addr) : Sp := fun vs H Q _ => ∃ (p dx a : Addr) (bs : List Bd), vs = [.ref p, .ref a] ∧ H p = some (.ins C dx []) ∧ BoardsAt H a bs ∧ (∀ b ∈ bs, boardB b = true ∧ smallBd b) ∧ 1 ≤ bs.length ∧ bs.length ≤ 12 ∧
  ∀ H' fs, H' p = some (.ins C dx fs) → fs.length ≤ 2 → HallAt K H' p bs → (∀ b o, H b = some o → b ≠ p → H' b = some o) → Q .non H'
theorem c_Hall (T : Txt K mg) : ∃ C, Mak P w K mg base 5 "Hall" C (sp_Hall K C) [] := by
  obtain ⟨C, fi, fd, cl, mk, hm, F, nB, nN⟩ := T.cls_Hall
  have C_is_board := c_is_board (P := P) (w := w) (base := base) T
  have C_names_of := c_names_of (P := P) (w := w) (base := base) T
  have sc := sc_Hall___init__
  refine ⟨C, ⟨fi, fd, ["self", "boards"], [], mk, F.ok (k := 4) sc (fun vs H Q E h => ?_) (fun cdv A outer s H vs Q E hr h => ?_), hm, F.binds fun _ _ _ _ _ _ us hl => match us, hl with | [_, _], _ => rfl, .nil⟩⟩
  · obtain ⟨p, dx, a, bs, rfl, _⟩ := h
    rfl
  · obtain ⟨p, dx, a, bs, rfl, hp, hb, ok, l1, l12, q⟩ := h
    obtain ⟨xs, ha, pr⟩ := id hb
    have el : xs.length = bs.length := paired_len pr
    obtain ⟨t, t1, t2⟩ := tyc_tup (K := K) ha
    refine ⟨_, (pss_cons (ps_if (PW.pt (pw_or (pt_not (pt_val (pe_callB call_isi rfl T.m_isinstance (by decide +kernel) (pa_cons (pv 1) (pa_cons (pe_bltn (v := .ty "tuple") (u := .type "tuple") rfl T.m_tuple (by decide +kernel) rfl) pa_nil))))) (pw_or1 (pt_not (pt_chain op_le op_le pe_int (pe_callB (r := Nm.rLenS K) (id := "len") Nm.call_lenS rfl T.m_len (by decide +kernel) (pa_cons (pv 1) pa_nil)) (pe_gc rfl T.g_MOST_BOARDS)))))) (pss_one ps_never) pss_nil)
  (pss_cons (ps_for PassesOwn.never rfl (Nm.pi_enuT rfl T.m_enumerate (pa_cons (pv 1) pa_nil)) (pg_tup rfl (pgs_cons (pg_name (i := 2) sc.nd rfl (Or.inl rfl)) (pgs_cons (pg_name (i := 3) sc.nd rfl (Or.inl rfl)) pgs_nil))) (pss_one (ps_if (pt_not (pt_val (pe_c C_is_board hr (by omega) rfl (pa_cons (pv 3) pa_nil)))) (pss_one ps_never) pss_nil)))
  (pss_cons (ps_fld (pv 0) (pv 1) rfl)
  (pss_one (ps_fld (pv 0) (pe_c C_names_of hr (by omega) rfl (pa_cons (pv 1) pa_nil)) rfl))))), ?_⟩
    refine ⟨_, rfl, _, _, t, _, true, rfl, .ty _, t1, t2, true, rfl, ?_⟩
    refine iteF ⟨_, rfl, a, _, rfl, .inr (SqT.of ha), _, _, rfl, rfl, decide (1 ≤ (xs.length : Int)), rfl, ?_⟩
    rw [decide_eq_true (show 1 ≤ (xs.length : Int) by omega)]
    refine iteT ⟨_, _, rfl, rfl, decide ((xs.length : Int) ≤ 12), rfl, ?_⟩
    rw [decide_eq_true (show (xs.length : Int) ≤ 12 by omega)]
    refine iteF ?_
    refine ⟨_, rfl, a, xs, rfl, SqT.of ha, ?_⟩
    refine for_it walk_itu (fun i σ H1 => ∃ v2 v3, σ = [some (.ref p), some (.ref a), v2, v3] ∧ Same H H1) ⟨none, none, rfl, Same.refl H⟩ (fun i σ H1 _ ⟨_, _, _, g⟩ => SqT.of (g _ _ ha)) ?_ ?_
    · rintro i x σ H1 H2 hi ⟨v2, v3, rfl, g⟩ ⟨tp, x1, y, rfl, hn, rfl, e1, e2⟩
      obtain ⟨b, hb1, hb2⟩ := paired_at pr i y e2
      have g1 : Same H (upd H1 tp (.tup [x1, y])) := g.trans (same_new hn)
      refine ⟨tp, [x1, y], rfl, SqT.of upd_same, rfl, _, _, rfl, _, _, rfl, rfl, ?_⟩
      obtain ⟨o1, o2⟩ := ok b (List.mem_of_getElem? hb1)
      refine ⟨_, rfl, y, b, rfl, hb2.mono (same_tups g1), o2, fun H3 g3 => ⟨boardB b, rfl, ?_⟩⟩
      rw [o1]
      exact iteF ⟨_, _, rfl, g1.trans g3⟩
    · rintro σ H1 ⟨v2, v3, rfl, g⟩
      refine ⟨_, rfl, _, rfl, p, C, dx, [], rfl, g _ _ hp, cl, nB, (by show 0 < 1000; decide), ?_⟩
      have pa : a ≠ p := fun e => by
        rw [e, hp] at ha
        cases ha
      have other : ∀ {H5 : Hp} {o : HO}, Same H H5 → ∀ b u, H b = some u → b ≠ p → upd H5 p o b = some u := fun g5 b u hu hne => by
        rw [upd_ne hne]
        exact g5 b u hu
      have tups : ∀ b ys, H b = some (.tup ys) → b ≠ p := fun b ys hy e => by
        rw [e, hp] at hy
        cases hy
      refine ⟨_, rfl, a, bs, rfl, hb.mono (fun b ys hy => other g b _ hy (tups b ys hy)), by omega, fun H2 n ys g2 hn h2 nm => ?_⟩
      have hp2 : H2 p = some (.ins C dx (putF "boards" (.ref a) [])) := g2 _ _ upd_same
      refine ⟨_, rfl, p, C, dx, _, rfl, hp2, cl, nN, (by show 1 < 1000; decide), ?_⟩
      have pn : n ≠ p := fun e => by
        rw [e, hp2] at h2
        cases h2
      refine q _ _ upd_same (Nat.le_trans (putF_len _ _ _) (Nat.succ_le_succ (putF_len _ _ _))) ⟨C, dx, _, a, n, ys, cl, nB, nN, upd_same, ?_, ?_, ?_, ?_, nm⟩ ?_
      · rw [lookup_putF, if_neg nb_ne, lookup_putF, if_pos rfl]
      · rw [lookup_putF, if_pos rfl]
      · refine hb.mono fun b zs hz => ?_
        rw [upd_ne (tups b zs hz)]
        exact g2 _ _ (other g b _ hz (tups b zs hz))
      · rw [upd_ne pn]
        exact h2
      · intro b o ho hne
        rw [upd_ne hne]
        exact g2 _ _ (other g b o ho hne)
end
end K06
namespace K06
open PySem L2 Nm
open C8 (Cal Mak pe_c pe_mk pe_gc)
open RZ (ItzT pi_zipA)
section
variable {P : Program} {w : World} {K : PySem.W.Frag} {mg : Str → Option Value} {base : Heap}
def sp__law_tape (K : PySem.W.Frag) : Sp := fun vs H Q _ => ∃ (a : Addr), vs = [.ref a] ∧ ∃ ns : List Int, SqL K H a (ns.map V.int) ∧ ∀ tp l H', Same H H' → H tp = none → TapeAt H' tp l → Q (.ref tp) H'
theorem c__law_tape (T : Txt K mg) : Cal P w K mg base 1 "_law_tape" (sp__law_tape K) [] := by
  have sc := sc__law_tape
  refine cal_of T.d__law_tape sc (fun _ _ _ _ _ _ us hl => match us, hl with | [_], _ => rfl) (fun vs H Q E h => ?_) (fun f cdv A outer s H vs Q E hr h => ?_)
  · obtain ⟨a, rfl, _⟩ := h
    rfl
  · obtain ⟨a, rfl, h⟩ := h
    refine ⟨_, (pss_one (ps_ret (pe_lst (pa_cons (pe_callTy call_list_of rfl T.m_list (by decide +kernel) (pa_cons (pv 0) pa_nil)) (pa_cons pe_int (pa_cons pe_int (pa_cons pe_int (pa_cons pe_int pa_nil)))))))), ?_⟩
    obtain ⟨ns, hs, q⟩ := h
    refine ⟨_, rfl, a, _, rfl, .inl hs, fun l hl => ⟨(by show 5 ≤ PySem.sizeLine; decide), fun tp ht => ?_⟩⟩
    have g1 : Same H (upd H l (.lst (ns.map V.int))) := same_new hl
    exact q tp l _ (g1.trans (same_new ht)) (g1.free ht) ⟨ns, 0, 0, 1, 0, upd_same, same_new ht _ _ upd_same, Int.le_refl 0⟩
end
end K06
namespace K06
open PySem L2 Nm
open C8 (Cal Mak pe_c pe_mk pe_gc)
open RZ (ItzT pi_zipA)
section
variable {P : Program} {w : World} {K : PySem.W.Frag} {mg : Str → Option Value} {base : Heap}
def sp__law_pick (K : PySem.W.Frag) : Sp := fun vs H Q _ => ∃ (tp : Addr) (size : Int), vs = [.ref tp, .int size] ∧ ∃ l, TapeAt H tp l ∧ 1 ≤ size ∧ size ≤ 1000 ∧ ∀ r H', 0 ≤ r → r < size → TapeAt H' tp l → Mov tp H H' → Q (.int r) H'
theorem c__law_pick (T : Txt K mg) : Cal P w K mg base 1 "_law_pick" (sp__law_pick K) [] := by
  have sc := sc__law_pick
  refine cal_of T.d__law_pick sc (fun _ _ _ _ _ _ us hl => match us, hl with | [_, _], _ => rfl) (fun vs H Q E h => ?_) (fun f cdv A outer s H vs Q E hr h => ?_)
  · obtain ⟨tp, size, rfl, _⟩ := h
    rfl
  · obtain ⟨tp, size, rfl, h⟩ := h
    refine ⟨_, (pss_cons (ps_if (pt_cmpR op_gt (pe_ix ix_list (pv 0) pe_int (fun _ _ => rfl)) pe_int (nomark _)) (pss_cons (ps_set (i := 2) sc.nd rfl (Or.inl rfl) (pe_op op_mod (pe_callTy call_int1 rfl T.m_int (by decide +kernel) (pa_cons (pe_ix ix_list (pv 0) pe_int (fun _ _ => rfl)) pa_nil)) (pv 1)))
  (pss_cons (ps_asg (pe_op op_fdiv (pe_ix ix_list (pv 0) pe_int (fun _ _ => rfl)) (pv 1)) (pg_sub (pv 0) pe_int set_list))
  (pss_one (ps_ret (pv 2))))) pss_nil)
  (pss_cons (ps_asg (pe_op op_add (pe_ix ix_list (pv 0) pe_int (fun _ _ => rfl)) pe_int) (pg_sub (pv 0) pe_int set_list))
  (pss_cons (ps_set (i := 3) sc.nd rfl (Or.inl rfl) pe_int)
  (C8.pss_cut (ps_if (pt_cmpR op_lt (pe_ix ix_list (pv 0) pe_int (fun _ _ => rfl)) (pe_callB (r := Nm.rLenS K) (id := "len") Nm.call_lenS rfl T.m_len (by decide +kernel) (pa_cons (pe_ix ix_list (pv 0) pe_int (fun _ _ => rfl)) pa_nil)) (nomark _)) (pss_cons (ps_set (i := 3) sc.nd rfl (Or.inl rfl) (pe_ix ix_list (pe_ix ix_list (pv 0) pe_int (fun _ _ => rfl)) (pe_ix ix_list (pv 0) pe_int (fun _ _ => rfl)) (fun _ _ => rfl)))
  (pss_one (ps_asg (pe_op op_add (pe_ix ix_list (pv 0) pe_int (fun _ _ => rfl)) pe_int) (pg_sub (pv 0) pe_int set_list)))) pss_nil)
  (pss_cons (ps_if (pt_cmpR op_ge (pv 3) (pe_op op_pow pe_int pe_int) (nomark _)) (pss_cons (ps_asg (pe_op op_fdiv (pv 3) (pv 1)) (pg_sub (pv 0) pe_int set_list))
  (pss_one (ps_ret (pe_op op_mod (pe_callTy call_int1 rfl T.m_int (by decide +kernel) (pa_cons (pv 3) pa_nil)) (pv 1))))) pss_nil)
  (pss_cons (ps_set (i := 4) sc.nd rfl (Or.inl rfl) (pe_op op_mod (pe_callTy call_int1 rfl T.m_int (by decide +kernel) (pa_cons (pe_op op_add (pe_op op_add (pe_op op_mul (pe_ix ix_list (pv 0) pe_int (fun _ _ => rfl)) pe_int) (pe_op op_mod (pe_callTy call_int1 rfl T.m_int (by decide +kernel) (pa_cons (pv 3) pa_nil)) pe_int)) (pe_op op_mul (pe_ix ix_list (pv 0) pe_int (fun _ _ => rfl)) pe_int)) pa_nil)) pe_int))
  (pss_cons (ps_set (i := 4) sc.nd rfl (Or.inl rfl) (pe_op op_mod (pe_callTy call_int1 rfl T.m_int (by decide +kernel) (pa_cons (pe_op op_mul (pv 4) (pe_op op_add (pe_op op_fdiv (pv 4) pe_int) pe_int)) pa_nil)) pe_int))
  (pss_cons (ps_asg (pv 4) (pg_sub (pv 0) pe_int set_list))
  (pss_one (ps_ret (pe_op op_mod (pe_callTy call_int1 rfl T.m_int (by decide +kernel) (pa_cons (pe_op op_fdiv (pv 4) pe_int) pa_nil)) (pv 1)))))))))))), ?_⟩
    obtain ⟨l, ⟨ns, i, c, m, n, ht, hl, h0⟩, s1, s2, q⟩ := h
    have nl : l ≠ tp := tape_ne ht hl
    have pos : (0 : Int) < size := by omega
    refine ⟨_, rfl, tp, _, 2, .int c, rfl, rfl, SqL.of ht, rfl, _, _, rfl, rfl, _, rfl, ?_⟩
    refine ite2 (fun _ => ?_) (fun _ => ?_)
    · refine ⟨_, rfl, tp, _, 2, .int c, rfl, rfl, SqL.of ht, rfl, .inl ⟨c, rfl, _, rfl, c, size, rfl, rfl, pos, ?_⟩⟩
      refine ⟨_, rfl, tp, _, 2, .int c, rfl, rfl, SqL.of ht, rfl, _, rfl, c, size, rfl, rfl, ⟨pos, by omega⟩, ?_⟩
      refine ⟨_, rfl, tp, _, 2, 2, rfl, rfl, ht, rfl, _, rfl, ?_⟩
      exact q _ _ (Int.emod_nonneg _ (by omega)) (Int.emod_lt_of_pos _ pos) ⟨ns, i, c / size, m, n, upd_same, by rw [upd_ne nl]; exact hl, h0⟩ mov_upd
    · refine ⟨_, rfl, tp, _, 4, .int n, rfl, rfl, SqL.of ht, rfl, n, 1, rfl, rfl, _, rfl, tp, _, 4, 4, rfl, rfl, ht, rfl, ?_⟩
      have ht1 : upd H tp (.lst [.ref l, .int i, .int c, .int m, .int (n + 1)]) tp = some (.lst [.ref l, .int i, .int c, .int m, .int (n + 1)]) := upd_same
      have hl1 : upd H tp (.lst [.ref l, .int i, .int c, .int m, .int (n + 1)]) l = some (.lst (ns.map V.int)) := by
        rw [upd_ne nl]
        exact hl
      refine ⟨fun σ H1 => ∃ cell j, σ = [some (.ref tp), some (.int size), none, some (.int cell), none] ∧ 0 ≤ j ∧ H1 tp = some (.lst [.ref l, .int j, .int c, .int m, .int (n + 1)]) ∧ H1 l = some (.lst (ns.map V.int)) ∧ Mov tp H H1, ?_, ?_⟩
      · refine ⟨_, rfl, tp, _, 1, .int i, rfl, rfl, SqL.of ht1, rfl, _, rfl, tp, _, 0, .ref l, rfl, rfl, SqL.of ht1, rfl, l, _, rfl, .inl (SqL.of hl1), _, _, rfl, rfl, _, rfl, ?_⟩
        rw [List.length_map]
        refine ite2 (fun z => ?_) (fun _ => ?_)
        · have z' : i < (ns.length : Int) := of_decide_eq_true z
          have at1 : atI (ns.map V.int) i = some (V.int (ns.getD i.toNat 0)) := by
            have e : i = ((i.toNat : Nat) : Int) := by omega
            rw [e, Int.toNat_natCast]
            exact at_getD (by omega)
          refine ⟨_, rfl, tp, _, 0, .ref l, rfl, rfl, SqL.of ht1, rfl, _, rfl, tp, _, 1, .int i, rfl, rfl, SqL.of ht1, rfl, l, _, i, _, rfl, rfl, SqL.of hl1, at1, ?_⟩
          refine ⟨_, rfl, tp, _, 1, .int i, rfl, rfl, SqL.of ht1, rfl, i, 1, rfl, rfl, _, rfl, tp, _, 1, 1, rfl, rfl, ht1, rfl, ?_⟩
          exact ⟨_, i + 1, rfl, by omega, upd_same, by rw [upd_ne nl]; exact hl1, mov_upd.trans mov_upd⟩
        · exact ⟨0, i, rfl, h0, ht1, hl1, mov_upd⟩
      · rintro σ H1 ⟨cell, j, rfl, j0, ht2, hl2, mv⟩
        refine ⟨_, rfl, _, _, rfl, rfl, ⟨by decide, by decide, by decide⟩, _, _, rfl, rfl, _, rfl, ?_⟩
        refine ite2 (fun _ => ?_) (fun _ => ?_)
        · refine ⟨_, rfl, _, rfl, cell, size, rfl, rfl, ⟨pos, by omega⟩, _, rfl, tp, _, 2, 2, rfl, rfl, ht2, rfl, ?_⟩
          refine ⟨_, rfl, .inl ⟨cell, rfl, _, rfl, cell, size, rfl, rfl, pos, ?_⟩⟩
          exact q _ _ (Int.emod_nonneg _ (by omega)) (Int.emod_lt_of_pos _ pos) ⟨ns, j, cell / size, m, n + 1, upd_same, by rw [upd_ne nl]; exact hl2, j0⟩ (mv.trans mov_upd)
        · refine ⟨_, rfl, tp, _, 3, .int m, rfl, rfl, SqL.of ht2, rfl, _, _, rfl, rfl, .inr ⟨by decide, by decide⟩, _, rfl, .inl ⟨cell, rfl, cell, _, rfl, rfl, (by show (0 : Int) < _; decide), ?_⟩⟩
          refine ⟨_, _, rfl, rfl, _, rfl, tp, _, 4, .int (n + 1), rfl, rfl, SqL.of ht2, rfl, _, _, rfl, rfl, .inr ⟨by decide, by decide⟩, ?_⟩
          refine ⟨_, _, rfl, rfl, .inl ⟨_, rfl, _, _, rfl, rfl, (by show (0 : Int) < _; decide), ?_⟩⟩
          have x0 : 0 ≤ (m * 48271 + cell % 2147483629 + (n + 1) * 69621) % 2147483647 := Int.emod_nonneg _ (by decide)
          have x1 : (m * 48271 + cell % 2147483629 + (n + 1) * 69621) % 2147483647 < 2147483647 := Int.emod_lt_of_pos _ (by decide)
          refine ⟨_, rfl, _, rfl, _, _, rfl, rfl, ⟨by decide, by decide⟩, _, _, rfl, rfl, _, _, rfl, rfl, .inl ⟨by omega, by omega⟩, .inl ⟨_, rfl, _, _, rfl, rfl, (by show (0 : Int) < _; decide), ?_⟩⟩
          refine ⟨_, rfl, _, rfl, tp, _, 3, 3, rfl, rfl, ht2, rfl, ?_⟩
          refine ⟨_, rfl, _, _, rfl, rfl, ⟨by decide, by decide⟩, .inl ⟨_, rfl, _, rfl, _, size, rfl, rfl, pos, ?_⟩⟩
          exact q _ _ (Int.emod_nonneg _ (by omega)) (Int.emod_lt_of_pos _ pos) ⟨ns, j, c, _, n + 1, upd_same, by rw [upd_ne nl]; exact hl2, j0⟩ (mv.trans mov_upd)
end
end K06
namespace K06
open PySem L2 Nm
open C8 (Cal Mak pe_c pe_mk pe_gc)
open RZ (ItzT pi_zipA)
section
variable {P : Program} {w : World} {K : PySem.W.Frag} {mg : Str → Option Value} {base : Heap}
def sp_is_row (K : PySem.W.Frag) : Sp := fun vs H Q _ => ∃ (a : Addr) (zs : List Str), vs = [.ref a] ∧ H a = some (.tup (zs.map V.str)) ∧ rwOk zs ∧ ∀ H', Same H H' → Q (.bl true) H'
theorem c_is_row (T : Txt K mg) : Cal P w K mg base 4 "is_row" (sp_is_row K) [] := by
  have C_is_words := c_is_words (P := P) (w := w) (base := base) T
  have sc := sc_is_row
  refine cal_of T.d_is_row sc (fun _ _ _ _ _ _ us hl => match us, hl with | [_], _ => rfl) (fun vs H Q E h => ?_) (fun f cdv A outer s H vs Q E hr h => ?_)
  · obtain ⟨a, zs, rfl, _⟩ := h
    rfl
  · obtain ⟨a, zs, rfl, h⟩ := h
    refine ⟨_, (pss_one (ps_ret (pe_c C_is_words hr (by omega) rfl (pa_cons (pv 0) (pa_cons (pe_gc rfl T.g_MOST_WORDS) pa_nil))))), ?_⟩
    obtain ⟨ha, ok, q⟩ := h
    rw [← rowB_of ok] at q
    exact ⟨_, rfl, a, zs, 60, rfl, ha, by have := ok.1; omega, fun z hz => (ok.2 z hz).2, q⟩
end
end K06
namespace K06
open PySem L2 Nm
open C8 (Cal Mak pe_c pe_mk pe_gc)
open RZ (ItzT pi_zipA)
theorem asc_rows {rs : List (List Str)} (h : rs.Pairwise bef) : ∀ p ∈ rs.zip (rs.drop 1), rowLt p.1 p.2 = true := by
  induction rs with
  | nil =>
    intro p hp
    simp at hp
  | cons a r ih =>
    intro p hp
    obtain ⟨h1, h2⟩ := List.pairwise_cons.mp h
    cases r with
    | nil => simp at hp
    | cons b r =>
      rw [List.drop_one, List.tail_cons] at hp
      rcases List.mem_cons.mp (show p ∈ (a, b) :: ((b :: r).zip r) from hp) with e | e
      · rw [e]
        exact h1 b List.mem_cons_self
      · refine ih h2 p ?_
        rw [List.drop_one, List.tail_cons]
        exact e
theorem paired_drop {α β : Type} {R : α → β → Prop} : ∀ {xs : List α} {ys : List β}, Paired R xs ys → ∀ n, Paired R (xs.drop n) (ys.drop n)
  | _, _, h, 0 => h
  | _, _, .nil, n + 1 => by
    rw [List.drop_nil, List.drop_nil]
    exact .nil
  | _, _, .cons _ t, n + 1 => paired_drop t n
section
variable {P : Program} {w : World} {K : PySem.W.Frag} {mg : Str → Option Value} {base : Heap}
def sp_is_ascending (K : PySem.W.Frag) : Sp := fun vs H Q _ => ∃ (a : Addr), vs = [.ref a] ∧ ∃ rs, GmAt H a rs ∧ rs.Pairwise bef ∧ rs.length ≤ 1000 ∧ ∀ H', Same H H' → Q (.bl true) H'
theorem c_is_ascending (T : Txt K mg) : Cal P w K mg base 1 "is_ascending" (sp_is_ascending K) [] := by
  have sc := sc_is_ascending
  refine cal_of T.d_is_ascending sc (fun _ _ _ _ _ _ us hl => match us, hl with | [_], _ => rfl) (fun vs H Q E h => ?_) (fun f cdv A outer s H vs Q E hr h => ?_)
  · obtain ⟨a, rfl, _⟩ := h
    rfl
  · obtain ⟨a, rfl, h⟩ := h
    refine ⟨_, (pss_one (ps_ret (pe_callB (cr_all rfl) rfl T.m_all (by decide +kernel) (pa_cons (pe_lc (own := [("one", 1), ("other", 2)]) (g := gTup K 2 (gCons (gName 1) (gCons (gName 2) gNil))) rfl sc.nd (pi_zipA rfl T.m_zip (pa_cons (pv 0) (pa_cons (pe_slice sl_tupA (pv 0) (po_some pe_int) po_none) pa_nil))) (blkOk_by (own := [("one", 1), ("other", 2)]) (N := ["things", "one", "other"]) (sc := defScope s_is_ascending) (by decide +kernel)) (fun _ _ _ _ _ => (pg_tup rfl (pgs_cons (pg_name (i := 1) sc.nd rfl (Or.inl rfl)) (pgs_cons (pg_name (i := 2) sc.nd rfl (Or.inl rfl)) pgs_nil)))) (fun _ _ _ _ _ => pts_nil) (fun _ _ _ _ _ => (pe_cmpR (r := Nm.rLtDt K) (Nm.op_ltDt (u65 hr)) (pv 1) (pv 2) (nomark _)))) pa_nil)))), ?_⟩
    obtain ⟨rs, ⟨xs, ha, pa⟩, up, len, q⟩ := h
    have el := paired_len pa
    refine ⟨_, rfl, _, rfl, 1, rfl, ?_⟩
    dsimp only [tNoPart]
    refine sl_from1 ha fun b H1 g1 hb => ?_
    have pb := paired_drop pa 1
    refine ⟨a, b, xs, xs.drop 1, rfl, .inr ⟨SqT.of (g1 _ _ ha), SqT.of hb, fun D hD => ?_⟩⟩
    have lz : (rs.zip (rs.drop 1)).length = min xs.length (xs.drop 1).length := by
      rw [List.length_zip, el, List.length_drop, List.length_drop, el]
    refine lcS (walk_zipT (K := K) (a := a) (b := b) (xs := xs) (ys := xs.drop 1) rfl) stays_bl (rs.zip (rs.drop 1)) (fun _ => true) (fun p => rowLt p.1 p.2) lz.symm (by rw [List.length_zip]; omega) (fun H2 g => ⟨SqT.of (g _ _ (g1 _ _ ha)), SqT.of (g _ _ hb)⟩) hD ?_ ?_
    · rintro i x p H2 H3 Nx hp ⟨t3, x1, y1, rfl, hn, rfl, e1, e2⟩ sm _ yes
      obtain ⟨w1, hw1, r1, rfl, hr1⟩ := paired_at pa i _ e1
      obtain ⟨w2, hw2, r2, rfl, hr2⟩ := paired_at pb i _ e2
      have hz : p = (w1, w2) := by
        have z : (rs.zip (rs.drop 1))[i]? = some (w1, w2) := by
          rw [List.getElem?_zip_eq_some]
          exact ⟨hw1, hw2⟩
        rw [z] at hp
        exact (Option.some.inj hp).symm
      subst hz
      have g3 := (g1.trans sm).trans (same_new (o := .tup [V.ref r1, V.ref r2]) hn)
      refine ⟨t3, [.ref r1, .ref r2], rfl, SqT.of upd_same, rfl, _, _, rfl, _, _, rfl, rfl, rfl, ?_⟩
      refine ⟨_, rfl, _, rfl, rowL w1, rowL w2, dp_row (g3 _ _ hr1), dp_row (g3 _ _ hr2), alike_rowL _ _, by rw [depth_rowL]; decide, ?_⟩
      exact yes rfl _ _ (same_new hn) rfl
    · intro H2 sm l
      refine ⟨D, _, rfl, sql_bl l, ?_⟩
      have e : (((rs.zip (rs.drop 1)).filter fun _ => true).map fun p => rowLt p.1 p.2).all id = true := by
        rw [filter_all, List.all_map, List.all_eq_true]
        exact asc_rows up
      rw [e]
      exact q H2 (g1.trans sm)
end
end K06
namespace K06
open PySem L2 Nm
open C8 (Cal Mak pe_c pe_mk pe_gc)
open RZ (ItzT pi_zipA)
section
variable {P : Program} {w : World} {K : PySem.W.Frag} {mg : Str → Option Value} {base : Heap}
def sp_is_game (K : PySem.W.Frag) : Sp := fun vs H Q _ => ∃ (a : Addr), vs = [.ref a] ∧ ∃ rs, GmAt H a rs ∧ IsG rs ∧ ∀ H', Same H H' → Q (.bl true) H'
theorem c_is_game (T : Txt K mg) : Cal P w K mg base 5 "is_game" (sp_is_game K) [] := by
  have C_is_ascending := c_is_ascending (P := P) (w := w) (base := base) T
  have C_is_row := c_is_row (P := P) (w := w) (base := base) T
  have sc := sc_is_game
  refine cal_of T.d_is_game sc (fun _ _ _ _ _ _ us hl => match us, hl with | [_], _ => rfl) (fun vs H Q E h => ?_) (fun f cdv A outer s H vs Q E hr h => ?_)
  · obtain ⟨a, rfl, _⟩ := h
    rfl
  · obtain ⟨a, rfl, h⟩ := h
    refine ⟨_, (pss_cons (ps_if (PW.pt (pw_or (pt_not (pt_val (pe_callB call_isi rfl T.m_isinstance (by decide +kernel) (pa_cons (pv 0) (pa_cons (pe_bltn (v := .ty "tuple") (u := .type "tuple") rfl T.m_tuple (by decide +kernel) rfl) pa_nil))))) (pw_or1 (pt_not (pt_chain op_le op_le pe_int (pe_callB (r := Nm.rLenS K) (id := "len") Nm.call_lenS rfl T.m_len (by decide +kernel) (pa_cons (pv 0) pa_nil)) (pe_gc rfl T.g_MOST_ROWS)))))) (pss_one (ps_ret pe_bl)) pss_nil)
  (pss_cons (ps_if (PW.pt (pw_or (pt_not (pt_val (pe_callB (cr_all rfl) rfl T.m_all (by decide +kernel) (pa_cons (pe_lc (own := [("row", 2)]) (g := gName 2) rfl sc.nd (pi_tup (pv 0)) (blkOk_by (own := [("row", 2)]) (N := ["thing", "rows", "row"]) (sc := defScope s_is_game) (by decide +kernel)) (fun _ _ _ _ _ => (pg_name (i := 2) sc.nd rfl (Or.inl rfl))) (fun _ _ _ _ _ => pts_nil) (fun _ _ _ _ _ => (pe_c C_is_row hr (by omega) rfl (pa_cons (pv 2) pa_nil)))) pa_nil)))) (pw_or1 (pt_not (pt_val (pe_c C_is_ascending hr (by omega) rfl (pa_cons (pv 0) pa_nil))))))) (pss_one (ps_ret pe_bl)) pss_nil)
  (pss_cons (ps_set (i := 1) sc.nd rfl (Or.inr rfl) (Nm.pe_dcT (own := [("row", 2)]) (g := gName 2) rfl sc.nd (hu_of hr) (pi_tup (pv 0)) (blkOk_by (own := [("row", 2)]) (N := ["thing", "rows", "row"]) (sc := defScope s_is_game) (by decide +kernel)) (fun _ _ _ _ _ => (pg_name (i := 2) sc.nd rfl (Or.inl rfl))) (fun _ _ _ _ _ => (pv 2)) (fun _ _ _ _ _ => pe_bl)))
  (pss_one (ps_ret (pe_callB (cr_all rfl) rfl T.m_all (by decide +kernel) (pa_cons (pe_lc (own := [("row", 2)]) (g := gName 2) rfl sc.nd (pi_tup (pv 0)) (blkOk_by (own := [("row", 2)]) (N := ["thing", "rows", "row"]) (sc := defScope s_is_game) (by decide +kernel)) (fun _ _ _ _ _ => (pg_name (i := 2) sc.nd rfl (Or.inl rfl))) (fun _ _ _ _ _ => pts_nil) (fun _ _ _ _ _ => (pe_cmp (pc_din (hu_of hr) (pe_slice (r := rSlA K) sl_tupA (pv 2) po_none (po_some (pe_un un_neg pe_int))) (pv 1)) rfl))) pa_nil))))))), ?_⟩
    obtain ⟨rs, gm, G, q⟩ := h
    obtain ⟨xs, ha, pa⟩ := id gm
    have el := paired_len pa
    have few := G.few
    have one : 1 ≤ rs.length := List.length_pos_of_mem G.nil
    obtain ⟨t, h1, h2⟩ := tyc_tup (K := K) ha
    refine ⟨_, rfl, _, _, t, _, true, rfl, .ty _, h1, h2, true, rfl, ?_⟩
    refine iteF ⟨_, rfl, a, _, rfl, .inr (SqT.of ha), _, _, rfl, rfl, _, rfl, ?_⟩
    rw [decide_eq_true (show 1 ≤ (xs.length : Int) by omega)]
    refine iteT ⟨_, _, rfl, rfl, _, rfl, ?_⟩
    rw [decide_eq_true (show (xs.length : Int) ≤ 600 by omega)]
    refine iteF ⟨_, rfl, a, rfl, ⟨_, SqT.of ha⟩, fun D hD => ?_⟩
    refine lcS (walk_tup (K := K) (a := a) (xs := xs)) stays_bl rs (fun _ => true) (fun _ => true) el (by omega) (fun H1 g => SqT.of (g _ _ ha)) hD ?_ ?_
    · rintro i x ws H1 H2 Nx hw ⟨rfl, hx⟩ sm _ yes
      obtain ⟨ws', hw', r, rfl, hr⟩ := paired_at pa i _ hx
      have e : ws' = ws := Option.some.inj (hw'.symm.trans hw)
      subst e
      refine ⟨rfl, ?_⟩
      exact ⟨_, rfl, r, ws', rfl, sm _ _ hr, G.ok _ (List.mem_of_getElem? hw), fun H3 g3 => yes rfl _ _ g3 rfl⟩
    · intro H1 sm l
      refine ⟨D, _, rfl, sql_bl l, true, ?_, ?_⟩
      · rw [filter_all]
        have e : ((rs.map fun _ => true).all id) = true := by
          rw [List.all_map, List.all_eq_true]
          exact fun _ _ => rfl
        rw [e]
      refine iteF ⟨_, rfl, a, rfl, rs, gm.keep (tups_same sm), G.up, by omega, fun H2 g2 => ⟨true, rfl, ?_⟩⟩
      refine iteF ?_
      have sm2 := sm.trans g2
      have gm2 := gm.keep (tups_same sm2)
      refine ⟨_, rfl, a, rfl, ⟨_, SqT.of (sm2 _ _ ha)⟩, fun D2 hD2 => ?_⟩
      refine dcT_true (K := K) gm2 (by omega) hD2 (fun i r ws H3 Nx hw g3 hr ⟨ents, e1, e2, e3⟩ => ⟨rfl, _, rfl, ents, keyRow ws, r, rfl, e1, by rw [kV_row]; exact hr, e2, e3⟩) ?_
      intro H3 ents ks g3 hD3 hk mem
      have sm3 := sm2.trans g3
      refine ⟨_, rfl, a, rfl, ⟨_, SqT.of (sm3 _ _ ha)⟩, fun D4 hD4 => ?_⟩
      have n34 : D2 ≠ D4 := ne_of_none hD3 hD4
      refine lcS (walk_tup (K := K) (a := a) (xs := xs)) stays_bl rs (fun _ => true) (fun _ => true) el (by omega) (fun H1 g => SqT.of (g _ _ (sm3 _ _ ha))) hD4 ?_ ?_
      · rintro i x ws H4 H5 Nx hw ⟨rfl, hx⟩ sm4 _ yes
        obtain ⟨ws', hw', r, rfl, hr⟩ := paired_at pa i _ hx
        have e : ws' = ws := Option.some.inj (hw'.symm.trans hw)
        subst e
        refine ⟨rfl, ?_⟩
        refine ⟨_, rfl, 1, rfl, _, rfl, sl_last (sm4 _ _ (sm3 _ _ hr)) fun r2 H5 g5 hr2 => ?_⟩
        have m : ws'.dropLast ∈ ks := (mem _).mpr (G.pre _ (List.mem_of_getElem? hw))
        refine ⟨_, rfl, D2, valV ents (keyRow ws'.dropLast), rfl, DGet.t (g5 _ _ (sm4 _ _ hD3)) (by rw [kV_row, List.map_dropLast]; exact hr2), ?_⟩
        rw [keys_isSome hk, decide_eq_true m]
        exact yes rfl _ _ g5 rfl
      · intro H4 sm4 l4
        refine ⟨D4, _, rfl, sql_bl l4, ?_⟩
        rw [filter_all]
        have e : ((rs.map fun _ => true).all id) = true := by
          rw [List.all_map, List.all_eq_true]
          exact fun _ _ => rfl
        rw [e]
        exact q H4 (sm3.trans sm4)
end
end K06
namespace K06
open PySem L2 Nm
open C8 (Cal Mak pe_c pe_mk pe_gc)
open RZ (ItzT pi_zipA)
section
variable {P : Program} {w : World} {K : PySem.W.Frag} {mg : Str → Option Value} {base : Heap}
def sp_check_game (K : PySem.W.Frag) : Sp := fun vs H Q _ => ∃ (a : Addr), vs = [.ref a] ∧ ∃ rs, GmAt H a rs ∧ IsG rs ∧ ∀ H', Same H H' → Q .non H'
theorem c_check_game (T : Txt K mg) : Cal P w K mg base 6 "check_game" (sp_check_game K) [] := by
  have C_is_game := c_is_game (P := P) (w := w) (base := base) T
  have sc := sc_check_game
  refine cal_of T.d_check_game sc (fun _ _ _ _ _ _ us hl => match us, hl with | [_], _ => rfl) (fun vs H Q E h => ?_) (fun f cdv A outer s H vs Q E hr h => ?_)
  · obtain ⟨a, rfl, _⟩ := h
    rfl
  · obtain ⟨a, rfl, h⟩ := h
    refine ⟨_, (pss_one (ps_if (pt_not (pt_val (pe_c C_is_game hr (by omega) rfl (pa_cons (pv 0) pa_nil)))) (pss_one ps_never) pss_nil)), ?_⟩
    obtain ⟨rs, gm, G, q⟩ := h
    exact ⟨_, rfl, a, rfl, rs, gm, G, fun H1 g1 => ⟨true, rfl, iteF (q H1 g1)⟩⟩
end
end K06
namespace K06
open PySem L2 Nm
open C8 (Cal Mak pe_c pe_mk pe_gc)
open RZ (ItzT pi_zipA)
section
variable {P : Program} {w : World} {K : PySem.W.Frag} {mg : Str → Option Value} {base : Heap}
def sp_check_place (K : PySem.W.Frag) : Sp := fun vs H Q _ => ∃ (a r : Addr), vs = [.ref a, .ref r] ∧ ∃ rs row, GmAt H a rs ∧ IsG rs ∧ H r = some (.tup (row.map V.str)) ∧ row ∈ rs ∧ ∀ H', Same H H' → Q .non H'
theorem c_check_place (T : Txt K mg) : Cal P w K mg base 7 "check_place" (sp_check_place K) [] := by
  have C_check_game := c_check_game (P := P) (w := w) (base := base) T
  have C_is_row := c_is_row (P := P) (w := w) (base := base) T
  have sc := sc_check_place
  refine cal_of T.d_check_place sc (fun _ _ _ _ _ _ us hl => match us, hl with | [_, _], _ => rfl) (fun vs H Q E h => ?_) (fun f cdv A outer s H vs Q E hr h => ?_)
  · obtain ⟨a, r, rfl, _⟩ := h
    rfl
  · obtain ⟨a, r, rfl, h⟩ := h
    refine ⟨_, (pss_cons (ps_expr (pe_c C_check_game hr (by omega) rfl (pa_cons (pv 0) pa_nil)))
  (pss_one (ps_if (PW.pt (pw_or (pt_not (pt_val (pe_c C_is_row hr (by omega) rfl (pa_cons (pv 1) pa_nil)))) (pw_or1 (pt_cmpR (Nm.op_notInT (u65 hr)) (pv 1) (pv 0) rfl)))) (pss_one ps_never) pss_nil))), ?_⟩
    obtain ⟨rs, row, gm, G, hr, mr, q⟩ := h
    refine ⟨_, rfl, a, rfl, rs, gm, G, fun H1 g1 => ?_⟩
    refine ⟨_, rfl, r, row, rfl, g1 _ _ hr, G.ok _ mr, fun H2 g2 => ⟨true, rfl, iteF ?_⟩⟩
    have g := g1.trans g2
    refine ⟨_, rfl, _, rfl, rowD row, rs.map rowD, dp_row (g _ _ hr), dp_game (gm.keep (tups_same g)), shaped_rw (G.ok _ mr).2, shaped_game fun z hz => (G.ok z hz).2, ?_⟩
    rw [any_row, decide_eq_true mr]
    exact ⟨false, rfl, iteF (q H2 g)⟩
end
end K06
namespace K06
open PySem L2 Nm
open C8 (Cal Mak pe_c pe_mk pe_gc)
open RZ (ItzT pi_zipA)
theorem at_lastW {ws : List Str} (h : ws ≠ []) : atI (ws.map V.str) (-1) = some (V.str (lastW ws)) := by
  have e : ws = ws.dropLast ++ [ws.getLast h] := (List.dropLast_concat_getLast h).symm
  have l : 0 < ws.length := List.length_pos_iff.mpr h
  unfold atI ixN
  rw [List.length_map, if_neg (by decide), if_pos (by omega)]
  show (ws.map V.str)[((-1 : Int) + (ws.length : Int)).toNat]? = _
  rw [show ((-1 : Int) + (ws.length : Int)).toNat = ws.length - 1 by omega, List.getElem?_map]
  unfold lastW
  rw [List.getLast?_eq_getElem?]
  cases c : ws[ws.length - 1]? with
  | none =>
    have := List.getElem?_eq_none_iff.mp c
    omega
  | some x => rfl
section
variable {P : Program} {w : World} {K : PySem.W.Frag} {mg : Str → Option Value} {base : Heap}
def sp_let_words (K : PySem.W.Frag) : Sp := fun vs H Q _ => ∃ (a r : Addr), vs = [.ref a, .ref r] ∧ ∃ rs row, GmAt H a rs ∧ IsG rs ∧ H r = some (.tup (row.map V.str)) ∧ row ∈ rs ∧ ∀ p H', Same H H' → H' p = some (.tup ((wordsAt rs row).map V.str)) → Q (.ref p) H'
theorem c_let_words (T : Txt K mg) : Cal P w K mg base 8 "let_words" (sp_let_words K) [] := by
  have C_check_place := c_check_place (P := P) (w := w) (base := base) T
  have sc := sc_let_words
  refine cal_of T.d_let_words sc (fun _ _ _ _ _ _ us hl => match us, hl with | [_, _], _ => rfl) (fun vs H Q E h => ?_) (fun f cdv A outer s H vs Q E hr h => ?_)
  · obtain ⟨a, r, rfl, _⟩ := h
    rfl
  · obtain ⟨a, r, rfl, h⟩ := h
    refine ⟨_, (pss_cons (ps_expr (pe_c C_check_place hr (by omega) rfl (pa_cons (pv 0) (pa_cons (pv 1) pa_nil))))
  (pss_one (ps_ret (pe_callTy call_tuple_of rfl T.m_tuple (by decide +kernel) (pa_cons (pe_lc (own := [("longer", 2)]) (g := gName 2) rfl sc.nd (pi_tup (pv 0)) (blkOk_by (own := [("longer", 2)]) (N := ["game", "row", "longer"]) (sc := defScope s_let_words) (by decide +kernel)) (fun _ _ _ _ _ => (pg_name (i := 2) sc.nd rfl (Or.inl rfl))) (fun _ _ _ _ _ => (pts_one (PW.pt (pw_and (pt_cmpR op_eq (pe_callB (r := Nm.rLenS K) (id := "len") Nm.call_lenS rfl T.m_len (by decide +kernel) (pa_cons (pv 2) pa_nil)) (pe_op op_add (pe_callB (r := Nm.rLenS K) (id := "len") Nm.call_lenS rfl T.m_len (by decide +kernel) (pa_cons (pv 1) pa_nil)) pe_int) (nomark _)) (pw_and1 (pt_cmpR (r := rEqD K) (op_eqD hr.units) (pe_slice (r := rSlA K) sl_tupA (pv 2) po_none (po_some (pe_un un_neg pe_int))) (pv 1) (nomark _))))))) (fun _ _ _ _ _ => (pe_ix (r := rIxT K) ix_tup (pv 2) (pe_un un_neg pe_int) (fun _ _ => rfl)))) pa_nil))))), ?_⟩
    obtain ⟨rs, row, gm, G, hr, mr, q⟩ := h
    have few := G.few
    refine ⟨_, rfl, _, rfl, a, r, rfl, rs, row, gm, G, hr, mr, fun H1 g1 => ?_⟩
    obtain ⟨xs, ha, pa⟩ := gm.keep (tups_same g1)
    have el := paired_len pa
    have hr1 := g1 _ _ hr
    refine ⟨_, rfl, a, rfl, ⟨_, SqT.of ha⟩, fun D hD => ?_⟩
    refine lcS (walk_tup (K := K) (a := a) (xs := xs)) stays_str rs (isNext row) lastW el (by omega) (fun H2 g => SqT.of (g _ _ ha)) hD ?_ ?_
    · rintro i x ws H2 H3 Nx hw ⟨rfl, hx⟩ sm no yes
      obtain ⟨ws', hw', y, rfl, hy⟩ := paired_at pa i _ hx
      have e : ws' = ws := Option.some.inj (hw'.symm.trans hw)
      subst e
      refine ⟨rfl, ?_⟩
      have hy2 := sm _ _ hy
      refine ⟨_, rfl, y, _, rfl, .inr (SqT.of hy2), _, rfl, r, _, rfl, .inr (SqT.of (sm _ _ hr1)), _, _, rfl, rfl, rfl, _, rfl, ?_⟩
      rw [List.length_map, List.length_map, decI]
      refine ite2 (fun z => ?_) (fun z => ?_)
      · have lz : ws'.length = row.length + 1 := by
          have := of_decide_eq_true z
          omega
        refine ⟨_, rfl, 1, rfl, _, rfl, sl_last hy2 fun r2 H4 g4 hr2 => ?_⟩
        rw [← List.map_dropLast] at hr2
        refine ⟨_, rfl, rowD ws'.dropLast, rowD row, dp_row hr2, dp_row (g4 _ _ (sm _ _ hr1)), ?_⟩
        have okw := (G.ok _ (List.mem_of_getElem? hw)).2
        refine ⟨shaped_rw fun z hz => okw z (List.dropLast_subset _ hz), shaped_rw (G.ok _ mr).2, ?_⟩
        rw [eqv_row]
        by_cases c : ws'.dropLast = row
        · rw [decide_eq_true c]
          refine ⟨true, rfl, iteT ?_⟩
          have nx : isNext row ws' = true := by
            unfold isNext
            rw [decide_eq_true lz, decide_eq_true c]
            rfl
          have ne : ws' ≠ [] := fun e => by
            rw [e] at lz
            simp at lz
          exact ⟨_, rfl, 1, rfl, y, _, -1, _, rfl, rfl, SqT.of (g4 _ _ hy2), at_lastW ne, yes nx _ _ g4 rfl⟩
        · rw [decide_eq_false c]
          refine ⟨false, rfl, iteF (no ?_ _ g4)⟩
          unfold isNext
          rw [decide_eq_false c, Bool.and_false]
      · refine iteF (no ?_ _ (Same.refl _))
        have lz : ¬ ws'.length = row.length + 1 := fun e => z (decide_eq_true (by omega))
        unfold isNext
        rw [decide_eq_false lz, Bool.false_and]
    · intro H2 sm l
      refine ⟨D, _, rfl, .inl ⟨SqL.of (lst_str l), fun p hp => ?_⟩⟩
      exact q p _ ((g1.trans sm).trans (same_new hp)) upd_same
end
end K06
namespace K06
open PySem L2 Nm
open C8 (Cal Mak pe_c pe_mk pe_gc)
open RZ (ItzT pi_zipA)
section
variable {P : Program} {w : World} {K : PySem.W.Frag} {mg : Str → Option Value} {base : Heap}
def sp_beginnings (tup : Bool) : Sp := fun vs H Q _ => ∃ (a : Addr), vs = [.ref a] ∧ ∃ rs, (if tup = true then GmAt H a rs else GlAt H a rs) ∧ (∀ r ∈ rs, r.length ≤ 60) ∧ rs.length ≤ 600 ∧ ∀ gs p H', Begs rs gs → Same H H' → GmAt H' p gs → Q (.ref p) H'
theorem c_beginnings_l (T : Txt K mg) : Cal P w K mg base 1 "beginnings" (sp_beginnings false) [] := by
  have sc := sc_beginnings
  refine cal_of (k := 0) T.d_beginnings sc (fun _ _ _ _ _ _ us hl => match us, hl with | [_], _ => rfl) (fun vs H Q E h => ?_) (fun f cdv A outer s H vs Q E hr h => ?_)
  · obtain ⟨a, rfl, _⟩ := h
    rfl
  · obtain ⟨a, rfl, rs, hx, l60, few, q⟩ := h
    obtain ⟨xs, ha, pa⟩ : ∃ xs, H a = some (.lst xs) ∧ Paired (RwAt H) xs rs := hx
    have el := paired_len pa
    refine ⟨_, (pss_cons (ps_set (i := 1) sc.nd rfl (Or.inl rfl) (Nm.pe_disp1 (hu_of hr) (pe_tup pa_nil) pe_bl))
  (pss_cons (ps_for PassesOwn.never rfl (pi_list (pv 0)) (pg_name (i := 2) sc.nd rfl (Or.inl rfl)) (pss_one (ps_for PassesOwn.never rfl (pi_range1 rfl T.m_range (pa_cons (pe_callB (r := Nm.rLenS K) (id := "len") Nm.call_lenS rfl T.m_len (by decide +kernel) (pa_cons (pv 2) pa_nil)) pa_nil)) (pg_name (i := 3) sc.nd rfl (Or.inl rfl)) (pss_one (ps_dput (hu_of hr) (pv 1) (pe_slice sl_tupA (pv 2) po_none (po_some (pe_op op_add (pv 3) pe_int))) pe_bl rfl)))))
  (pss_one (ps_ret (pe_callTy call_tuple_of rfl T.m_tuple (by decide +kernel) (pa_cons (pe_callB (Nm.cr_sortKD rfl (u66 hr)) rfl T.m_sorted (by decide +kernel) (pa_cons (pv 1) pa_nil)) pa_nil)))))), ?_⟩
    refine fun D hD => ⟨nought, fun t ht => ⟨?_, [], t, rfl, upd_same, ?_⟩⟩
    · rw [upd_ne (fun z => by rw [← z, upd_same] at ht; cases ht)]
      exact upd_same
    have g0 : Same H (upd (upd (upd H D (.dT [])) t (.tup [])) D (.dT [([], .bl true)])) := same_mut ((same_new hD).trans (same_new ht)) hD
    have h0 : upd (upd (upd H D (.dT [])) t (.tup [])) D (.dT [([], .bl true)]) D = some (.dT [([], .bl true)]) := upd_same
    generalize upd (upd (upd H D (.dT [])) t (.tup [])) D (.dT [([], .bl true)]) = H1 at g0 h0
    refine ⟨_, rfl, a, rfl, ⟨_, SqL.of (g0 _ _ ha)⟩, ?_⟩
    refine for_it (walk_list (K := K) (a := a) (xs := xs)) (fun i σ H' => ∃ v2 v3 ents ks, σ = [some (.ref a), some (.ref D), v2, v3] ∧ Same H H' ∧ H' D = some (.dT ents) ∧ ents.length ≤ 1 + 61 * i ∧ ents.map (·.1) = ks.map keyRow ∧ ks.Nodup ∧ ∀ x, x ∈ ks ↔ x = [] ∨ ∃ r ∈ rs.take i, x <+: r)
      ⟨none, none, _, [[]], rfl, g0, h0, by decide, rfl, List.pairwise_singleton _ _, fun x => by simp⟩ (fun i σ H' _ ⟨_, _, _, _, _, g, _⟩ => SqL.of (g _ _ ha)) ?_ ?_
    · rintro i x σ H2 H3 hi ⟨v2, v3, ents, ks, rfl, g2, hD2, le2, hk, nd, mem⟩ ⟨rfl, hx⟩
      obtain ⟨ws, hw, y, rfl, hy⟩ := paired_at pa i x hx
      have l6 := l60 ws (List.mem_of_getElem? hw)
      have in60 : i < rs.length := (List.getElem?_eq_some_iff.mp hw).1
      refine ⟨_, rfl, y, _, rfl, .inr (SqT.of (g2 _ _ hy)), _, rfl, by rw [List.length_map]; omega, by rw [List.length_map]; omega, ?_⟩
      refine for_range (lo := 0) (n := (((ws.map V.str).length : Nat) : Int).toNat) (fun j σ H' => ∃ v3 ents ks, σ = [some (.ref a), some (.ref D), some (.ref y), v3] ∧ Same H H' ∧ H' D = some (.dT ents) ∧ ents.length ≤ 1 + 61 * i + j ∧ ents.map (·.1) = ks.map keyRow ∧ ks.Nodup ∧ ∀ x, x ∈ ks ↔ (x = [] ∨ ∃ r ∈ rs.take i, x <+: r) ∨ (x <+: ws ∧ x.length ≤ j))
        ⟨v3, ents, ks, rfl, g2, hD2, by omega, hk, nd, fun x => by
          rw [mem x]
          constructor
          · exact .inl
          · rintro (z | ⟨_, z⟩)
            · exact z
            · exact .inl (List.eq_nil_of_length_eq_zero (by omega))⟩ ?_ ?_
      · rintro j σ H4 hj ⟨v3, ents, ks, rfl, g4, hD4, le4, hk4, nd4, mem4⟩
        have jl : j < ws.length := by
          rw [List.length_map] at hj
          omega
        refine ⟨_, rfl, _, rfl, _, rfl, _, _, rfl, rfl, _, rfl, sl_takeE (k := j + 1) (by omega) (g4 _ _ hy) fun r H5 g5 hr5 => ?_⟩
        have big : (1000000 : Nat) < PySem.sizeLine := by decide
        have ht : H5 r = some (.tup ((keyRow (ws.take (j + 1))).map kV)) := by
          rw [kV_row, List.map_take]
          exact hr5
        have hD5 := g5 _ _ hD4
        have more := length_putK ents (keyRow (ws.take (j + 1))) (V.bl true)
        refine ⟨D, _, rfl, DPut.t hD5 ht (by omega), ?_⟩
        refine ⟨_, _, plusR ks (ws.take (j + 1)), rfl, same_mut (g4.trans g5) hD, upd_same, by omega, keys_put hk4 nd4 _ _, plusR_nd nd4 _, fun x => ?_⟩
        rw [mem_plusR, mem4 x]
        constructor
        · rintro ((z | ⟨z1, z2⟩) | rfl)
          · exact .inl z
          · exact .inr ⟨z1, by omega⟩
          · exact .inr ⟨List.take_prefix _ _, by rw [List.length_take]; omega⟩
        · rintro (z | ⟨z1, z2⟩)
          · exact .inl (.inl z)
          · by_cases c : x.length ≤ j
            · exact .inl (.inr ⟨z1, c⟩)
            · refine .inr ?_
              have e := List.prefix_iff_eq_take.mp z1
              rw [show x.length = j + 1 by omega] at e
              exact e
      · rintro σ H4 ⟨v3, ents, ks, rfl, g4, hD4, le4, hk4, nd4, mem4⟩
        have nn : (((ws.map V.str).length : Nat) : Int).toNat = ws.length := by rw [List.length_map]; omega
        rw [nn] at le4
        refine ⟨_, _, ents, ks, rfl, g4, hD4, by omega, hk4, nd4, fun x => ?_⟩
        rw [mem4 x, nn, take_one hw]
        constructor
        · rintro ((z | ⟨r, z1, z2⟩) | ⟨z1, _⟩)
          · exact .inl z
          · exact .inr ⟨r, List.mem_append_left _ z1, z2⟩
          · exact .inr ⟨ws, List.mem_append_right _ (List.mem_singleton.mpr rfl), z1⟩
        · rintro (z | ⟨r, z1, z2⟩)
          · exact .inl (.inl z)
          · rcases List.mem_append.mp z1 with m | m
            · exact .inl (.inr ⟨r, m, z2⟩)
            · rw [List.mem_singleton.mp m] at z2
              exact .inr ⟨z2, z2.length_le⟩
    · rintro σ H2 ⟨v2, v3, ents, ks, rfl, g2, hD2, le2, hk, nd, mem⟩
      rw [el, List.take_length] at mem
      refine ⟨_, rfl, D, ks, ents, rfl, hD2, hk, fun bs ys p pb srt stb hp => ⟨p, ys, rfl, .inl ⟨SqL.of upd_same, fun p2 hp2 => ?_⟩⟩⟩
      obtain ⟨s1, s2, s3⟩ := sorted_rows pb nd srt stb
      have g3 := (same_new (o := .lst ys) hp).trans (same_new (o := .tup ys) hp2)
      refine q (ys.map (rowOf H2)) p2 _ ⟨s2, fun x => ?_⟩ (g2.trans g3) ⟨ys, upd_same, paired_mono (fun _ _ => stays_rw _ _ _ _ (tups_same g3)) s1⟩
      rw [s3.mem_iff, mem x]
theorem c_beginnings_t (T : Txt K mg) : Cal P w K mg base 1 "beginnings" (sp_beginnings true) [] := by
  have sc := sc_beginnings
  refine cal_of (k := 0) T.d_beginnings sc (fun _ _ _ _ _ _ us hl => match us, hl with | [_], _ => rfl) (fun vs H Q E h => ?_) (fun f cdv A outer s H vs Q E hr h => ?_)
  · obtain ⟨a, rfl, _⟩ := h
    rfl
  · obtain ⟨a, rfl, rs, hx, l60, few, q⟩ := h
    obtain ⟨xs, ha, pa⟩ : ∃ xs, H a = some (.tup xs) ∧ Paired (RwAt H) xs rs := hx
    have el := paired_len pa
    refine ⟨_, (pss_cons (ps_set (i := 1) sc.nd rfl (Or.inl rfl) (Nm.pe_disp1 (hu_of hr) (pe_tup pa_nil) pe_bl))
  (pss_cons (ps_for PassesOwn.never rfl (pi_tup (pv 0)) (pg_name (i := 2) sc.nd rfl (Or.inl rfl)) (pss_one (ps_for PassesOwn.never rfl (pi_range1 rfl T.m_range (pa_cons (pe_callB (r := Nm.rLenS K) (id := "len") Nm.call_lenS rfl T.m_len (by decide +kernel) (pa_cons (pv 2) pa_nil)) pa_nil)) (pg_name (i := 3) sc.nd rfl (Or.inl rfl)) (pss_one (ps_dput (hu_of hr) (pv 1) (pe_slice sl_tupA (pv 2) po_none (po_some (pe_op op_add (pv 3) pe_int))) pe_bl rfl)))))
  (pss_one (ps_ret (pe_callTy call_tuple_of rfl T.m_tuple (by decide +kernel) (pa_cons (pe_callB (Nm.cr_sortKD rfl (u66 hr)) rfl T.m_sorted (by decide +kernel) (pa_cons (pv 1) pa_nil)) pa_nil)))))), ?_⟩
    refine fun D hD => ⟨nought, fun t ht => ⟨?_, [], t, rfl, upd_same, ?_⟩⟩
    · rw [upd_ne (fun z => by rw [← z, upd_same] at ht; cases ht)]
      exact upd_same
    have g0 : Same H (upd (upd (upd H D (.dT [])) t (.tup [])) D (.dT [([], .bl true)])) := same_mut ((same_new hD).trans (same_new ht)) hD
    have h0 : upd (upd (upd H D (.dT [])) t (.tup [])) D (.dT [([], .bl true)]) D = some (.dT [([], .bl true)]) := upd_same
    generalize upd (upd (upd H D (.dT [])) t (.tup [])) D (.dT [([], .bl true)]) = H1 at g0 h0
    refine ⟨_, rfl, a, rfl, ⟨_, SqT.of (g0 _ _ ha)⟩, ?_⟩
    refine for_it (walk_tup (K := K) (a := a) (xs := xs)) (fun i σ H' => ∃ v2 v3 ents ks, σ = [some (.ref a), some (.ref D), v2, v3] ∧ Same H H' ∧ H' D = some (.dT ents) ∧ ents.length ≤ 1 + 61 * i ∧ ents.map (·.1) = ks.map keyRow ∧ ks.Nodup ∧ ∀ x, x ∈ ks ↔ x = [] ∨ ∃ r ∈ rs.take i, x <+: r)
      ⟨none, none, _, [[]], rfl, g0, h0, by decide, rfl, List.pairwise_singleton _ _, fun x => by simp⟩ (fun i σ H' _ ⟨_, _, _, _, _, g, _⟩ => SqT.of (g _ _ ha)) ?_ ?_
    · rintro i x σ H2 H3 hi ⟨v2, v3, ents, ks, rfl, g2, hD2, le2, hk, nd, mem⟩ ⟨rfl, hx⟩
      obtain ⟨ws, hw, y, rfl, hy⟩ := paired_at pa i x hx
      have l6 := l60 ws (List.mem_of_getElem? hw)
      have in60 : i < rs.length := (List.getElem?_eq_some_iff.mp hw).1
      refine ⟨_, rfl, y, _, rfl, .inr (SqT.of (g2 _ _ hy)), _, rfl, by rw [List.length_map]; omega, by rw [List.length_map]; omega, ?_⟩
      refine for_range (lo := 0) (n := (((ws.map V.str).length : Nat) : Int).toNat) (fun j σ H' => ∃ v3 ents ks, σ = [some (.ref a), some (.ref D), some (.ref y), v3] ∧ Same H H' ∧ H' D = some (.dT ents) ∧ ents.length ≤ 1 + 61 * i + j ∧ ents.map (·.1) = ks.map keyRow ∧ ks.Nodup ∧ ∀ x, x ∈ ks ↔ (x = [] ∨ ∃ r ∈ rs.take i, x <+: r) ∨ (x <+: ws ∧ x.length ≤ j))
        ⟨v3, ents, ks, rfl, g2, hD2, by omega, hk, nd, fun x => by
          rw [mem x]
          constructor
          · exact .inl
          · rintro (z | ⟨_, z⟩)
            · exact z
            · exact .inl (List.eq_nil_of_length_eq_zero (by omega))⟩ ?_ ?_
      · rintro j σ H4 hj ⟨v3, ents, ks, rfl, g4, hD4, le4, hk4, nd4, mem4⟩
        have jl : j < ws.length := by
          rw [List.length_map] at hj
          omega
        refine ⟨_, rfl, _, rfl, _, rfl, _, _, rfl, rfl, _, rfl, sl_takeE (k := j + 1) (by omega) (g4 _ _ hy) fun r H5 g5 hr5 => ?_⟩
        have big : (1000000 : Nat) < PySem.sizeLine := by decide
        have ht : H5 r = some (.tup ((keyRow (ws.take (j + 1))).map kV)) := by
          rw [kV_row, List.map_take]
          exact hr5
        have hD5 := g5 _ _ hD4
        have more := length_putK ents (keyRow (ws.take (j + 1))) (V.bl true)
        refine ⟨D, _, rfl, DPut.t hD5 ht (by omega), ?_⟩
        refine ⟨_, _, plusR ks (ws.take (j + 1)), rfl, same_mut (g4.trans g5) hD, upd_same, by omega, keys_put hk4 nd4 _ _, plusR_nd nd4 _, fun x => ?_⟩
        rw [mem_plusR, mem4 x]
        constructor
        · rintro ((z | ⟨z1, z2⟩) | rfl)
          · exact .inl z
          · exact .inr ⟨z1, by omega⟩
          · exact .inr ⟨List.take_prefix _ _, by rw [List.length_take]; omega⟩
        · rintro (z | ⟨z1, z2⟩)
          · exact .inl (.inl z)
          · by_cases c : x.length ≤ j
            · exact .inl (.inr ⟨z1, c⟩)
            · refine .inr ?_
              have e := List.prefix_iff_eq_take.mp z1
              rw [show x.length = j + 1 by omega] at e
              exact e
      · rintro σ H4 ⟨v3, ents, ks, rfl, g4, hD4, le4, hk4, nd4, mem4⟩
        have nn : (((ws.map V.str).length : Nat) : Int).toNat = ws.length := by rw [List.length_map]; omega
        rw [nn] at le4
        refine ⟨_, _, ents, ks, rfl, g4, hD4, by omega, hk4, nd4, fun x => ?_⟩
        rw [mem4 x, nn, take_one hw]
        constructor
        · rintro ((z | ⟨r, z1, z2⟩) | ⟨z1, _⟩)
          · exact .inl z
          · exact .inr ⟨r, List.mem_append_left _ z1, z2⟩
          · exact .inr ⟨ws, List.mem_append_right _ (List.mem_singleton.mpr rfl), z1⟩
        · rintro (z | ⟨r, z1, z2⟩)
          · exact .inl (.inl z)
          · rcases List.mem_append.mp z1 with m | m
            · exact .inl (.inr ⟨r, m, z2⟩)
            · rw [List.mem_singleton.mp m] at z2
              exact .inr ⟨z2, z2.length_le⟩
    · rintro σ H2 ⟨v2, v3, ents, ks, rfl, g2, hD2, le2, hk, nd, mem⟩
      rw [el, List.take_length] at mem
      refine ⟨_, rfl, D, ks, ents, rfl, hD2, hk, fun bs ys p pb srt stb hp => ⟨p, ys, rfl, .inl ⟨SqL.of upd_same, fun p2 hp2 => ?_⟩⟩⟩
      obtain ⟨s1, s2, s3⟩ := sorted_rows pb nd srt stb
      have g3 := (same_new (o := .lst ys) hp).trans (same_new (o := .tup ys) hp2)
      refine q (ys.map (rowOf H2)) p2 _ ⟨s2, fun x => ?_⟩ (g2.trans g3) ⟨ys, upd_same, paired_mono (fun _ _ => stays_rw _ _ _ _ (tups_same g3)) s1⟩
      rw [s3.mem_iff, mem x]
end
end K06
namespace K06
open PySem L2 Nm
open C8 (Cal Mak pe_c pe_mk pe_gc)
open RZ (ItzT pi_zipA)
section
variable {P : Program} {w : World} {K : PySem.W.Frag} {mg : Str → Option Value} {base : Heap}
def sp_game_of (tup : Bool) : Sp := fun vs H Q _ => ∃ (a : Addr), vs = [.ref a] ∧ ∃ rs, (if tup = true then GmAt H a rs else GlAt H a rs) ∧ (∀ r ∈ rs, rwOk r) ∧ (∀ gs, Begs rs gs → gs.length ≤ 600) ∧ rs.length ≤ 600 ∧ ∀ gs p H', Begs rs gs → Same H H' → GmAt H' p gs → Q (.ref p) H'
theorem c_game_of_l (T : Txt K mg) : Cal P w K mg base 5 "game_of" (sp_game_of false) [] := by
  have C_beginnings := c_beginnings_l (P := P) (w := w) (base := base) T
  have C_is_row := c_is_row (P := P) (w := w) (base := base) T
  have sc := sc_game_of
  refine cal_of (k := 4) T.d_game_of sc (fun _ _ _ _ _ _ us hl => match us, hl with | [_], _ => rfl) (fun vs H Q E h => ?_) (fun f cdv A outer s H vs Q E hr h => ?_)
  · obtain ⟨a, rfl, _⟩ := h
    rfl
  · obtain ⟨a, rfl, rs, hx, ok, few, len, q⟩ := h
    obtain ⟨xs, ha, pa⟩ : ∃ xs, H a = some (.lst xs) ∧ Paired (RwAt H) xs rs := id hx
    have el := paired_len pa
    refine ⟨_, (pss_cons (ps_if (PW.pt (pw_or (pt_not (pt_val (pe_callB call_isiT rfl T.m_isinstance (by decide +kernel) (pa_cons (pv 0) (pa_cons (pe_tup (pa_cons (pe_bltn (v := .ty "list") (u := .type "list") rfl T.m_list (by decide +kernel) rfl) (pa_cons (pe_bltn (v := .ty "tuple") (u := .type "tuple") rfl T.m_tuple (by decide +kernel) rfl) pa_nil))) pa_nil))))) (pw_or1 (pt_cmpR op_gt (pe_callB (r := Nm.rLenS K) (id := "len") Nm.call_lenS rfl T.m_len (by decide +kernel) (pa_cons (pv 0) pa_nil)) (pe_gc rfl T.g_MOST_ROWS) (nomark _))))) (pss_one ps_never) pss_nil)
  (pss_cons (ps_if (pt_not (pt_val (pe_callB (cr_all rfl) rfl T.m_all (by decide +kernel) (pa_cons (pe_lc (own := [("row", 2)]) (g := gName 2) rfl sc.nd (pi_list (pv 0)) (blkOk_by (own := [("row", 2)]) (N := ["rows", "game", "row"]) (sc := defScope s_game_of) (by decide +kernel)) (fun _ _ _ _ _ => (pg_name (i := 2) sc.nd rfl (Or.inl rfl))) (fun _ _ _ _ _ => pts_nil) (fun _ _ _ _ _ => (pe_c C_is_row hr (by omega) rfl (pa_cons (pv 2) pa_nil)))) pa_nil)))) (pss_one ps_never) pss_nil)
  (pss_cons (ps_set (i := 1) sc.nd rfl (Or.inl rfl) (pe_c C_beginnings hr (by omega) rfl (pa_cons (pv 0) pa_nil)))
  (pss_cons (ps_if (pt_cmpR op_gt (pe_callB (r := Nm.rLenS K) (id := "len") Nm.call_lenS rfl T.m_len (by decide +kernel) (pa_cons (pv 1) pa_nil)) (pe_gc rfl T.g_MOST_ROWS) (nomark _)) (pss_one ps_never) pss_nil)
  (pss_one (ps_ret (pv 1))))))), ?_⟩
    refine ⟨_, rfl, two, fun tp htp => ?_⟩
    have g0 := same_new (o := .tup [V.ty "list", V.ty "tuple"]) htp
    refine ⟨_, tp, _, _, _, true, rfl, upd_same, .cons (.ty _) (.cons (.ty _) .nil), .base (.lst (g0 _ _ ha)), kit_lt_lst, true, rfl, ?_⟩
    refine iteF ⟨_, rfl, a, _, rfl, .inl (SqL.of (g0 _ _ ha)), _, _, rfl, rfl, _, rfl, ?_⟩
    rw [decide_eq_false (show ¬ ((xs.length : Int) > 600) by omega)]
    refine iteF ⟨_, rfl, a, rfl, ⟨_, SqL.of (g0 _ _ ha)⟩, fun D hD => ?_⟩
    refine lcS (walk_list (K := K) (a := a) (xs := xs)) stays_bl rs (fun _ => true) (fun _ => true) el (by omega) (fun H1 g => SqL.of (g _ _ (g0 _ _ ha))) hD ?_ ?_
    · rintro i x ws H1 H2 Nx hw ⟨rfl, hx⟩ sm _ yes
      obtain ⟨ws', hw', r, rfl, hr⟩ := paired_at pa i _ hx
      have e : ws' = ws := Option.some.inj (hw'.symm.trans hw)
      subst e
      refine ⟨rfl, ?_⟩
      exact ⟨_, rfl, r, ws', rfl, sm _ _ (g0 _ _ hr), ok _ (List.mem_of_getElem? hw), fun H3 g3 => yes rfl _ _ g3 rfl⟩
    · intro H1 sm l
      refine ⟨D, _, rfl, sql_bl l, true, ?_, ?_⟩
      · rw [filter_all]
        have e : ((rs.map fun _ => true).all id) = true := by
          rw [List.all_map, List.all_eq_true]
          exact fun _ _ => rfl
        rw [e]
      have g1 := g0.trans sm
      refine iteF ⟨_, rfl, a, rfl, rs, ⟨xs, g1 _ _ ha, paired_mono (fun _ _ => stays_rw _ _ _ _ (tups_same g1)) pa⟩, fun r hr => (ok r hr).1, len, fun gs p H2 bg g2 gm => ?_⟩
      have fg := few gs bg
      obtain ⟨zs, hz, pz⟩ := id gm
      have ez := paired_len pz
      refine ⟨_, rfl, p, _, rfl, .inr (SqT.of hz), _, _, rfl, rfl, _, rfl, ?_⟩
      rw [decide_eq_false (show ¬ ((zs.length : Int) > 600) by omega)]
      exact iteF ⟨_, rfl, q gs p H2 bg (g1.trans g2) gm⟩
theorem c_game_of_t (T : Txt K mg) : Cal P w K mg base 5 "game_of" (sp_game_of true) [] := by
  have C_beginnings := c_beginnings_t (P := P) (w := w) (base := base) T
  have C_is_row := c_is_row (P := P) (w := w) (base := base) T
  have sc := sc_game_of
  refine cal_of (k := 4) T.d_game_of sc (fun _ _ _ _ _ _ us hl => match us, hl with | [_], _ => rfl) (fun vs H Q E h => ?_) (fun f cdv A outer s H vs Q E hr h => ?_)
  · obtain ⟨a, rfl, _⟩ := h
    rfl
  · obtain ⟨a, rfl, rs, hx, ok, few, len, q⟩ := h
    obtain ⟨xs, ha, pa⟩ : ∃ xs, H a = some (.tup xs) ∧ Paired (RwAt H) xs rs := id hx
    have el := paired_len pa
    refine ⟨_, (pss_cons (ps_if (PW.pt (pw_or (pt_not (pt_val (pe_callB call_isiT rfl T.m_isinstance (by decide +kernel) (pa_cons (pv 0) (pa_cons (pe_tup (pa_cons (pe_bltn (v := .ty "list") (u := .type "list") rfl T.m_list (by decide +kernel) rfl) (pa_cons (pe_bltn (v := .ty "tuple") (u := .type "tuple") rfl T.m_tuple (by decide +kernel) rfl) pa_nil))) pa_nil))))) (pw_or1 (pt_cmpR op_gt (pe_callB (r := Nm.rLenS K) (id := "len") Nm.call_lenS rfl T.m_len (by decide +kernel) (pa_cons (pv 0) pa_nil)) (pe_gc rfl T.g_MOST_ROWS) (nomark _))))) (pss_one ps_never) pss_nil)
  (pss_cons (ps_if (pt_not (pt_val (pe_callB (cr_all rfl) rfl T.m_all (by decide +kernel) (pa_cons (pe_lc (own := [("row", 2)]) (g := gName 2) rfl sc.nd (pi_tup (pv 0)) (blkOk_by (own := [("row", 2)]) (N := ["rows", "game", "row"]) (sc := defScope s_game_of) (by decide +kernel)) (fun _ _ _ _ _ => (pg_name (i := 2) sc.nd rfl (Or.inl rfl))) (fun _ _ _ _ _ => pts_nil) (fun _ _ _ _ _ => (pe_c C_is_row hr (by omega) rfl (pa_cons (pv 2) pa_nil)))) pa_nil)))) (pss_one ps_never) pss_nil)
  (pss_cons (ps_set (i := 1) sc.nd rfl (Or.inl rfl) (pe_c C_beginnings hr (by omega) rfl (pa_cons (pv 0) pa_nil)))
  (pss_cons (ps_if (pt_cmpR op_gt (pe_callB (r := Nm.rLenS K) (id := "len") Nm.call_lenS rfl T.m_len (by decide +kernel) (pa_cons (pv 1) pa_nil)) (pe_gc rfl T.g_MOST_ROWS) (nomark _)) (pss_one ps_never) pss_nil)
  (pss_one (ps_ret (pv 1))))))), ?_⟩
    refine ⟨_, rfl, two, fun tp htp => ?_⟩
    have g0 := same_new (o := .tup [V.ty "list", V.ty "tuple"]) htp
    refine ⟨_, tp, _, _, _, true, rfl, upd_same, .cons (.ty _) (.cons (.ty _) .nil), .base (.tup (g0 _ _ ha)), kit_lt_tup, true, rfl, ?_⟩
    refine iteF ⟨_, rfl, a, _, rfl, .inr (SqT.of (g0 _ _ ha)), _, _, rfl, rfl, _, rfl, ?_⟩
    rw [decide_eq_false (show ¬ ((xs.length : Int) > 600) by omega)]
    refine iteF ⟨_, rfl, a, rfl, ⟨_, SqT.of (g0 _ _ ha)⟩, fun D hD => ?_⟩
    refine lcS (walk_tup (K := K) (a := a) (xs := xs)) stays_bl rs (fun _ => true) (fun _ => true) el (by omega) (fun H1 g => SqT.of (g _ _ (g0 _ _ ha))) hD ?_ ?_
    · rintro i x ws H1 H2 Nx hw ⟨rfl, hx⟩ sm _ yes
      obtain ⟨ws', hw', r, rfl, hr⟩ := paired_at pa i _ hx
      have e : ws' = ws := Option.some.inj (hw'.symm.trans hw)
      subst e
      refine ⟨rfl, ?_⟩
      exact ⟨_, rfl, r, ws', rfl, sm _ _ (g0 _ _ hr), ok _ (List.mem_of_getElem? hw), fun H3 g3 => yes rfl _ _ g3 rfl⟩
    · intro H1 sm l
      refine ⟨D, _, rfl, sql_bl l, true, ?_, ?_⟩
      · rw [filter_all]
        have e : ((rs.map fun _ => true).all id) = true := by
          rw [List.all_map, List.all_eq_true]
          exact fun _ _ => rfl
        rw [e]
      have g1 := g0.trans sm
      refine iteF ⟨_, rfl, a, rfl, rs, ⟨xs, g1 _ _ ha, paired_mono (fun _ _ => stays_rw _ _ _ _ (tups_same g1)) pa⟩, fun r hr => (ok r hr).1, len, fun gs p H2 bg g2 gm => ?_⟩
      have fg := few gs bg
      obtain ⟨zs, hz, pz⟩ := id gm
      have ez := paired_len pz
      refine ⟨_, rfl, p, _, rfl, .inr (SqT.of hz), _, _, rfl, rfl, _, rfl, ?_⟩
      rw [decide_eq_false (show ¬ ((zs.length : Int) > 600) by omega)]
      exact iteF ⟨_, rfl, q gs p H2 bg (g1.trans g2) gm⟩
end
end K06
namespace K06
open PySem L2 Nm
open C8 (Cal Mak pe_c pe_mk pe_gc)
open RZ (ItzT pi_zipA)
section
variable {P : Program} {w : World} {K : PySem.W.Frag} {mg : Str → Option Value} {base : Heap}
def sp__law_words (K : PySem.W.Frag) : Sp := fun vs H Q _ => ∃ (a r : Addr), vs = [.ref a, .ref r] ∧ ∃ rs row, GmAt H a rs ∧ IsG rs ∧ H r = some (.tup (row.map V.str)) ∧ (∀ z ∈ row, wordOk z) ∧ rs.length < 64 ∧ ∀ p H', Same H H' → H' p = some (.lst ((wordsAt rs row).map V.str)) → Q (.ref p) H'
theorem c__law_words (T : Txt K mg) : Cal P w K mg base 1 "_law_words" (sp__law_words K) [] := by
  have sc := sc__law_words
  refine cal_of T.d__law_words sc (fun _ _ _ _ _ _ us hl => match us, hl with | [_, _], _ => rfl) (fun vs H Q E h => ?_) (fun f cdv A outer s H vs Q E hr h => ?_)
  · obtain ⟨a, r, rfl, _⟩ := h
    rfl
  · obtain ⟨a, r, rfl, h⟩ := h
    refine ⟨_, (pss_one (ps_ret (pe_callB cr_sortedS rfl T.m_sorted (by decide +kernel) (pa_cons (pe_lc (own := [("other", 2)]) (g := gName 2) rfl sc.nd (pi_tup (pv 0)) (blkOk_by (own := [("other", 2)]) (N := ["game", "row", "other"]) (sc := defScope s__law_words) (by decide +kernel)) (fun _ _ _ _ _ => (pg_name (i := 2) sc.nd rfl (Or.inl rfl))) (fun _ _ _ _ _ => (pts_one (PW.pt (pw_and (pt_cmpR op_eq (pe_callB (r := Nm.rLenS K) (id := "len") Nm.call_lenS rfl T.m_len (by decide +kernel) (pa_cons (pv 2) pa_nil)) (pe_op op_add (pe_callB (r := Nm.rLenS K) (id := "len") Nm.call_lenS rfl T.m_len (by decide +kernel) (pa_cons (pv 1) pa_nil)) pe_int) (nomark _)) (pw_and1 (pt_cmpR (r := rEqD K) (op_eqD hr.units) (pe_slice (r := rSlA K) sl_tupA (pv 2) po_none (po_some (pe_un un_neg pe_int))) (pv 1) (nomark _))))))) (fun _ _ _ _ _ => (pe_ix (r := rIxT K) ix_tup (pv 2) (pe_un un_neg pe_int) (fun _ _ => rfl)))) pa_nil)))), ?_⟩
    obtain ⟨rs, row, ⟨xs, ha, pa⟩, G, hr, okr, few, q⟩ := h
    have el := paired_len pa
    refine ⟨_, rfl, a, rfl, ⟨_, SqT.of ha⟩, fun D hD => ?_⟩
    refine lcS (walk_tup (K := K) (a := a) (xs := xs)) stays_str rs (isNext row) lastW el (by omega) (fun H2 g => SqT.of (g _ _ ha)) hD ?_ ?_
    · rintro i x ws H2 H3 Nx hw ⟨rfl, hx⟩ sm no yes
      obtain ⟨ws', hw', y, rfl, hy⟩ := paired_at pa i _ hx
      have e : ws' = ws := Option.some.inj (hw'.symm.trans hw)
      subst e
      refine ⟨rfl, ?_⟩
      have hy2 := sm _ _ hy
      refine ⟨_, rfl, y, _, rfl, .inr (SqT.of hy2), _, rfl, r, _, rfl, .inr (SqT.of (sm _ _ hr)), _, _, rfl, rfl, rfl, _, rfl, ?_⟩
      rw [List.length_map, List.length_map, decI]
      refine ite2 (fun z => ?_) (fun z => ?_)
      · have lz : ws'.length = row.length + 1 := by
          have := of_decide_eq_true z
          omega
        refine ⟨_, rfl, 1, rfl, _, rfl, sl_last hy2 fun r2 H4 g4 hr2 => ?_⟩
        rw [← List.map_dropLast] at hr2
        refine ⟨_, rfl, rowD ws'.dropLast, rowD row, dp_row hr2, dp_row (g4 _ _ (sm _ _ hr)), ?_⟩
        have okw := (G.ok _ (List.mem_of_getElem? hw)).2
        refine ⟨shaped_rw fun z hz => okw z (List.dropLast_subset _ hz), shaped_rw okr, ?_⟩
        rw [eqv_row]
        by_cases c : ws'.dropLast = row
        · rw [decide_eq_true c]
          refine ⟨true, rfl, iteT ?_⟩
          have nx : isNext row ws' = true := by
            unfold isNext
            rw [decide_eq_true lz, decide_eq_true c]
            rfl
          have ne : ws' ≠ [] := fun e => by
            rw [e] at lz
            simp at lz
          exact ⟨_, rfl, 1, rfl, y, _, -1, _, rfl, rfl, SqT.of (g4 _ _ hy2), at_lastW ne, yes nx _ _ g4 rfl⟩
        · rw [decide_eq_false c]
          refine ⟨false, rfl, iteF (no ?_ _ g4)⟩
          unfold isNext
          rw [decide_eq_false c, Bool.and_false]
      · refine iteF (no ?_ _ (Same.refl _))
        have lz : ¬ ws'.length = row.length + 1 := fun e => z (decide_eq_true (by omega))
        unfold isNext
        rw [decide_eq_false lz, Bool.false_and]
    · intro H2 sm l
      have len : (wordsAt rs row).length < 64 := by
        unfold wordsAt
        rw [List.length_map]
        exact Nat.lt_of_le_of_lt (List.length_filter_le _ _) few
      refine ⟨D, _, rfl, SqL.of (lst_str l), len, fun ys p pm srt hp => ?_⟩
      have e : ys = wordsAt rs row := by
        have up := words_up G.up row
        refine rise_one ((List.Pairwise.and (sorted_pw srt) (pm.nodup_iff.mpr (before_nodup up))).imp fun ⟨a, b⟩ => before_tot a b) up fun z => pm.mem_iff
      rw [e]
      exact q p _ (sm.trans (same_new hp)) upd_same
end
end K06
namespace K06
open PySem L2 Nm
open C8 (Cal Mak pe_c pe_mk pe_gc)
open RZ (ItzT pi_zipA)
/-- the rows behind each row by one word, in lists of their own -/
def NxAt (H : Hp) (D : Addr) (rs : List (List Str)) : Prop := ∃ ents : List (List Key × V), H D = some (.dT ents) ∧ ∀ k ∈ rs, ∃ q zs, valV ents (keyRow k) = some (.ref q) ∧ H q = some (.lst zs) ∧ Paired (RwAt H) zs (nexts rs k)
theorem NxAt.same {H H' : Hp} {D : Addr} {rs : List (List Str)} (h : NxAt H D rs) (g : Same H H') : NxAt H' D rs := by
  obtain ⟨ents, h1, h2⟩ := h
  refine ⟨ents, g _ _ h1, fun k hk => ?_⟩
  obtain ⟨q, zs, e1, e2, e3⟩ := h2 k hk
  exact ⟨q, zs, e1, g _ _ e2, paired_mono (fun _ _ => stays_rw _ _ _ _ (tups_same g)) e3⟩
theorem next_drop {w : Str} {k l : List Str} (h : isNext k l = true) : k = l.dropLast := by
  obtain ⟨w, rfl⟩ := isNext_iff.mp h
  rw [List.dropLast_concat]
section
variable {P : Program} {w : World} {K : PySem.W.Frag} {mg : Str → Option Value} {base : Heap}
def sp_next_rows (K : PySem.W.Frag) : Sp := fun vs H Q _ => ∃ (a : Addr), vs = [.ref a] ∧ ∃ rs, GmAt H a rs ∧ IsG rs ∧ ∀ H' D, NxAt H' D rs → Same H H' → Q (.ref D) H'
theorem c_next_rows (T : Txt K mg) : Cal P w K mg base 1 "next_rows" (sp_next_rows K) [] := by
  have sc := sc_next_rows
  refine cal_of T.d_next_rows sc (fun _ _ _ _ _ _ us hl => match us, hl with | [_], _ => rfl) (fun vs H Q E h => ?_) (fun f cdv A outer s H vs Q E hr h => ?_)
  · obtain ⟨a, rfl, _⟩ := h
    rfl
  · obtain ⟨a, rfl, h⟩ := h
    refine ⟨_, (pss_cons (Nm.ps_setDcT (i := 1) (own := [("row", 2)]) (g := gName 2) rfl sc.nd (hu_of hr) rfl rfl (Nm.swd_true rfl rfl rfl (by decide +kernel)) (pi_tup (pv 0)) (blkOk_by (own := [("row", 2)]) (N := ["game", "found", "row"]) (sc := defScope s_next_rows) (by decide +kernel)) (fun _ _ _ _ _ => (pg_name (i := 2) sc.nd rfl (Or.inl rfl))) (fun _ _ _ _ _ => (pv 2)) (fun _ _ _ _ _ => (pe_lst pa_nil)))
  (pss_cons (ps_for PassesOwn.never rfl (pi_tup (pe_slice sl_tupA (pv 0) (po_some pe_int) po_none)) (pg_name (i := 2) sc.nd rfl (Or.inl rfl)) (pss_one (ps_expr (pe_bm PySem.F.plainAttrs_list PySem.F.slot_list_append PySem.F.type_list_append mt_append (pe_dget (hu_of hr) (pv 1) (pe_slice sl_tupA (pv 2) po_none (po_some (pe_un un_neg pe_int))) (fun _ _ => rfl)) (pa_cons (pv 2) pa_nil)))))
  (pss_one (ps_ret (pv 1))))), ?_⟩
    obtain ⟨rs, gm, G, q⟩ := h
    obtain ⟨xs, ha, pa⟩ := id gm
    have el := paired_len pa
    have few := G.few
    obtain ⟨rt, hrt⟩ := G.head
    have big : (100000 : Nat) < PySem.sizeLine := by decide
    refine ⟨_, rfl, a, rfl, ⟨_, SqT.of ha⟩, fun D hD => ?_⟩
    refine dcT_tup (xs := xs) (fun i H1 => Same H H1 ∧ ∃ (ents : List (List Key × V)) (ks : List (List Str)) (addr : List Str → Addr), H1 D = some (.dT ents) ∧ ents.length ≤ i ∧ RDict (fun y q => y = V.ref q) ents ks addr ∧ (∀ z, z ∈ ks ↔ z ∈ rs.take i) ∧
        (∀ k ∈ ks, H1 (addr k) = some (.lst []) ∧ H (addr k) = none ∧ addr k ≠ D) ∧ ∀ k ∈ ks, ∀ k' ∈ ks, addr k = addr k' → k = k')
      ⟨same_new hD, [], [], fun _ => D, upd_same, Nat.le_refl _, ⟨rfl, .nil, fun e he => absurd he (List.not_mem_nil)⟩, fun z => by simp, fun k hk => absurd hk (List.not_mem_nil), fun k hk => absurd hk (List.not_mem_nil)⟩ (fun i H1 _ p => SqT.of (p.1 _ _ ha)) ?_ ?_
    · rintro i x H1 hi ⟨sm, ents, ks, addr, hd1, le, dd, mem, each, inj⟩
      obtain ⟨ws, hw, r, rfl, hr⟩ := paired_at pa i x hi
      have li := (List.getElem?_eq_some_iff.mp hi).1
      refine ⟨rfl, _, rfl, nought, fun q hq => ⟨ents, keyRow ws, r, rfl, same_new hq _ _ hd1, by rw [kV_row]; exact same_new hq _ _ (sm _ _ hr), by omega, ?_⟩⟩
      have nqD : q ≠ D := fun e => by
        rw [e, hd1] at hq
        cases hq
      have old : ∀ k ∈ ks, addr k ≠ q := fun k hk e => by
        have z := (each k hk).1
        rw [e, hq] at z
        cases z
      refine ⟨same_mut (sm.trans (same_new hq)) hD, _, plusR ks ws, _, upd_same, ?_, dd.put ws (y := .ref q) (c := q) rfl, fun z => ?_, fun k hk => ?_, fun k hk k' hk' e => ?_⟩
      · have := length_putK ents (keyRow ws) (V.ref q)
        omega
      · rw [mem_plusR, mem z, take_one hw, List.mem_append, List.mem_singleton]
      · by_cases c : k = ws
        · subst c
          rw [if_pos rfl, upd_ne nqD, upd_same]
          exact ⟨rfl, sm.free hq, nqD⟩
        · rw [if_neg c]
          have hk' : k ∈ ks := (mem_plusR.mp hk).resolve_right c
          obtain ⟨e1, e2, e3⟩ := each k hk'
          rw [upd_ne e3, upd_ne (old k hk')]
          exact ⟨e1, e2, e3⟩
      · have e : (if k = ws then q else addr k) = if k' = ws then q else addr k' := e
        by_cases c : k = ws
        · by_cases c' : k' = ws
          · rw [c, c']
          · rw [if_pos c, if_neg c'] at e
            exact absurd e.symm (old k' ((mem_plusR.mp hk').resolve_right c'))
        · by_cases c' : k' = ws
          · rw [if_neg c, if_pos c'] at e
            exact absurd e (old k ((mem_plusR.mp hk).resolve_right c))
          · rw [if_neg c, if_neg c'] at e
            exact inj k ((mem_plusR.mp hk).resolve_right c) k' ((mem_plusR.mp hk').resolve_right c') e
    · rintro H1 ⟨sm, ents, ks, addr, hd1, le, dd, mem, each, inj⟩
      rw [el, List.take_length] at mem
      refine ⟨_, rfl, 1, rfl, ?_⟩
      dsimp only [tNoPart]
      refine sl_from1 (sm _ _ ha) fun b H2 g2 hb => ?_
      refine ⟨b, rfl, ⟨_, SqT.of hb⟩, ?_⟩
      have pb := paired_drop pa 1
      refine for_it (tb := tDrop _) (D := { nx := tRet (tVar 1) { nx := fun _ H' => Q .non H', rt := Q }, rt := Q }) (walk_tup (K := K) (a := b) (xs := xs.drop 1)) (fun i σ H3 => ∃ v2, σ = [some (.ref a), some (.ref D), v2] ∧ Same H H3 ∧ H3 D = some (.dT ents) ∧ H3 b = some (.tup (xs.drop 1)) ∧ ∀ k ∈ ks, ∃ zs, H3 (addr k) = some (.lst zs) ∧ zs.length ≤ i ∧ Paired (RwAt H3) zs (((rs.drop 1).take i).filter (isNext k)))
        ⟨none, rfl, sm.trans g2, g2 _ _ hd1, hb, fun k hk => ⟨[], g2 _ _ (each k hk).1, Nat.le_refl _, .nil⟩⟩ (fun i σ H3 _ ⟨_, _, _, _, h, _⟩ => SqT.of h) ?_ ?_
      · rintro i x σ H3 H4 hi ⟨v2, rfl, g3, hd3, hb3, lists⟩ ⟨rfl, hx⟩
        obtain ⟨w, hw, r, rfl, hr⟩ := paired_at pb i x hx
        have mw : w ∈ rs := List.mem_of_mem_drop (List.mem_of_getElem? hw)
        have li : i < 600 := by
          have := (List.getElem?_eq_some_iff.mp hw).1
          rw [List.length_drop] at this
          omega
        have mp : w.dropLast ∈ ks := (mem _).mpr (G.pre w mw)
        obtain ⟨y, hy, rfl⟩ := dd.get mp
        have hr3 := g3 _ _ hr
        refine ⟨_, rfl, _, rfl, 1, rfl, _, rfl, sl_last hr3 fun r2 H5 g5 hr2 => ?_⟩
        obtain ⟨zs, hz, lz, pz⟩ := lists _ mp
        have dg : DGet H5 D (.ref r2) (some (.ref (addr w.dropLast))) := hy ▸ DGet.t (g5 _ _ hd3) (by rw [kV_row, List.map_dropLast]; exact hr2)
        refine ⟨D, _, rfl, dg, .inl ⟨rfl, _, SqL.of (g5 _ _ hz)⟩, _, rfl, addr w.dropLast, zs, .ref r, rfl, rfl, g5 _ _ hz, by omega, ?_⟩
        have tl := tups_lst (vs := zs ++ [V.ref r]) (g5 _ _ hz)
        have tk : Tups H4 (upd H5 (addr w.dropLast) (.lst (zs ++ [V.ref r]))) := fun c us hc => tl _ _ (g5 _ _ hc)
        refine ⟨_, rfl, same_mut (g3.trans g5) (each _ mp).2.1, ?_, tk _ _ hb3, fun k hk => ?_⟩
        · rw [upd_ne (fun e => (each _ mp).2.2 e.symm)]
          exact g5 _ _ hd3
        · have e1 : ((rs.drop 1).take (i + 1)).filter (isNext k) = ((rs.drop 1).take i).filter (isNext k) ++ [w].filter (isNext k) := by
            rw [take_one hw, List.filter_append]
          rw [e1]
          by_cases c : k = w.dropLast
          · subst c
            have mt : w ∈ rt := by
              have z := List.mem_of_getElem? hw
              rw [hrt, List.drop_one, List.tail_cons] at z
              exact z
            have w0 : w ≠ [] := fun e => by
              have up := G.up
              rw [hrt] at up
              have z := (List.pairwise_cons.mp up).1 w mt
              rw [e] at z
              unfold bef at z
              rw [rowLt_irr] at z
              cases z
            have nx : isNext w.dropLast w = true := isNext_iff.mpr ⟨w.getLast w0, (List.dropLast_concat_getLast w0).symm⟩
            rw [List.filter_cons_of_pos nx, List.filter_nil]
            exact ⟨_, upd_same, by rw [List.length_append, List.length_singleton]; omega, paired_snoc (paired_mono (fun _ _ => stays_rw _ _ _ _ tk) pz) ⟨r, rfl, tk _ _ hr3⟩⟩
          · obtain ⟨us, hu, lu, pu⟩ := lists k hk
            have nx : ¬ isNext k w = true := fun z => c (next_drop (w := Str.empty) z)
            rw [List.filter_cons_of_neg nx, List.filter_nil, List.append_nil]
            refine ⟨us, ?_, by omega, paired_mono (fun _ _ => stays_rw _ _ _ _ tk) pu⟩
            rw [upd_ne (fun e => c (inj k hk _ mp e))]
            exact g5 _ _ hu
      · rintro σ H3 ⟨v2, rfl, g3, hd3, hb3, lists⟩
        refine ⟨_, rfl, q H3 D ⟨ents, hd3, fun k hk => ?_⟩ g3⟩
        obtain ⟨zs, hz, lz, pz⟩ := lists k ((mem k).mpr hk)
        obtain ⟨y, hy, rfl⟩ := dd.get ((mem k).mpr hk)
        refine ⟨addr k, zs, hy, hz, ?_⟩
        have ll : (xs.drop 1).length = (rs.drop 1).length := by rw [List.length_drop, List.length_drop, el]
        rw [ll, List.take_length] at pz
        have e : nexts rs k = (rs.drop 1).filter (isNext k) := by
          unfold nexts
          rw [hrt, List.drop_one, List.tail_cons]
          exact List.filter_cons_of_neg (by unfold isNext; rw [decide_eq_false (by show ¬ (0 = k.length + 1); omega), Bool.false_and]; exact Bool.false_ne_true)
        rw [e]
        exact pz
end
end K06
namespace K06
open PySem L2 Nm
open C8 (Cal Mak pe_c pe_mk pe_gc)
open RZ (ItzT pi_zipA)
/-- what is told of a row: does the one who moves win, in how many words -/
def TwAt (H : Hp) (y : V) (t : Bool × Int) : Prop := ∃ r, y = .ref r ∧ H r = some (.tup [.bl t.1, .int t.2])
theorem stays_tw : Stays TwAt := fun _ _ _ _ t ⟨r, e, h⟩ => ⟨r, e, t _ _ h⟩
def VdAt (H : Hp) (D : Addr) (rs : List (List Str)) : Prop := ∃ ents : List (List Key × V), H D = some (.dT ents) ∧ ∀ k ∈ rs, ∃ y, valV ents (keyRow k) = some y ∧ TwAt H y (val rs k)
theorem VdAt.same {H H' : Hp} {D : Addr} {rs : List (List Str)} (h : VdAt H D rs) (g : Same H H') : VdAt H' D rs := by
  obtain ⟨ents, h1, h2⟩ := h
  refine ⟨ents, g _ _ h1, fun k hk => ?_⟩
  obtain ⟨y, e1, e2⟩ := h2 k hk
  exact ⟨y, e1, stays_tw _ _ _ _ (tups_same g) e2⟩
theorem paired_rev {α β : Type} {R : α → β → Prop} : ∀ {xs : List α} {ys : List β}, Paired R xs ys → Paired R xs.reverse ys.reverse
  | _, _, .nil => .nil
  | _, _, .cons h t => by
    rw [List.reverse_cons, List.reverse_cons]
    exact paired_app (paired_rev t) (.cons h .nil)
/-- the rows behind a row come later, so they are solved before -/
theorem nexts_done {rs : List (List Str)} (up : rs.Pairwise bef) {i : Nat} {row l : List Str} (hi : rs.reverse[i]? = some row) (hl : l ∈ nexts rs row) : l ∈ rs.reverse.take i := by
  obtain ⟨ml, w, rfl⟩ := mem_nexts.mp hl
  have b : bef row (row ++ [w]) := bef_pre (List.prefix_append _ _) fun e => by
    have := congrArg List.length e
    rw [List.length_append, List.length_singleton] at this
    omega
  have m : row ++ [w] ∈ rs.reverse := List.mem_reverse.mpr ml
  have pw : rs.reverse.Pairwise fun x y => bef y x := List.pairwise_reverse.mpr up
  rw [← List.take_append_drop i rs.reverse] at m pw
  rcases List.mem_append.mp m with h | h
  · exact h
  · have e : rs.reverse.drop i = row :: rs.reverse.drop (i + 1) := by
      obtain ⟨hlt, hv⟩ := List.getElem?_eq_some_iff.mp hi
      rw [List.drop_eq_getElem_cons hlt, hv]
    rw [e] at h pw
    rcases List.mem_cons.mp h with z | z
    · have := congrArg List.length z
      rw [List.length_append, List.length_singleton] at this
      omega
    · have c := (List.pairwise_cons.mp (List.pairwise_append.mp pw).2.1).1 _ z
      exact absurd b (bef_not c)
section
variable {P : Program} {w : World} {K : PySem.W.Frag} {mg : Str → Option Value} {base : Heap}
def sp_solved (K : PySem.W.Frag) : Sp := fun vs H Q _ => ∃ (a : Addr), vs = [.ref a] ∧ ∃ rs, GmAt H a rs ∧ IsG rs ∧ ∀ H' D, VdAt H' D rs → Same H H' → Q (.ref D) H'
theorem c_solved (T : Txt K mg) : Cal P w K mg base 2 "solved" (sp_solved K) [] := by
  have C_next_rows := c_next_rows (P := P) (w := w) (base := base) T
  have sc := sc_solved
  refine cal_of T.d_solved sc (fun _ _ _ _ _ _ us hl => match us, hl with | [_], _ => rfl) (fun vs H Q E h => ?_) (fun f cdv A outer s H vs Q E hr h => ?_)
  · obtain ⟨a, rfl, _⟩ := h
    rfl
  · obtain ⟨a, rfl, h⟩ := h
    refine ⟨_, (pss_cons (ps_set (i := 1) sc.nd rfl (Or.inl rfl) (pe_c C_next_rows hr (by omega) rfl (pa_cons (pv 0) pa_nil)))
  (pss_cons (ps_set (i := 2) sc.nd rfl (Or.inr rfl) pe_dnewT)
  (pss_cons (ps_for PassesOwn.never rfl (pi_tup (Nm.pe_revT (pv 0))) (pg_name (i := 3) sc.nd rfl (Or.inl rfl)) (pss_cons (ps_setLc (i := 4) (own := [("longer", 6)]) (g := gName 6) rfl sc.nd rfl rfl (sw_true rfl rfl rfl (by decide +kernel)) (pi_list (pe_dget (hu_of hr) (pv 1) (pv 3) (fun _ _ => rfl))) (blkOk_by (own := [("longer", 6)]) (N := ["game", "after", "verdicts", "row", "told", "winning", "longer", "other_wins", "left", "_"]) (sc := defScope s_solved) (by decide +kernel)) (fun _ _ _ _ _ => (pg_name (i := 6) sc.nd rfl (Or.inl rfl))) (fun _ _ _ _ _ => pts_nil) (fun _ _ _ _ _ => (pe_dget (hu_of hr) (pv 2) (pv 6) (fun _ _ => rfl))))
  (pss_cons (ps_setLc (i := 5) (own := [("other_wins", 7), ("left", 8)]) (g := gTup K 2 (gCons (gName 7) (gCons (gName 8) gNil))) rfl sc.nd rfl rfl (sw_true rfl rfl rfl (by decide +kernel)) (pi_list (pv 4)) (blkOk_by (own := [("other_wins", 7), ("left", 8)]) (N := ["game", "after", "verdicts", "row", "told", "winning", "longer", "other_wins", "left", "_"]) (sc := defScope s_solved) (by decide +kernel)) (fun _ _ _ _ _ => (pg_tup rfl (pgs_cons (pg_name (i := 7) sc.nd rfl (Or.inl rfl)) (pgs_cons (pg_name (i := 8) sc.nd rfl (Or.inl rfl)) pgs_nil)))) (fun _ _ _ _ _ => (pts_one (pt_not (pt_val (pv 7))))) (fun _ _ _ _ _ => (pv 8)))
  (pss_one (ps_if (pt_truth (pv 5) (fun _ => rfl)) (pss_one (ps_dput (hu_of hr) (pv 2) (pv 3) (pe_tup (pa_cons pe_bl (pa_cons (pe_op op_add pe_int (pe_callB (cr_min rfl) rfl T.m_min (by decide +kernel) (pa_cons (pv 5) pa_nil))) pa_nil))) rfl)) (pss_one (ps_dput (hu_of hr) (pv 2) (pv 3) (pe_tup (pa_cons pe_bl (pa_cons (pe_callBK (id := "max") (Nm.cr_maxDef rfl hr.units) rfl T.m_max (by decide +kernel) (pa_cons (pe_lc (own := [("_", 9), ("left", 8)]) (g := gTup K 2 (gCons (gName 9) (gCons (gName 8) gNil))) rfl sc.nd (pi_list (pv 4)) (blkOk_by (own := [("_", 9), ("left", 8)]) (N := ["game", "after", "verdicts", "row", "told", "winning", "longer", "other_wins", "left", "_"]) (sc := defScope s_solved) (by decide +kernel)) (fun _ _ _ _ _ => (pg_tup rfl (pgs_cons (pg_name (i := 9) sc.nd rfl (Or.inl rfl)) (pgs_cons (pg_name (i := 8) sc.nd rfl (Or.inl rfl)) pgs_nil)))) (fun _ _ _ _ _ => pts_nil) (fun _ _ _ _ _ => (pe_op op_add pe_int (pv 8)))) pa_nil) (pk_cons pe_int pk_nil)) pa_nil))) rfl)))))))
  (pss_one (ps_ret (pv 2)))))), ?_⟩
    obtain ⟨rs, gm, G, q⟩ := h
    have few := G.few
    have big : (100000 : Nat) < PySem.sizeLine := by decide
    refine ⟨_, rfl, a, rfl, rs, gm, G, fun H1 A nx1 g1 => ?_⟩
    obtain ⟨xs, ha, pa⟩ := gm.keep (tups_same g1)
    have el := paired_len pa
    have ne : xs ≠ [] := fun e => by
      have := List.length_pos_of_mem G.nil
      rw [e] at el
      simp at el
      omega
    refine fun D hD => ?_
    have g2 := same_new (o := .dT []) hD
    refine ⟨_, rfl, a, xs, rfl, SqT.of (g2 _ _ ha), ne, fun b hb => ?_⟩
    have g3 := same_new (o := .tup xs.reverse) hb
    have g13 := g2.trans g3
    refine ⟨b, rfl, ⟨_, SqT.of upd_same⟩, ?_⟩
    have hb0 : upd (upd H1 D (.dT [])) b (.tup xs.reverse) b = some (.tup xs.reverse) := upd_same
    have hD0 : upd (upd H1 D (.dT [])) b (.tup xs.reverse) D = some (.dT []) := g3 _ _ upd_same
    generalize upd (upd H1 D (.dT [])) b (.tup xs.reverse) = H2 at g13 hb0 hD0
    have pr := paired_rev pa
    refine for_it (walk_tup (K := K) (a := b) (xs := xs.reverse)) (fun i σ H3 => ∃ v3 v4 v5 v6 v7 v8 v9, ∃ (ents : List (List Key × V)) (ks : List (List Str)), σ = [some (.ref a), some (.ref A), some (.ref D), v3, v4, v5, v6, v7, v8, v9] ∧ Same H1 H3 ∧ H3 b = some (.tup xs.reverse) ∧ H3 D = some (.dT ents) ∧ ents.length ≤ i ∧ ents.map (·.1) = ks.map keyRow ∧ ks.Nodup ∧ (∀ z, z ∈ ks ↔ z ∈ rs.reverse.take i) ∧ ∀ k ∈ ks, ∃ y, valV ents (keyRow k) = some y ∧ TwAt H3 y (val rs k))
      ⟨none, none, none, none, none, none, none, [], [], rfl, g13, hb0, hD0, Nat.le_refl _, rfl, .nil, fun z => by simp, fun k hk => absurd hk (List.not_mem_nil)⟩ (fun i σ H3 _ ⟨_, _, _, _, _, _, _, _, _, _, _, h, _⟩ => SqT.of h) ?_ ?_
    · rintro i x σ H3 H4 hi ⟨v3, v4, v5, v6, v7, v8, v9, ents, ks, rfl, g, hb3, hD3, le3, hk3, nd3, mem3, vals3⟩ ⟨rfl, hx⟩
      obtain ⟨row, hrow, r, rfl, hr1⟩ := paired_at pr i x hx
      have mrow : row ∈ rs := List.mem_reverse.mp (List.mem_of_getElem? hrow)
      have lrow := (G.ok row mrow).1
      have lrev : xs.reverse.length = xs.length := List.length_reverse ..
      obtain ⟨entA, hA, nxs⟩ := nx1.same g
      obtain ⟨qa, zs, eA, hz, pz⟩ := nxs row mrow
      have lz := paired_len pz
      have ln : (nexts rs row).length ≤ 600 := Nat.le_trans (List.length_filter_le _ _) few
      have hr3 := g _ _ hr1
      have kr : ∀ {H5 : Hp} {r5 : Addr} {ws : List Str}, H5 r5 = some (.tup (ws.map V.str)) → H5 r5 = some (.tup ((keyRow ws).map kV)) := fun h => by rw [kV_row]; exact h
      -- what is told of the rows behind
      refine ⟨_, rfl, _, rfl, A, .ref qa, rfl, eA ▸ DGet.t hA (kr hr3), qa, rfl, ⟨_, SqL.of hz⟩, fun T1 hT1 => ?_⟩
      refine lcS (walk_list (K := K) (a := qa) (xs := zs)) stays_tw (nexts rs row) (fun _ => true) (val rs) lz (by omega) (fun H5 g5 => SqL.of (g5 _ _ hz)) hT1 ?_ ?_
      · rintro i2 x2 l H5 H6 Nx hl ⟨rfl, hx2⟩ sm _ yes
        obtain ⟨l', hl', rl, rfl, hrl⟩ := paired_at pz i2 _ hx2
        have e : l' = l := Option.some.inj (hl'.symm.trans hl)
        subst e
        have ml := nexts_done G.up hrow (List.mem_of_getElem? hl)
        obtain ⟨y, hy, tw⟩ := vals3 l' ((mem3 l').mpr ml)
        refine ⟨rfl, ?_⟩
        exact ⟨_, rfl, _, rfl, D, y, rfl, hy ▸ DGet.t (sm _ _ hD3) (kr (sm _ _ hrl)), yes rfl _ _ (Same.refl _) (stays_tw _ _ _ _ (tups_same sm) tw)⟩
      intro H5 g5 l5
      rw [filter_all] at l5
      obtain ⟨us, hT5, pu⟩ := l5
      have lu : us.length = (nexts rs row).length := by rw [paired_len pu, List.length_map]
      generalize hto : (nexts rs row).map (val rs) = told at pu
      have lt : told.length ≤ 600 := by rw [← hto, List.length_map]; exact ln
      have lut : us.length = told.length := paired_len pu
      have pos : ∀ t ∈ told, 0 ≤ t.2 := fun t ht => by
        rw [← hto] at ht
        obtain ⟨l, _, rfl⟩ := List.mem_map.mp ht
        exact val_pos rs l
      -- the winning words
      refine ⟨_, rfl, T1, rfl, ⟨_, SqL.of hT5⟩, fun W1 hW1 => ?_⟩
      refine lcS (walk_list (K := K) (a := T1) (xs := us)) stays_int told (fun t => !t.1) (fun t => t.2) lut (by omega) (fun H6 g6 => SqL.of (g6 _ _ hT5)) hW1 ?_ ?_
      · rintro i2 x2 t H6 H7 Nx ht ⟨rfl, hx2⟩ sm no yes
        obtain ⟨t', ht', rt, rfl, hrt⟩ := paired_at pu i2 _ hx2
        have e : t' = t := Option.some.inj (ht'.symm.trans ht)
        subst e
        refine ⟨rt, [.bl t'.1, .int t'.2], rfl, SqT.of (sm _ _ hrt), rfl, _, _, rfl, _, _, rfl, rfl, rfl, ?_⟩
        refine ⟨_, rfl, t'.1, rfl, ?_⟩
        cases c : t'.1 with
        | true => exact iteF (no (by rw [c]; rfl) _ (Same.refl _))
        | false => exact iteT ⟨_, rfl, yes (by rw [c]; rfl) _ _ (Same.refl _) rfl⟩
      intro H6 g6 l6
      obtain ⟨ws, hW6, pw⟩ := l6
      rw [ints_vs pw] at hW6
      have g56 := g5.trans g6
      have hD6 := g56 _ _ hD3
      have hr6 := g56 _ _ hr3
      have done : ∀ (H7 : Hp) (y : V), Same H6 H7 → TwAt H7 y (val rs row) → ∃ (ents' : List (List Key × V)) (ks' : List (List Str)), Same H1 (upd H7 D (.dT (putK ents (keyRow row) y))) ∧ upd H7 D (.dT (putK ents (keyRow row) y)) b = some (.tup xs.reverse) ∧ upd H7 D (.dT (putK ents (keyRow row) y)) D = some (.dT ents') ∧ ents'.length ≤ i + 1 ∧ ents'.map (·.1) = ks'.map keyRow ∧ ks'.Nodup ∧ (∀ z, z ∈ ks' ↔ z ∈ rs.reverse.take (i + 1)) ∧ ∀ k ∈ ks', ∃ y', valV ents' (keyRow k) = some y' ∧ TwAt (upd H7 D (.dT (putK ents (keyRow row) y))) y' (val rs k) := fun H7 y g7 tw => by
        have g37 := g56.trans g7
        have hD7 := g37 _ _ hD3
        have td := tups_dT (vs := putK ents (keyRow row) y) hD7
        refine ⟨putK ents (keyRow row) y, plusR ks row, same_mut (g.trans g37) hD, td _ _ (g37 _ _ hb3), upd_same, ?_, keys_put hk3 nd3 _ _, plusR_nd nd3 _, fun z => ?_, fun k hk => ?_⟩
        · have := length_putK ents (keyRow row) y
          omega
        · rw [mem_plusR, mem3 z, take_one hrow, List.mem_append, List.mem_singleton]
        · by_cases c : k = row
          · subst c
            exact ⟨y, (valV_put ents (keyRow k) (keyRow k) y).trans (if_pos rfl), stays_tw _ _ _ _ td tw⟩
          · obtain ⟨y', hy', tw'⟩ := vals3 k ((mem_plusR.mp hk).resolve_right c)
            exact ⟨y', ((valV_put ents (keyRow row) (keyRow k) y).trans (if_neg fun e => c (inr_inj.mp e))).trans hy', stays_tw _ _ _ _ (fun c us hc => td _ _ (g37 _ _ hc)) tw'⟩
      have vrow : val rs row = stepV told := by rw [val_eq rs lrow, hto]
      refine ⟨_, rfl, _, .inl ⟨_, SqL.of hW6, rfl⟩, ?_⟩
      by_cases c : ((told.filter fun t => !t.1).map (·.2)) = []
      · rw [c]
        refine iteF ?_
        refine ⟨_, rfl, T1, rfl, ⟨_, SqL.of (g6 _ _ hT5)⟩, fun M1 hM1 => ?_⟩
        refine lcS (walk_list (K := K) (a := T1) (xs := us)) stays_int told (fun _ => true) (fun t => 1 + t.2) lut (by omega) (fun H7 g7 => SqL.of (g7 _ _ (g6 _ _ hT5))) hM1 ?_ ?_
        · rintro i2 x2 t H7 H8 Nx ht ⟨rfl, hx2⟩ sm _ yes
          obtain ⟨t', ht', rt, rfl, hrt⟩ := paired_at pu i2 _ hx2
          have e : t' = t := Option.some.inj (ht'.symm.trans ht)
          subst e
          refine ⟨rt, [.bl t'.1, .int t'.2], rfl, SqT.of (sm _ _ (g6 _ _ hrt)), rfl, _, _, rfl, _, _, rfl, rfl, rfl, ?_⟩
          exact ⟨_, rfl, _, _, rfl, rfl, yes rfl _ _ (Same.refl _) rfl⟩
        intro H7 g7 l7
        rw [filter_all] at l7
        obtain ⟨ms, hM7, pm⟩ := l7
        rw [ints_vs pm] at hM7
        refine ⟨M1, told.map (fun t => 1 + t.2), 0, rfl, rfl, SqL.of hM7, fun e => ?_, fun m hm hl => ?_⟩
        · refine ⟨two, fun t ht => ⟨_, rfl, _, rfl, D, _, rfl, DPut.t (same_new ht _ _ (g7 _ _ hD6)) (kr (same_new ht _ _ (g7 _ _ hr6))) (by omega), ?_⟩⟩
          obtain ⟨e1, k1, rest⟩ := done _ (.ref t) (g7.trans (same_new ht)) ⟨t, rfl, by rw [upd_same, vrow, step_lose0 c e]⟩
          exact ⟨_, _, _, _, _, _, _, e1, k1, rfl, rest⟩
        · refine ⟨two, fun t ht => ⟨_, rfl, _, rfl, D, _, rfl, DPut.t (same_new ht _ _ (g7 _ _ hD6)) (kr (same_new ht _ _ (g7 _ _ hr6))) (by omega), ?_⟩⟩
          have ev : stepV told = (false, m) := step_lose c hm hl fun y hy => by
            obtain ⟨t, ht, rfl⟩ := List.mem_map.mp hy
            have := pos t ht
            omega
          obtain ⟨e1, k1, rest⟩ := done _ (.ref t) (g7.trans (same_new ht)) ⟨t, rfl, by rw [upd_same, vrow, ev]⟩
          exact ⟨_, _, _, _, _, _, _, e1, k1, rfl, rest⟩
      · have em : (!(((told.filter fun t => !t.1).map (·.2)).map V.int).isEmpty) = true := by
          cases e : (told.filter fun t => !t.1).map (·.2) with
          | nil => exact absurd e c
          | cons _ _ => rfl
        rw [em]
        refine iteT ?_
        refine ⟨_, rfl, W1, (told.filter fun t => !t.1).map (·.2), rfl, SqL.of hW6, List.length_pos_iff.mpr c, fun m hm hl => ?_⟩
        refine ⟨_, _, rfl, rfl, two, fun t ht => ⟨_, rfl, _, rfl, D, _, rfl, DPut.t (same_new ht _ _ hD6) (kr (same_new ht _ _ hr6)) (by omega), ?_⟩⟩
        obtain ⟨e1, k1, rest⟩ := done _ (.ref t) (same_new ht) ⟨t, rfl, by rw [upd_same, vrow, step_win c hm hl]⟩
        exact ⟨_, _, _, _, _, _, _, e1, k1, rfl, rest⟩
    · rintro σ H3 ⟨v3, v4, v5, v6, v7, v8, v9, ents, ks, rfl, g, hb3, hD3, le3, hk3, nd3, mem3, vals3⟩
      refine ⟨_, rfl, q H3 D ⟨ents, hD3, fun k hk => vals3 k ((mem3 k).mpr ?_)⟩ (g1.trans g)⟩
      rw [show xs.reverse.length = rs.reverse.length by rw [List.length_reverse, List.length_reverse, el], List.take_length]
      exact List.mem_reverse.mpr hk
end
end K06
namespace K06
open PySem L2 Nm
open C8 (Cal Mak pe_c pe_mk pe_gc)
open RZ (ItzT pi_zipA)
def goodOf (rs : List (List Str)) (row : List Str) : List Str := ((nexts rs row).filter fun l => !(val rs l).1).map lastW
theorem last_at {l : List Str} (h : l ≠ []) : atI (l.map V.str) (-1) = some (V.str (lastW l)) := by
  have e : l = l.dropLast ++ [lastW l] := by
    have z := (List.dropLast_concat_getLast h).symm
    have w : lastW (l.dropLast ++ [l.getLast h]) = l.getLast h := lastW_snoc _ _
    rw [← z] at w
    rw [w]
    exact z
  rw [e, lastW_snoc, List.map_append]
  unfold atI ixN
  rw [List.length_append, List.map_cons, List.map_nil, List.length_singleton, if_neg (by decide), if_pos (by omega)]
  rw [show ((-1 : Int) + (((l.dropLast.map V.str).length + 1 : Nat) : Int)).toNat = (l.dropLast.map V.str).length by omega]
  show ((l.dropLast.map V.str) ++ [V.str (lastW l)])[(l.dropLast.map V.str).length]? = _
  rw [List.getElem?_append_right (Nat.le_refl _), Nat.sub_self]
  rfl
section
variable {P : Program} {w : World} {K : PySem.W.Frag} {mg : Str → Option Value} {base : Heap}
def sp_good_words (K : PySem.W.Frag) : Sp := fun vs H Q _ => ∃ (a r : Addr), vs = [.ref a, .ref r] ∧ ∃ rs row, GmAt H a rs ∧ IsG rs ∧ H r = some (.tup (row.map V.str)) ∧ row ∈ rs ∧ ∀ H' p, Same H H' → H' p = some (.tup ((goodOf rs row).map V.str)) → Q (.ref p) H'
theorem c_good_words (T : Txt K mg) : Cal P w K mg base 8 "good_words" (sp_good_words K) [] := by
  have C_check_place := c_check_place (P := P) (w := w) (base := base) T
  have C_next_rows := c_next_rows (P := P) (w := w) (base := base) T
  have C_solved := c_solved (P := P) (w := w) (base := base) T
  have sc := sc_good_words
  refine cal_of T.d_good_words sc (fun _ _ _ _ _ _ us hl => match us, hl with | [_, _], _ => rfl) (fun vs H Q E h => ?_) (fun f cdv A outer s H vs Q E hr h => ?_)
  · obtain ⟨a, r, rfl, _⟩ := h
    rfl
  · obtain ⟨a, r, rfl, h⟩ := h
    refine ⟨_, (pss_cons (ps_expr (pe_c C_check_place hr (by omega) rfl (pa_cons (pv 0) (pa_cons (pv 1) pa_nil))))
  (pss_cons (ps_set (i := 2) sc.nd rfl (Or.inr rfl) (pe_c C_solved hr (by omega) rfl (pa_cons (pv 0) pa_nil)))
  (pss_one (ps_ret (pe_callTy call_tuple_of rfl T.m_tuple (by decide +kernel) (pa_cons (pe_lc (own := [("longer", 3)]) (g := gName 3) rfl sc.nd (pi_list (pe_dget (hu_of hr) (pe_c C_next_rows hr (by omega) rfl (pa_cons (pv 0) pa_nil)) (pv 1) (fun _ _ => rfl))) (blkOk_by (own := [("longer", 3)]) (N := ["game", "row", "verdicts", "longer"]) (sc := defScope s_good_words) (by decide +kernel)) (fun _ _ _ _ _ => (pg_name (i := 3) sc.nd rfl (Or.inl rfl))) (fun _ _ _ _ _ => (pts_one (pt_not (pt_val (pe_ix (r := rIxT K) ix_tup (pe_dget (hu_of hr) (pv 2) (pv 3) (fun _ _ => rfl)) pe_int (fun _ _ => rfl)))))) (fun _ _ _ _ _ => (pe_ix (r := rIxT K) ix_tup (pv 3) (pe_un un_neg pe_int) (fun _ _ => rfl)))) pa_nil)))))), ?_⟩
    obtain ⟨rs, row, gm, G, hr', mr, q⟩ := h
    have few := G.few
    refine ⟨_, rfl, _, rfl, a, r, rfl, rs, row, gm, G, hr', mr, fun H1 g1 => ?_⟩
    refine ⟨_, rfl, a, rfl, rs, gm.keep (tups_same g1), G, fun H2 V1 vd g2 => ?_⟩
    have g12 := g1.trans g2
    refine ⟨_, rfl, a, rfl, rs, gm.keep (tups_same g12), G, fun H3 A nx g3 => ?_⟩
    have g13 := g12.trans g3
    obtain ⟨entV, hV, vals⟩ := vd.same g3
    obtain ⟨entA, hA, nxs⟩ := nx
    obtain ⟨qa, us, eA, hqa, pu⟩ := nxs row mr
    have lu := paired_len pu
    have ln : (nexts rs row).length ≤ 600 := Nat.le_trans (List.length_filter_le _ _) few
    have kr : ∀ {H5 : Hp} {r5 : Addr} {ws : List Str}, H5 r5 = some (.tup (ws.map V.str)) → H5 r5 = some (.tup ((keyRow ws).map kV)) := fun h => by rw [kV_row]; exact h
    refine ⟨_, rfl, A, .ref qa, rfl, eA ▸ DGet.t hA (kr (g13 _ _ hr')), qa, rfl, ⟨_, SqL.of hqa⟩, fun D5 hD5 => ?_⟩
    refine lcS (walk_list (K := K) (a := qa) (xs := us)) stays_str (nexts rs row) (fun l => !(val rs l).1) lastW lu (by omega) (fun H8 g8 => SqL.of (g8 _ _ hqa)) hD5 ?_ ?_
    · rintro i2 x2 l H8 H9 Nx hl ⟨rfl, hx2⟩ sm no yes
      obtain ⟨l', hl', rl, rfl, hrl⟩ := paired_at pu i2 _ hx2
      have e : l' = l := Option.some.inj (hl'.symm.trans hl)
      subst e
      have mx := List.mem_of_getElem? hl
      have ml := (mem_nexts.mp mx).1
      obtain ⟨yv, hyv, tv, rfl, htv⟩ := vals l' ml
      refine ⟨rfl, ?_⟩
      refine ⟨_, rfl, _, rfl, V1, .ref tv, rfl, hyv ▸ DGet.t (sm _ _ hV) (kr (sm _ _ hrl)), tv, _, 0, .bl (val rs l').1, rfl, rfl, SqT.of (sm _ _ htv), rfl, (val rs l').1, rfl, ?_⟩
      cases c : (val rs l').1 with
      | true => exact iteF (no (by rw [c]; rfl) _ (Same.refl _))
      | false => exact iteT ⟨_, rfl, 1, rfl, rl, _, -1, .str (lastW l'), rfl, rfl, SqT.of (sm _ _ hrl), last_at (by obtain ⟨_, w, e⟩ := mem_nexts.mp mx; rw [e]; simp), yes (by rw [c]; rfl) _ _ (Same.refl _) rfl⟩
    · intro H8 g8 l8
      have hB := lst_str l8
      refine ⟨D5, _, rfl, .inl ⟨SqL.of hB, fun p hp => ?_⟩⟩
      exact q _ p ((g13.trans g8).trans (same_new hp)) upd_same
end
end K06
namespace K06
open PySem L2 Nm
open C8 (Cal Mak pe_c pe_mk pe_gc)
open RZ (ItzT pi_zipA)
/-- what the law reckons of a row: who wins, in how many words -/
def RcAt (H : Hp) (y : V) (t : Int × Int) : Prop := ∃ r, y = .ref r ∧ H r = some (.tup [.int t.1, .int t.2])
theorem stays_rc : Stays RcAt := fun _ _ _ _ t ⟨r, e, h⟩ => ⟨r, e, t _ _ h⟩
def rc (rs : List (List Str)) (k : List Str) : Int × Int := (winS rs k, (val rs k).2)
def RsAt (H : Hp) (D : Addr) (rs : List (List Str)) : Prop := ∃ ents : List (List Key × V), H D = some (.dT ents) ∧ ∀ k ∈ rs, ∃ y, valV ents (keyRow k) = some y ∧ RcAt H y (rc rs k)
theorem RsAt.same {H H' : Hp} {D : Addr} {rs : List (List Str)} (h : RsAt H D rs) (g : Same H H') : RsAt H' D rs := by
  obtain ⟨ents, h1, h2⟩ := h
  refine ⟨ents, g _ _ h1, fun k hk => ?_⟩
  obtain ⟨y, e1, e2⟩ := h2 k hk
  exact ⟨y, e1, stays_rc _ _ _ _ (tups_same g) e2⟩
theorem nexts_words (rs : List (List Str)) (row : List Str) : nexts rs row = (wordsAt rs row).map fun w => row ++ [w] := by
  unfold wordsAt
  rw [List.map_map]
  show nexts rs row = (nexts rs row).map _
  refine (List.map_id _).symm.trans (List.map_congr_left fun l hl => ?_)
  obtain ⟨_, w, rfl⟩ := mem_nexts.mp hl
  show row ++ [w] = row ++ [lastW (row ++ [w])]
  rw [lastW_snoc]
/-- behind a row the side that moves there wins just where the one who moves next loses -/
theorem rc_side {rs : List (List Str)} {row l : List Str} (h : l ∈ nexts rs row) : decide ((rc rs l).1 = (row.length : Int) % 2) = !(val rs l).1 := by
  show decide (winS rs l = _) = _
  unfold winS
  rw [nexts_len h]
  have a : ((row.length : Int) % 2 = 0 ∨ (row.length : Int) % 2 = 1) ∧ ((row.length + 1 : Nat) : Int) % 2 = 1 - (row.length : Int) % 2 := by omega
  cases (val rs l).1 with
  | true =>
    rw [if_pos rfl]
    exact decide_eq_false (by omega)
  | false =>
    rw [if_neg Bool.false_ne_true]
    exact decide_eq_true (by omega)
section
variable {P : Program} {w : World} {K : PySem.W.Frag} {mg : Str → Option Value} {base : Heap}
def sp__law_results (K : PySem.W.Frag) : Sp := fun vs H Q _ => ∃ (a : Addr), vs = [.ref a] ∧ ∃ rs, GmAt H a rs ∧ IsG rs ∧ rs.length < 64 ∧ ∀ H' D, RsAt H' D rs → Same H H' → Q (.ref D) H'
theorem c__law_results (T : Txt K mg) : Cal P w K mg base 2 "_law_results" (sp__law_results K) [] := by
  have C__law_words := c__law_words (P := P) (w := w) (base := base) T
  have sc := sc__law_results
  refine cal_of T.d__law_results sc (fun _ _ _ _ _ _ us hl => match us, hl with | [_], _ => rfl) (fun vs H Q E h => ?_) (fun f cdv A outer s H vs Q E hr h => ?_)
  · obtain ⟨a, rfl, _⟩ := h
    rfl
  · obtain ⟨a, rfl, h⟩ := h
    refine ⟨_, (pss_cons (ps_set (i := 1) sc.nd rfl (Or.inr rfl) pe_dnewT)
  (pss_cons (ps_for PassesOwn.never rfl (pi_list (pe_revL (pe_callB cr_sorted rfl T.m_sorted (by decide +kernel) (pa_cons (pe_lc (own := [("row", 3)]) (g := gName 3) rfl sc.nd (pi_tup (pv 0)) (blkOk_by (own := [("row", 3)]) (N := ["game", "found", "size", "row", "side", "later", "good", "one", "word", "told"]) (sc := defScope s__law_results) (by decide +kernel)) (fun _ _ _ _ _ => (pg_name (i := 3) sc.nd rfl (Or.inl rfl))) (fun _ _ _ _ _ => pts_nil) (fun _ _ _ _ _ => (pe_callB (r := Nm.rLenS K) (id := "len") Nm.call_lenS rfl T.m_len (by decide +kernel) (pa_cons (pv 3) pa_nil)))) pa_nil)))) (pg_name (i := 2) sc.nd rfl (Or.inr rfl)) (pss_one (ps_for PassesOwn.never rfl (pi_list (pe_lc (own := [("one", 7)]) (g := gName 7) rfl sc.nd (pi_tup (pv 0)) (blkOk_by (own := [("one", 7)]) (N := ["game", "found", "size", "row", "side", "later", "good", "one", "word", "told"]) (sc := defScope s__law_results) (by decide +kernel)) (fun _ _ _ _ _ => (pg_name (i := 7) sc.nd rfl (Or.inl rfl))) (fun _ _ _ _ _ => (pts_one (PW.pt (pw_and (pt_cmpR op_eq (pe_callB (r := Nm.rLenS K) (id := "len") Nm.call_lenS rfl T.m_len (by decide +kernel) (pa_cons (pv 7) pa_nil)) (pv 2) (nomark _)) (pw_and1 (pt_cmp (pc_dnotin (hu_of hr) (pv 7) (pv 1)))))))) (fun _ _ _ _ _ => (pv 7)))) (pg_name (i := 3) sc.nd rfl (Or.inr rfl)) (pss_cons (ps_set (i := 4) sc.nd rfl (Or.inr rfl) (pe_op op_mod (pv 2) pe_int))
  (pss_cons (ps_setLc (i := 5) (own := [("word", 8)]) (g := gName 8) rfl sc.nd rfl rfl (sw_true rfl rfl rfl (by decide +kernel)) (pi_list (pe_c C__law_words hr (by omega) rfl (pa_cons (pv 0) (pa_cons (pv 3) pa_nil)))) (blkOk_by (own := [("word", 8)]) (N := ["game", "found", "size", "row", "side", "later", "good", "one", "word", "told"]) (sc := defScope s__law_results) (by decide +kernel)) (fun _ _ _ _ _ => (pg_name (i := 8) sc.nd rfl (Or.inl rfl))) (fun _ _ _ _ _ => pts_nil) (fun _ _ _ _ _ => (pe_dget (hu_of hr) (pv 1) (pe_op (r := rCatA K) op_catA (pv 3) (pe_tup (pa_cons (pv 8) pa_nil))) (fun _ _ => rfl))))
  (pss_cons (ps_setLc (i := 6) (own := [("told", 9)]) (g := gName 9) rfl sc.nd rfl rfl (sw_true rfl rfl rfl (by decide +kernel)) (pi_list (pv 5)) (blkOk_by (own := [("told", 9)]) (N := ["game", "found", "size", "row", "side", "later", "good", "one", "word", "told"]) (sc := defScope s__law_results) (by decide +kernel)) (fun _ _ _ _ _ => (pg_name (i := 9) sc.nd rfl (Or.inl rfl))) (fun _ _ _ _ _ => (pts_one (pt_cmpR op_eq (pe_ix (r := rIxT K) ix_tup (pv 9) pe_int (fun _ _ => rfl)) (pv 4) (nomark _)))) (fun _ _ _ _ _ => (pe_ix (r := rIxT K) ix_tup (pv 9) pe_int (fun _ _ => rfl))))
  (pss_one (ps_if (pt_cmpR op_gt (pe_callB (r := Nm.rLenS K) (id := "len") Nm.call_lenS rfl T.m_len (by decide +kernel) (pa_cons (pv 6) pa_nil)) pe_int (nomark _)) (pss_one (ps_dput (hu_of hr) (pv 1) (pv 3) (pe_tup (pa_cons (pv 4) (pa_cons (pe_op op_add pe_int (pe_callB (cr_min rfl) rfl T.m_min (by decide +kernel) (pa_cons (pv 6) pa_nil))) pa_nil))) rfl)) (pss_one (ps_if (pt_cmpR op_gt (pe_callB (r := Nm.rLenS K) (id := "len") Nm.call_lenS rfl T.m_len (by decide +kernel) (pa_cons (pv 5) pa_nil)) pe_int (nomark _)) (pss_one (ps_dput (hu_of hr) (pv 1) (pv 3) (pe_tup (pa_cons (pe_op op_sub pe_int (pv 4)) (pa_cons (pe_op op_add pe_int (pe_callB (cr_max rfl) rfl T.m_max (by decide +kernel) (pa_cons (pe_lc (own := [("told", 9)]) (g := gName 9) rfl sc.nd (pi_list (pv 5)) (blkOk_by (own := [("told", 9)]) (N := ["game", "found", "size", "row", "side", "later", "good", "one", "word", "told"]) (sc := defScope s__law_results) (by decide +kernel)) (fun _ _ _ _ _ => (pg_name (i := 9) sc.nd rfl (Or.inl rfl))) (fun _ _ _ _ _ => pts_nil) (fun _ _ _ _ _ => (pe_ix (r := rIxT K) ix_tup (pv 9) pe_int (fun _ _ => rfl)))) pa_nil))) pa_nil))) rfl)) (pss_one (ps_dput (hu_of hr) (pv 1) (pv 3) (pe_tup (pa_cons (pe_op op_sub pe_int (pv 4)) (pa_cons pe_int pa_nil))) rfl))))))))))))
  (pss_one (ps_ret (pv 1))))), ?_⟩
    obtain ⟨rs, gm, G, few, q⟩ := h
    obtain ⟨xs, ha, pa⟩ := id gm
    have el := paired_len pa
    have big : (100000 : Nat) < PySem.sizeLine := by decide
    refine fun D hD => ?_
    have g0 := same_new (o := .dT []) hD
    -- the sizes, the greatest first
    refine ⟨_, rfl, a, rfl, ⟨_, SqT.of (g0 _ _ ha)⟩, fun D1 hD1 => ?_⟩
    refine lcS (walk_tup (K := K) (a := a) (xs := xs)) stays_int rs (fun _ => true) (fun r => (r.length : Int)) el (by omega) (fun H2 g => SqT.of (g _ _ (g0 _ _ ha))) hD1 ?_ ?_
    · rintro i x ws H2 H3 Nx hw ⟨rfl, hx⟩ sm _ yes
      obtain ⟨ws', hw', y, rfl, hy⟩ := paired_at pa i _ hx
      have e : ws' = ws := Option.some.inj (hw'.symm.trans hw)
      subst e
      refine ⟨rfl, ?_⟩
      refine ⟨_, rfl, y, _, rfl, .inr (SqT.of (sm _ _ (g0 _ _ hy))), yes rfl _ _ (Same.refl _) ?_⟩
      rw [List.length_map]
      rfl
    intro H2 g2 l2
    rw [filter_all] at l2
    obtain ⟨us, hu, pu⟩ := l2
    rw [ints_vs pu] at hu
    refine ⟨D1, rs.map (fun r => (r.length : Int)), rfl, SqL.of hu, by rw [List.length_map]; exact few, fun ns p pm up hp => ?_⟩
    have g3 := same_new (o := .lst (ns.map V.int)) hp
    refine ⟨p, ns.map V.int, rfl, SqL.of upd_same, fun p2 hp2 => ?_⟩
    have g4 := same_new (o := .lst (ns.map V.int).reverse) hp2
    have g024 := (g0.trans g2).trans (g3.trans g4)
    have hD4 : upd (upd H2 p (.lst (ns.map V.int))) p2 (.lst (ns.map V.int).reverse) D = some (.dT []) := (g3.trans g4) _ _ (g2 _ _ upd_same)
    have hp24 : upd (upd H2 p (.lst (ns.map V.int))) p2 (.lst (ns.map V.int).reverse) p2 = some (.lst (ns.reverse.map V.int)) := by
      rw [upd_same, List.map_reverse]
    generalize upd (upd H2 p (.lst (ns.map V.int))) p2 (.lst (ns.map V.int).reverse) = H4 at g024 hD4 hp24
    refine ⟨p2, rfl, ⟨_, SqL.of hp24⟩, ?_⟩
    have down : ns.reverse.Pairwise fun x y => y ≤ x := List.pairwise_reverse.mpr up
    have mns : ∀ r ∈ rs, (r.length : Int) ∈ ns.reverse := fun r hr => List.mem_reverse.mpr (pm.mem_iff.mpr (List.mem_map.mpr ⟨r, hr, rfl⟩))
    refine for_it (walk_list (K := K) (a := p2) (xs := ns.reverse.map V.int)) (fun i σ H5 => ∃ v2 v3 v4 v5 v6 v7 v8 v9, ∃ (ents : List (List Key × V)) (ks : List (List Str)), σ = [some (.ref a), some (.ref D), v2, v3, v4, v5, v6, v7, v8, v9] ∧ Same H H5 ∧ H5 p2 = some (.lst (ns.reverse.map V.int)) ∧ H5 D = some (.dT ents) ∧ ents.length ≤ ks.length ∧ ents.map (·.1) = ks.map keyRow ∧ ks.Nodup ∧ (∀ r, r ∈ ks ↔ r ∈ rs ∧ (r.length : Int) ∈ ns.reverse.take i) ∧ ∀ k ∈ ks, ∃ y, valV ents (keyRow k) = some y ∧ RcAt H5 y (rc rs k))
      ⟨none, none, none, none, none, none, none, none, [], [], rfl, g024, hp24, hD4, Nat.le_refl _, rfl, .nil, fun r => by simp, fun k hk => absurd hk (List.not_mem_nil)⟩ (fun i σ H5 _ ⟨_, _, _, _, _, _, _, _, _, _, _, _, h, _⟩ => SqL.of h) ?_ ?_
    rotate_left
    · rintro σ H5 ⟨v2, v3, v4, v5, v6, v7, v8, v9, ents, ks, rfl, g5, hp5, hD5, le5, hk5, nd5, mem5, vals5⟩
      refine ⟨_, rfl, q H5 D ⟨ents, hD5, fun k hk => vals5 k ((mem5 k).mpr ⟨hk, ?_⟩)⟩ g5⟩
      rw [List.length_map, List.take_length]
      exact mns k hk
    rintro i y σ H5 H6 hi ⟨v2, v3, v4, v5, v6, v7, v8, v9, ents, ks, rfl, g5, hp5, hD5, le5, hk5, nd5, mem5, vals5⟩ ⟨rfl, hy⟩
    obtain ⟨n, hn, rfl⟩ : ∃ n : Int, ns.reverse[i]? = some n ∧ y = .int n := by
      rw [List.getElem?_map] at hy
      cases e : ns.reverse[i]? with
      | none => rw [e] at hy; cases hy
      | some n => rw [e] at hy; exact ⟨n, rfl, (Option.some.inj hy).symm⟩
    -- longer rows are reckoned
    have before : ∀ r ∈ rs, n < (r.length : Int) → r ∈ ks := fun r hr lt => (mem5 r).mpr ⟨hr, by
      have m := mns r hr
      rw [← List.take_append_drop i ns.reverse] at m down
      rcases List.mem_append.mp m with h | h
      · exact h
      · have e : ns.reverse.drop i = n :: ns.reverse.drop (i + 1) := by
          obtain ⟨hlt, hv⟩ := List.getElem?_eq_some_iff.mp hn
          rw [List.drop_eq_getElem_cons hlt, hv]
        rw [e] at h down
        rcases List.mem_cons.mp h with z | z
        · omega
        · have := (List.pairwise_cons.mp (List.pairwise_append.mp down).2.1).1 _ z
          omega⟩
    have ha5 := g5 _ _ ha
    refine ⟨_, rfl, a, rfl, ⟨_, SqT.of ha5⟩, fun D2 hD2 => ?_⟩
    refine lcS (walk_tup (K := K) (a := a) (xs := xs)) stays_rw rs (fun r => decide ((r.length : Int) = n) && !decide (r ∈ ks)) (fun r => r) el (by omega) (fun H7 g7 => SqT.of (g7 _ _ ha5)) hD2 ?_ ?_
    · rintro i2 x2 ws H7 H8 Nx hw ⟨rfl, hx⟩ sm no yes
      obtain ⟨ws', hw', r, rfl, hr1⟩ := paired_at pa i2 _ hx
      have e : ws' = ws := Option.some.inj (hw'.symm.trans hw)
      subst e
      have hr7 := sm _ _ (g5 _ _ hr1)
      refine ⟨rfl, ?_⟩
      refine ⟨_, rfl, r, _, rfl, .inr (SqT.of hr7), _, rfl, rfl, _, rfl, ?_⟩
      rw [List.length_map, decI]
      cases c1 : decide ((ws'.length : Int) = n) with
      | false => exact iteF (no (by rw [c1]; rfl) _ (Same.refl _))
      | true =>
        refine iteT ?_
        refine ⟨_, rfl, _, rfl, D, valV ents (keyRow ws'), rfl, DGet.t (sm _ _ hD5) (by rw [kV_row]; exact hr7), ?_⟩
        rw [keys_isSome hk5]
        cases c2 : decide (ws' ∈ ks) with
        | true => exact ⟨false, rfl, iteF (no (by rw [c1, c2]; rfl) _ (Same.refl _))⟩
        | false => exact ⟨true, rfl, iteT ⟨_, rfl, yes (by rw [c1, c2]; rfl) _ _ (Same.refl _) ⟨r, rfl, hr7⟩⟩⟩
    intro H7 g7 l7
    rw [List.map_id'] at l7
    obtain ⟨zs, hz, pz⟩ := l7
    have nfl : (rs.filter fun r => decide ((r.length : Int) = n) && !decide (r ∈ ks)).Nodup := List.Pairwise.filter _ (bef_nodup G.up)
    have ofl : ∀ r ∈ rs.filter (fun r => decide ((r.length : Int) = n) && !decide (r ∈ ks)), r ∈ rs ∧ (r.length : Int) = n ∧ r ∉ ks := fun r hr => by
      obtain ⟨h1, h2⟩ := List.mem_filter.mp hr
      rw [Bool.and_eq_true] at h2
      refine ⟨h1, of_decide_eq_true h2.1, fun h => ?_⟩
      rw [decide_eq_true h] at h2
      cases h2.2
    have allfl : ∀ r ∈ rs, (r.length : Int) = n → r ∈ ks ∨ r ∈ rs.filter (fun r => decide ((r.length : Int) = n) && !decide (r ∈ ks)) := fun r hr e => by
      by_cases c : r ∈ ks
      · exact .inl c
      · exact .inr (List.mem_filter.mpr ⟨hr, by rw [decide_eq_true e, decide_eq_false c]; rfl⟩)
    generalize rs.filter (fun r => decide ((r.length : Int) = n) && !decide (r ∈ ks)) = fl at pz nfl ofl allfl
    have lz := paired_len pz
    have lfl : fl.length ≤ rs.length := List.Nodup.length_le_of_subset nfl fun r hr => (ofl r hr).1
    have lks : ks.length ≤ rs.length := List.Nodup.length_le_of_subset nd5 fun r hr => ((mem5 r).mp hr).1
    have g57 := g5.trans g7
    refine ⟨D2, rfl, ⟨_, SqL.of hz⟩, ?_⟩
    refine for_it (walk_list (K := K) (a := D2) (xs := zs)) (fun j σ H8 => ∃ v3 v4 v5 v6 v7 v8 v9, ∃ (ents : List (List Key × V)) (ks' : List (List Str)), σ = [some (.ref a), some (.ref D), some (.int n), v3, v4, v5, v6, v7, v8, v9] ∧ Same H H8 ∧ Tups H7 H8 ∧ H8 p2 = some (.lst (ns.reverse.map V.int)) ∧ H8 D2 = some (.lst zs) ∧ H8 D = some (.dT ents) ∧ ents.length ≤ ks'.length ∧ ents.map (·.1) = ks'.map keyRow ∧ ks'.Nodup ∧ (∀ r, r ∈ ks' ↔ r ∈ ks ∨ r ∈ fl.take j) ∧ ∀ k ∈ ks', ∃ y, valV ents (keyRow k) = some y ∧ RcAt H8 y (rc rs k))
      ⟨_, _, _, _, _, _, _, ents, ks, rfl, g57, fun _ _ h => h, g7 _ _ hp5, hz, g7 _ _ hD5, le5, hk5, nd5, fun r => by simp, fun k hk => by
        obtain ⟨y, e1, e2⟩ := vals5 k hk
        exact ⟨y, e1, stays_rc _ _ _ _ (tups_same g7) e2⟩⟩ (fun j σ H8 _ ⟨_, _, _, _, _, _, _, _, _, _, _, _, _, h, _⟩ => SqL.of h) ?_ ?_
    rotate_left
    · rintro σ H8 ⟨v3, v4, v5, v6, v7, v8, v9, ents', ks', rfl, g8, _, hp8, _, hD8, le8, hk8, nd8, mem8, vals8⟩
      refine ⟨_, _, _, _, _, _, _, _, ents', ks', rfl, g8, hp8, hD8, le8, hk8, nd8, fun r => ?_, vals8⟩
      rw [mem8 r, show zs.length = fl.length from lz, List.take_length, mem5 r, take_one hn, List.mem_append, List.mem_singleton]
      constructor
      · rintro (⟨h1, h2⟩ | h)
        · exact ⟨h1, .inl h2⟩
        · exact ⟨(ofl r h).1, .inr (ofl r h).2.1⟩
      · rintro ⟨h1, h2 | h2⟩
        · exact .inl ⟨h1, h2⟩
        · rcases allfl r h1 h2 with h | h
          · exact .inl ((mem5 r).mp h)
          · exact .inr h
    rintro j y σ H8 H9 hj ⟨v3, v4, v5, v6, v7, v8, v9, ents', ks', rfl, g8, tk8, hp8, hz8, hD8, le8, hk8, nd8, mem8, vals8⟩ ⟨rfl, hy⟩
    obtain ⟨row, hrow, r, rfl, hr7⟩ := paired_at pz j y hy
    obtain ⟨mrow, lrow, nrow⟩ := ofl row (List.mem_of_getElem? hrow)
    have rok := G.ok row mrow
    have hr8 := tk8 _ _ hr7
    have lks' : ks'.length ≤ rs.length := List.Nodup.length_le_of_subset nd8 fun r hr => ((mem8 r).mp hr).elim (fun h => ((mem5 r).mp h).1) fun h => (ofl r (List.mem_of_mem_take h)).1
    refine ⟨_, rfl, _, 2, rfl, rfl, (by show (0 : Int) < 2; decide), ?_⟩
    show gName 4 (.int (n % 2)) _ _ _
    -- what is told of the rows behind
    refine ⟨_, rfl, _, rfl, a, r, rfl, rs, row, gm.keep (tups_same g8), G, hr8, rok.2, few, fun pw H10 g10 hpw => ?_⟩
    have later : ∀ w ∈ wordsAt rs row, row ++ [w] ∈ nexts rs row := fun w hw => mem_nexts.mpr ⟨mem_words.mp hw, w, rfl⟩
    have lw : (wordsAt rs row).length ≤ 600 := by
      have e := congrArg List.length (nexts_words rs row)
      rw [List.length_map] at e
      have := List.length_filter_le (isNext row) rs
      unfold nexts at e
      omega
    refine ⟨pw, rfl, ⟨_, SqL.of hpw⟩, fun D3 hD3 => ?_⟩
    refine lcS (walk_list (K := K) (a := pw) (xs := (wordsAt rs row).map V.str)) stays_rc (wordsAt rs row) (fun _ => true) (fun w => rc rs (row ++ [w])) (List.length_map ..) (by omega) (fun H11 g11 => SqL.of (g11 _ _ hpw)) hD3 ?_ ?_
    · rintro j2 x2 w H11 H12 Nx hw ⟨rfl, hx2⟩ sm _ yes
      rw [List.getElem?_map, hw] at hx2
      cases hx2
      have ml := later w (List.mem_of_getElem? hw)
      have mk' : row ++ [w] ∈ ks' := (mem8 _).mpr (.inl (before _ (mem_nexts.mp ml).1 (by rw [nexts_len ml]; omega)))
      obtain ⟨yv, hyv, rcv⟩ := vals8 _ mk'
      have s11 := g10.trans sm
      refine ⟨rfl, ?_⟩
      refine ⟨_, rfl, _, rfl, _, rfl, (by show 1 ≤ PySem.sizeLine; decide), fun c hc => ?_⟩
      have gc := same_new (o := .tup [V.str w]) hc
      refine cat_tups (gc _ _ (s11 _ _ hr8)) upd_same (by rw [List.length_map]; have := rok.1; show row.length + 1 ≤ 4000; omega) fun b H13 g13 hb => ?_
      have hb' : H13 b = some (.tup ((keyRow (row ++ [w])).map kV)) := by
        rw [kV_row, List.map_append]
        exact hb
      have s13 := s11.trans (gc.trans g13)
      exact ⟨D, yv, rfl, hyv ▸ DGet.t (s13 _ _ hD8) hb', yes rfl _ _ (gc.trans g13) (stays_rc _ _ _ _ (tups_same s13) rcv)⟩
    intro H11 g11 l11
    rw [filter_all] at l11
    obtain ⟨ts, hT, pt⟩ := l11
    have etl : (wordsAt rs row).map (fun w => rc rs (row ++ [w])) = (nexts rs row).map (rc rs) := by
      rw [nexts_words, List.map_map]
      rfl
    rw [etl] at pt
    have egood : (((nexts rs row).map (rc rs)).filter fun t => decide (t.1 = n % 2)).map (·.2) = (((nexts rs row).map (val rs)).filter fun t => !t.1).map (·.2) := by
      rw [List.filter_map, List.filter_map, List.map_map, List.map_map]
      have e : (nexts rs row).filter ((fun t => decide (t.1 = n % 2)) ∘ rc rs) = (nexts rs row).filter ((fun t => !t.1) ∘ val rs) := List.filter_congr fun l hl => by
        show decide ((rc rs l).1 = n % 2) = !(val rs l).1
        rw [← lrow]
        exact rc_side hl
      rw [e]
      rfl
    have vrow : val rs row = stepV ((nexts rs row).map (val rs)) := val_eq rs rok.1
    have pos : ∀ t ∈ (nexts rs row).map (val rs), 0 ≤ t.2 := fun t ht => by
      obtain ⟨l, _, rfl⟩ := List.mem_map.mp ht
      exact val_pos rs l
    have snd : ((nexts rs row).map (rc rs)).map (·.2) = ((nexts rs row).map (val rs)).map (·.2) := by
      rw [List.map_map, List.map_map]
      rfl
    have lnx : (nexts rs row).length ≤ 600 := Nat.le_trans (List.length_filter_le _ _) (by omega)
    have ltl : ts.length = ((nexts rs row).map (rc rs)).length := paired_len pt
    have ltl2 : ((nexts rs row).map (rc rs)).length ≤ 600 := by rw [List.length_map]; exact lnx
    generalize (nexts rs row).map (rc rs) = tl at pt egood snd ltl ltl2
    generalize (nexts rs row).map (val rs) = told at egood vrow pos snd
    refine ⟨_, rfl, D3, rfl, ⟨_, SqL.of hT⟩, fun W1 hW1 => ?_⟩
    refine lcS (walk_list (K := K) (a := D3) (xs := ts)) stays_int tl (fun t => decide (t.1 = n % 2)) (fun t => t.2) ltl (by omega) (fun H12 g12 => SqL.of (g12 _ _ hT)) hW1 ?_ ?_
    · rintro j2 x2 t H12 H13 Nx ht ⟨rfl, hx2⟩ sm no yes
      obtain ⟨t', ht', rt, rfl, hrt⟩ := paired_at pt j2 _ hx2
      have e : t' = t := Option.some.inj (ht'.symm.trans ht)
      subst e
      have hrt2 := sm _ _ hrt
      refine ⟨rfl, ?_⟩
      refine ⟨_, rfl, rt, _, 0, .int t'.1, rfl, rfl, SqT.of hrt2, rfl, _, rfl, rfl, _, rfl, ?_⟩
      rw [decI]
      cases c : decide (t'.1 = n % 2) with
      | false => exact iteF (no c _ (Same.refl _))
      | true => exact iteT ⟨_, rfl, rt, _, 1, .int t'.2, rfl, rfl, SqT.of hrt2, rfl, yes c _ _ (Same.refl _) rfl⟩
    intro H12 g12 l12
    obtain ⟨ws, hW, pw2⟩ := l12
    rw [ints_vs pw2, egood] at hW
    have g812 := g10.trans (g11.trans g12)
    have hD12 := g812 _ _ hD8
    have hr12 := g812 _ _ hr8
    have kr : ∀ {H5 : Hp} {r5 : Addr} {ws : List Str}, H5 r5 = some (.tup (ws.map V.str)) → H5 r5 = some (.tup ((keyRow ws).map kV)) := fun h => by rw [kV_row]; exact h
    have done : ∀ (H13 : Hp) (y : V), Same H12 H13 → RcAt H13 y (rc rs row) → ∃ (ents2 : List (List Key × V)) (ks2 : List (List Str)), Same H (upd H13 D (.dT (putK ents' (keyRow row) y))) ∧ Tups H7 (upd H13 D (.dT (putK ents' (keyRow row) y))) ∧ upd H13 D (.dT (putK ents' (keyRow row) y)) p2 = some (.lst (ns.reverse.map V.int)) ∧ upd H13 D (.dT (putK ents' (keyRow row) y)) D2 = some (.lst zs) ∧ upd H13 D (.dT (putK ents' (keyRow row) y)) D = some (.dT ents2) ∧ ents2.length ≤ ks2.length ∧ ents2.map (·.1) = ks2.map keyRow ∧ ks2.Nodup ∧ (∀ r, r ∈ ks2 ↔ r ∈ ks ∨ r ∈ fl.take (j + 1)) ∧ ∀ k ∈ ks2, ∃ y', valV ents2 (keyRow k) = some y' ∧ RcAt (upd H13 D (.dT (putK ents' (keyRow row) y))) y' (rc rs k) := fun H13 y g13 rcy => by
      have g813 := g812.trans g13
      have hD13 := g813 _ _ hD8
      have td := tups_dT (vs := putK ents' (keyRow row) y) hD13
      have npD : p2 ≠ D := fun e => by
        rw [e, hD8] at hp8
        cases hp8
      have nzD : D2 ≠ D := fun e => by
        rw [e, hD8] at hz8
        cases hz8
      have kp := keys_put hk8 nd8 row y
      refine ⟨putK ents' (keyRow row) y, plusR ks' row, same_mut (g8.trans g813) hD, fun c us hc => td _ _ (g813 _ _ (tk8 _ _ hc)), by rw [upd_ne npD]; exact g813 _ _ hp8, by rw [upd_ne nzD]; exact g813 _ _ hz8, upd_same, ?_, kp, plusR_nd nd8 _, fun z => ?_, fun k hk => ?_⟩
      · have e := congrArg List.length kp
        rw [List.length_map, List.length_map] at e
        omega
      · rw [mem_plusR, mem8 z, take_one hrow, List.mem_append, List.mem_singleton, or_assoc]
      · by_cases c : k = row
        · subst c
          exact ⟨y, (valV_put ents' (keyRow k) (keyRow k) y).trans (if_pos rfl), stays_rc _ _ _ _ td rcy⟩
        · obtain ⟨y', hy', rc'⟩ := vals8 k ((mem_plusR.mp hk).resolve_right c)
          exact ⟨y', ((valV_put ents' (keyRow row) (keyRow k) y).trans (if_neg fun e => c (inr_inj.mp e))).trans hy', stays_rc _ _ _ _ (fun c us hc => td _ _ (g813 _ _ hc)) rc'⟩
    have el8 : ents'.length ≤ 64 := by omega
    refine ⟨_, rfl, W1, _, rfl, .inl (SqL.of hW), _, _, rfl, rfl, _, rfl, ?_⟩
    rw [List.length_map]
    refine ite2 (fun z => ?_) (fun z => ?_)
    · have c : (told.filter fun t => !t.1).map (·.2) ≠ [] := fun e => by
        rw [e] at z
        cases z
      refine ⟨_, rfl, _, rfl, W1, (told.filter fun t => !t.1).map (·.2), rfl, SqL.of hW, List.length_pos_iff.mpr c, fun m hm hl => ?_⟩
      have ev : rc rs row = (n % 2, 1 + m) := by
        show (winS rs row, (val rs row).2) = _
        unfold winS
        rw [vrow, step_win c hm hl, if_pos rfl, lrow]
      refine ⟨_, _, rfl, rfl, two, fun t ht => ⟨_, rfl, _, rfl, D, _, rfl, DPut.t (same_new ht _ _ hD12) (kr (same_new ht _ _ hr12)) (by omega), ?_⟩⟩
      obtain ⟨e1, k1, rest⟩ := done _ (.ref t) (same_new ht) ⟨t, rfl, by rw [upd_same, ev]⟩
      exact ⟨_, _, _, _, _, _, _, e1, k1, rfl, rest⟩
    · have c : (told.filter fun t => !t.1).map (·.2) = [] := by
        cases e : (told.filter fun t => !t.1).map (·.2) with
        | nil => rfl
        | cons a b =>
          rw [e] at z
          exact absurd (decide_eq_true (show (0 : Int) < ((a :: b).length : Int) by rw [List.length_cons]; omega)) z
      have hT12 := g12 _ _ hT
      refine ⟨_, rfl, D3, _, rfl, .inl (SqL.of hT12), _, _, rfl, rfl, _, rfl, ?_⟩
      refine ite2 (fun z2 => ?_) (fun z2 => ?_)
      · refine ⟨_, rfl, _, _, rfl, rfl, ?_⟩
        refine ⟨_, rfl, D3, rfl, ⟨_, SqL.of hT12⟩, fun M1 hM1 => ?_⟩
        refine lcS (walk_list (K := K) (a := D3) (xs := ts)) stays_int tl (fun _ => true) (fun t => t.2) ltl (by omega) (fun H13 g13 => SqL.of (g13 _ _ hT12)) hM1 ?_ ?_
        · rintro j2 x2 t H13 H14 Nx ht ⟨rfl, hx2⟩ sm _ yes
          obtain ⟨t', ht', rt, rfl, hrt⟩ := paired_at pt j2 _ hx2
          have e : t' = t := Option.some.inj (ht'.symm.trans ht)
          subst e
          refine ⟨rfl, ?_⟩
          exact ⟨_, rfl, rt, _, 1, .int t'.2, rfl, rfl, SqT.of (sm _ _ (g12 _ _ hrt)), rfl, yes rfl _ _ (Same.refl _) rfl⟩
        intro H13 g13 l13
        rw [filter_all] at l13
        obtain ⟨ms, hM, pm2⟩ := l13
        rw [ints_vs pm2, snd] at hM
        have pl : 0 < (told.map (·.2)).length := by
          have e := congrArg List.length snd
          rw [List.length_map] at e
          have := of_decide_eq_true z2
          omega
        refine ⟨M1, told.map (·.2), rfl, SqL.of hM, pl, fun m hm hl => ?_⟩
        have ev : rc rs row = (1 - n % 2, 1 + m) := by
          show (winS rs row, (val rs row).2) = _
          have hm' : 1 + m ∈ told.map (fun t => 1 + t.2) := by
            obtain ⟨t, ht, rfl⟩ := List.mem_map.mp hm
            exact List.mem_map.mpr ⟨t, ht, rfl⟩
          have sv := step_lose c hm' (fun y hy => by
            obtain ⟨t, ht, rfl⟩ := List.mem_map.mp hy
            have := hl t.2 (List.mem_map.mpr ⟨t, ht, rfl⟩)
            omega) (fun y hy => by
            obtain ⟨t, ht, rfl⟩ := List.mem_map.mp hy
            have := pos t ht
            omega)
          unfold winS
          rw [vrow, sv, if_neg Bool.false_ne_true, lrow]
        refine ⟨_, _, rfl, rfl, two, fun t ht => ⟨_, rfl, _, rfl, D, _, rfl, DPut.t (same_new ht _ _ (g13 _ _ hD12)) (kr (same_new ht _ _ (g13 _ _ hr12))) (by omega), ?_⟩⟩
        obtain ⟨e1, k1, rest⟩ := done _ (.ref t) (g13.trans (same_new ht)) ⟨t, rfl, by rw [upd_same, ev]⟩
        exact ⟨_, _, _, _, _, _, _, e1, k1, rfl, rest⟩
      · have t0 : told = [] := by
          have e := congrArg List.length snd
          rw [List.length_map, List.length_map] at e
          have nz : ¬ (0 : Int) < (ts.length : Int) := fun h => z2 (decide_eq_true h)
          exact List.eq_nil_of_length_eq_zero (by omega)
        have ev : rc rs row = (1 - n % 2, 0) := by
          show (winS rs row, (val rs row).2) = _
          unfold winS
          rw [vrow, step_lose0 c (by rw [t0]; rfl), if_neg Bool.false_ne_true, lrow]
        refine ⟨_, rfl, _, _, rfl, rfl, two, fun t ht => ⟨_, rfl, _, rfl, D, _, rfl, DPut.t (same_new ht _ _ hD12) (kr (same_new ht _ _ hr12)) (by omega), ?_⟩⟩
        obtain ⟨e1, k1, rest⟩ := done _ (.ref t) (same_new ht) ⟨t, rfl, by rw [upd_same, ev]⟩
        exact ⟨_, _, _, _, _, _, _, e1, k1, rfl, rest⟩
end
end K06
namespace K06
open PySem L2 Nm
open C8 (Cal Mak pe_c pe_mk pe_gc)
open RZ (ItzT pi_zipA)
theorem at_ok {xs : List V} {r : Int} (h0 : 0 ≤ r) (h1 : r < (xs.length : Int)) : ∃ x, atI xs r = some x ∧ x ∈ xs := by
  obtain ⟨k, rfl⟩ : ∃ k : Nat, r = (k : Int) := ⟨r.toNat, by omega⟩
  have e : xs[k]? = some (xs[k]'(by omega)) := List.getElem?_eq_getElem (by omega)
  exact ⟨_, atI_nat e, List.mem_of_getElem? e⟩
section
variable {P : Program} {w : World} {K : PySem.W.Frag} {mg : Str → Option Value} {base : Heap}
def sp__law_some (K : PySem.W.Frag) : Sp := fun vs H Q _ => ∃ (tp p : Addr), vs = [.ref tp, .ref p] ∧ ∃ l xs, TapeAt H tp l ∧ H p = some (.lst xs) ∧ p ≠ tp ∧ 1 ≤ xs.length ∧ xs.length ≤ 1000 ∧ ∀ (x : V) (H' : Hp), x ∈ xs → TapeAt H' tp l → Mov tp H H' → Q x H'
theorem c__law_some (T : Txt K mg) : Cal P w K mg base 2 "_law_some" (sp__law_some K) [] := by
  have C__law_pick := c__law_pick (P := P) (w := w) (base := base) T
  have sc := sc__law_some
  refine cal_of T.d__law_some sc (fun _ _ _ _ _ _ us hl => match us, hl with | [_, _], _ => rfl) (fun vs H Q E h => ?_) (fun f cdv A outer s H vs Q E hr h => ?_)
  · obtain ⟨tp, p, rfl, _⟩ := h
    rfl
  · obtain ⟨tp, p, rfl, h⟩ := h
    refine ⟨_, (pss_one (ps_ret (pe_ix ix_list (pv 1) (pe_c C__law_pick hr (by omega) rfl (pa_cons (pv 0) (pa_cons (pe_callB (r := Nm.rLenS K) (id := "len") Nm.call_lenS rfl T.m_len (by decide +kernel) (pa_cons (pv 1) pa_nil)) pa_nil))) (fun _ _ => rfl)))), ?_⟩
    obtain ⟨l, xs, t, hp, np, l1, l2', q⟩ := h
    refine ⟨_, rfl, _, rfl, _, rfl, p, _, rfl, .inl (SqL.of hp), tp, _, rfl, l, t, by omega, by omega, fun r H1 r0 r1 t1 mv => ?_⟩
    obtain ⟨x, hx, mx⟩ := at_ok r0 r1
    exact ⟨p, _, r, x, rfl, rfl, SqL.of (mv _ _ hp np), hx, q x H1 mx t1 mv⟩
end
end K06
namespace K06
open PySem L2 Nm
open C8 (Cal Mak pe_c pe_mk pe_gc)
open RZ (ItzT pi_zipA)
theorem few_ok : ∀ x ∈ [V.str "a", V.str "b", V.str "c", V.str "a", V.str "b", V.str "ab", V.str "zz", V.str "c", V.str "aa", V.str "qwertyuiopasdfghjklz"], ∃ z, x = .str z ∧ wordOk z := by
  intro x hx
  simp only [List.mem_cons, List.not_mem_nil, or_false] at hx
  rcases hx with rfl | rfl | rfl | rfl | rfl | rfl | rfl | rfl | rfl | rfl <;> exact ⟨_, rfl, by decide +kernel, by decide +kernel⟩
section
variable {P : Program} {w : World} {K : PySem.W.Frag} {mg : Str → Option Value} {base : Heap}
def sp__law_word (K : PySem.W.Frag) : Sp := fun vs H Q _ => ∃ (tp : Addr), vs = [.ref tp] ∧ ∃ l, TapeAt H tp l ∧ ∀ z H', wordOk z → TapeAt H' tp l → Mov tp H H' → Q (.str z) H'
theorem c__law_word (T : Txt K mg) : Cal P w K mg base 2 "_law_word" (sp__law_word K) [] := by
  have C__law_pick := c__law_pick (P := P) (w := w) (base := base) T
  have sc := sc__law_word
  refine cal_of T.d__law_word sc (fun _ _ _ _ _ _ us hl => match us, hl with | [_], _ => rfl) (fun vs H Q E h => ?_) (fun f cdv A outer s H vs Q E hr h => ?_)
  · obtain ⟨tp, rfl, _⟩ := h
    rfl
  · obtain ⟨tp, rfl, h⟩ := h
    refine ⟨_, (pss_cons (ps_set (i := 1) sc.nd rfl (Or.inl rfl) (pe_lst (pa_cons pe_str (pa_cons pe_str (pa_cons pe_str (pa_cons pe_str (pa_cons pe_str (pa_cons pe_str (pa_cons pe_str (pa_cons pe_str (pa_cons pe_str (pa_cons pe_str pa_nil))))))))))))
  (pss_one (ps_ret (pe_ix ix_list (pv 1) (pe_c C__law_pick hr (by omega) rfl (pa_cons (pv 0) (pa_cons pe_int pa_nil))) (fun _ _ => rfl))))), ?_⟩
    obtain ⟨l, t, q⟩ := h
    refine ⟨(by show 10 ≤ PySem.sizeLine; decide), fun p hp => ?_⟩
    have np := t.new hp
    have g := same_new (o := .lst [V.str "a", V.str "b", V.str "c", V.str "a", V.str "b", V.str "ab", V.str "zz", V.str "c", V.str "aa", V.str "qwertyuiopasdfghjklz"]) hp
    refine ⟨_, rfl, _, rfl, tp, 10, rfl, l, t.same g, by decide, by decide, fun r H1 r0 r1 t1 mv => ?_⟩
    obtain ⟨x, hx, mx⟩ := at_ok (xs := [V.str "a", V.str "b", V.str "c", V.str "a", V.str "b", V.str "ab", V.str "zz", V.str "c", V.str "aa", V.str "qwertyuiopasdfghjklz"]) r0 r1
    obtain ⟨z, rfl, hz⟩ := few_ok x mx
    exact ⟨p, _, r, _, rfl, rfl, SqL.of (mv _ _ upd_same np.1), hx, q z H1 hz t1 ((mov_same g).trans mv)⟩
end
end K06
namespace K06
open PySem L2 Nm
open C8 (Cal Mak pe_c pe_mk pe_gc)
open RZ (ItzT pi_zipA)
section
variable {P : Program} {w : World} {K : PySem.W.Frag} {mg : Str → Option Value} {base : Heap}
def sp__law_line (K : PySem.W.Frag) : Sp := fun vs H Q _ => ∃ (tp : Addr) (many : Int), vs = [.ref tp, .int many] ∧ ∃ l, TapeAt H tp l ∧ 0 ≤ many ∧ many ≤ 100 ∧ ∀ (r : Addr) (ws : List Str) (H' : Hp), H' r = some (.tup (ws.map V.str)) → (∀ z ∈ ws, wordOk z) → (ws.length : Int) = many → TapeAt H' tp l → Mov tp H H' → Q (.ref r) H'
theorem c__law_line (T : Txt K mg) : Cal P w K mg base 3 "_law_line" (sp__law_line K) [] := by
  have C__law_word := c__law_word (P := P) (w := w) (base := base) T
  have sc := sc__law_line
  refine cal_of T.d__law_line sc (fun _ _ _ _ _ _ us hl => match us, hl with | [_, _], _ => rfl) (fun vs H Q E h => ?_) (fun f cdv A outer s H vs Q E hr h => ?_)
  · obtain ⟨tp, many, rfl, _⟩ := h
    rfl
  · obtain ⟨tp, many, rfl, h⟩ := h
    refine ⟨_, (pss_one (ps_ret (pe_callTy call_tuple_of rfl T.m_tuple (by decide +kernel) (pa_cons (pe_lc (own := [("k", 2)]) (g := gName 2) rfl sc.nd (pi_range1 rfl T.m_range (pa_cons (pv 1) pa_nil)) (blkOk_by (own := [("k", 2)]) (N := ["tape", "many", "k"]) (sc := defScope s__law_line) (by decide +kernel)) (fun _ _ _ _ _ => (pg_name (i := 2) sc.nd rfl (Or.inl rfl))) (fun _ _ _ _ _ => pts_nil) (fun _ _ _ _ _ => (pe_c C__law_word hr (by omega) rfl (pa_cons (pv 0) pa_nil)))) pa_nil)))), ?_⟩
    obtain ⟨l, t0, m0, m1, q⟩ := h
    refine ⟨_, rfl, many, rfl, by omega, by omega, fun D hD => ?_⟩
    have nD := t0.new hD
    refine lc_range (lo := 0) (n := many.toNat) (fun i H1 => ∃ ws : List Str, H1 D = some (.lst (ws.map V.str)) ∧ (∀ z ∈ ws, wordOk z) ∧ ws.length = i ∧ TapeAt H1 tp l ∧ Mov tp H H1) ⟨[], upd_same, fun z hz => absurd hz (List.not_mem_nil), rfl, t0.upd nD, mov_mut (Mov.refl tp H) hD⟩ ?_ ?_
    · rintro i H1 hi ⟨ws, h1, ok, lw, t1, mv⟩
      refine ⟨rfl, ?_⟩
      refine ⟨_, rfl, tp, rfl, l, t1, fun z H2 hz t2 mv2 => ?_⟩
      have h2 : H2 D = some (.lst (ws.map V.str)) := mv2 _ _ h1 nD.1
      refine ⟨_, h2, ?_, ws ++ [z], ?_, ?_, by rw [List.length_append, lw]; rfl, t2.upd nD, mov_mut (mv.trans mv2) hD⟩
      · rw [List.length_map]
        have b : (1000 : Nat) < PySem.sizeLine := by decide
        omega
      · rw [upd_same, List.map_append]
        rfl
      · intro y hy
        rcases List.mem_append.mp hy with c | c
        · exact ok y c
        · rw [List.mem_singleton.mp c]
          exact hz
    · rintro H1 ⟨ws, h1, ok, lw, t1, mv⟩
      refine ⟨D, _, rfl, .inl ⟨SqL.of h1, fun p hp => ?_⟩⟩
      have g := same_new (o := .tup (ws.map V.str)) hp
      exact q p ws _ upd_same ok (by omega) (t1.same g) (mv.trans (mov_same g))
end
end K06
namespace K06
open PySem L2 Nm
open C8 (Cal Mak pe_c pe_mk pe_gc)
open RZ (ItzT pi_zipA)
/-- the rows that have grown so far -/
structure Grow (rs : List (List Str)) (i : Nat) : Prop where
  nil : [] ∈ rs
  nd : rs.Nodup
  pre : ∀ r ∈ rs, r.dropLast ∈ rs
  ok : ∀ r ∈ rs, r.length ≤ i ∧ ∀ z ∈ r, wordOk z
  len : rs.length ≤ i + 1
theorem Grow.next {rs : List (List Str)} {i : Nat} (g : Grow rs i) : Grow rs (i + 1) := ⟨g.nil, g.nd, g.pre, fun r hr => ⟨by have := (g.ok r hr).1; omega, (g.ok r hr).2⟩, by have := g.len; omega⟩
theorem Grow.more {rs : List (List Str)} {i : Nat} (g : Grow rs i) {row : List Str} (hr : row ∈ rs) {w : Str} (hw : wordOk w) (n : row ++ [w] ∉ rs) : Grow (rs ++ [row ++ [w]]) (i + 1) := by
  refine ⟨List.mem_append_left _ g.nil, List.nodup_append.mpr ⟨g.nd, List.pairwise_singleton _ _, fun a ha b hb e => n (by rw [← List.mem_singleton.mp hb, ← e]; exact ha)⟩, fun r hr' => ?_, fun r hr' => ?_, ?_⟩
  · rcases List.mem_append.mp hr' with h | h
    · exact List.mem_append_left _ (g.pre r h)
    · rw [List.mem_singleton.mp h, List.dropLast_concat]
      exact List.mem_append_left _ hr
  · rcases List.mem_append.mp hr' with h | h
    · exact ⟨by have := (g.ok r h).1; omega, (g.ok r h).2⟩
    · rw [List.mem_singleton.mp h]
      refine ⟨by rw [List.length_append, List.length_singleton]; have := (g.ok row hr).1; omega, fun z hz => ?_⟩
      rcases List.mem_append.mp hz with m | m
      · exact (g.ok row hr).2 z m
      · rw [List.mem_singleton.mp m]
        exact hw
  · rw [List.length_append, List.length_singleton]
    have := g.len
    omega
theorem Grow.game {rs gs : List (List Str)} {i : Nat} (g : Grow rs i) (i6 : i ≤ 60) (up : gs.Pairwise bef) (pm : gs.Perm rs) : IsG gs :=
  ⟨up, pm.mem_iff.mpr g.nil, fun r hr => pm.mem_iff.mpr (g.pre r (pm.mem_iff.mp hr)), fun r hr => ⟨by have := (g.ok r (pm.mem_iff.mp hr)).1; omega, (g.ok r (pm.mem_iff.mp hr)).2⟩, by rw [pm.length_eq]; have := g.len; omega⟩
section
variable {P : Program} {w : World} {K : PySem.W.Frag} {mg : Str → Option Value} {base : Heap}
def sp__law_game (K : PySem.W.Frag) : Sp := fun vs H Q _ => ∃ (tp : Addr) (most : Int), vs = [.ref tp, .int most] ∧ ∃ l, TapeAt H tp l ∧ 1 ≤ most ∧ most ≤ 60 ∧
  ∀ (p : Addr) (gs : List (List Str)) (H' : Hp), GmAt H' p gs → IsG gs → (gs.length : Int) ≤ most → (∀ r ∈ gs, (r.length : Int) < most) → TapeAt H' tp l → Mov tp H H' → Q (.ref p) H'
theorem c__law_game (T : Txt K mg) : Cal P w K mg base 3 "_law_game" (sp__law_game K) [] := by
  have C__law_pick := c__law_pick (P := P) (w := w) (base := base) T
  have C__law_word := c__law_word (P := P) (w := w) (base := base) T
  have sc := sc__law_game
  refine cal_of T.d__law_game sc (fun _ _ _ _ _ _ us hl => match us, hl with | [_, _], _ => rfl) (fun vs H Q E h => ?_) (fun f cdv A outer s H vs Q E hr h => ?_)
  · obtain ⟨tp, most, rfl, _⟩ := h
    rfl
  · obtain ⟨tp, most, rfl, h⟩ := h
    refine ⟨_, (pss_cons (ps_set (i := 2) sc.nd rfl (Or.inl rfl) (pe_lst (pa_cons (pe_tup pa_nil) pa_nil)))
  (pss_cons (ps_for PassesOwn.never rfl (pi_range1 rfl T.m_range (pa_cons (pe_c C__law_pick hr (by omega) rfl (pa_cons (pv 0) (pa_cons (pv 1) pa_nil))) pa_nil)) (pg_name (i := 3) sc.nd rfl (Or.inl rfl)) (pss_cons (ps_set (i := 4) sc.nd rfl (Or.inl rfl) (pe_ix ix_list (pv 2) (pe_c C__law_pick hr (by omega) rfl (pa_cons (pv 0) (pa_cons (pe_callB (r := Nm.rLenS K) (id := "len") Nm.call_lenS rfl T.m_len (by decide +kernel) (pa_cons (pv 2) pa_nil)) pa_nil))) (fun _ _ => rfl)))
  (C8.pss_cut (ps_if (pt_cmpR op_gt (pe_c C__law_pick hr (by omega) rfl (pa_cons (pv 0) (pa_cons pe_int pa_nil))) pe_int (nomark _)) (pss_one (ps_set (i := 4) sc.nd rfl (Or.inl rfl) (pe_ix ix_list (pv 2) (pe_un un_neg pe_int) (fun _ _ => rfl)))) pss_nil)
  (pss_cons (ps_set (i := 5) sc.nd rfl (Or.inl rfl) (pe_op op_catA (pv 4) (pe_tup (pa_cons (pe_c C__law_word hr (by omega) rfl (pa_cons (pv 0) pa_nil)) pa_nil))))
  (pss_one (ps_if (pt_cmpR (op_notInD (u65 hr)) (pv 5) (pv 2) rfl) (pss_one (ps_expr (pe_bm PySem.F.plainAttrs_list PySem.F.slot_list_append PySem.F.type_list_append mt_append (pv 2) (pa_cons (pv 5) pa_nil)))) pss_nil))))))
  (pss_one (ps_ret (pe_callTy call_tuple_of rfl T.m_tuple (by decide +kernel) (pa_cons (pe_callB (NmD.cr_sortD (u66 hr)) rfl T.m_sorted (by decide +kernel) (pa_cons (pv 2) pa_nil)) pa_nil)))))), ?_⟩
    obtain ⟨l, t0, m1, m6, q⟩ := h
    refine ⟨nought, fun e0 he0 => ⟨(by show 1 ≤ PySem.sizeLine; decide), fun D hD => ?_⟩⟩
    have g0 := (same_new (o := .tup []) he0).trans (same_new (o := .lst [V.ref e0]) hD)
    have t1 := t0.same g0
    have nD := (t0.same (same_new (o := .tup []) he0)).new hD
    have hD1 : upd (upd H e0 (.tup [])) D (.lst [V.ref e0]) D = some (.lst [V.ref e0]) := upd_same
    have he1 : upd (upd H e0 (.tup [])) D (.lst [V.ref e0]) e0 = some (.tup (([] : List Str).map V.str)) := by
      rw [upd_ne (fun z => by rw [← z, upd_same] at hD; cases hD)]
      exact upd_same
    have hDn : H D = none := by
      cases e : H D with
      | none => rfl
      | some o => rw [same_new (o := .tup []) he0 _ _ e] at hD; cases hD
    generalize upd (upd H e0 (.tup [])) D (.lst [V.ref e0]) = H1 at g0 t1 hD1 he1
    refine ⟨_, rfl, _, rfl, tp, most, rfl, l, t1, by omega, by omega, fun r H2 r0 r1 t2 mv2 => ⟨r, rfl, by omega, by omega, ?_⟩⟩
    have m02 := (mov_same g0).trans mv2
    refine for_range (lo := 0) (n := r.toNat) (fun i σ H' => ∃ xs rs v3 v4 v5, σ = [some (.ref tp), some (.int most), some (.ref D), v3, v4, v5] ∧ H' D = some (.lst xs) ∧ Paired (RwAt H') xs rs ∧ Grow rs i ∧ TapeAt H' tp l ∧ Mov tp H H')
      ⟨_, [[]], _, _, _, rfl, mv2 _ _ hD1 nD.1, .cons ⟨e0, rfl, (t1.keep mv2).tups _ _ he1⟩ .nil, ⟨List.mem_singleton.mpr rfl, List.pairwise_singleton _ _, fun r hr => by rw [List.mem_singleton.mp hr]; exact List.mem_singleton.mpr rfl, fun r hr => by rw [List.mem_singleton.mp hr]; exact ⟨Nat.le_refl _, fun z hz => absurd hz (List.not_mem_nil)⟩, Nat.le_refl _⟩, t2, m02⟩ ?_ ?_
    · rintro i σ H3 hi ⟨xs, rs, v3, v4, v5, rfl, hD3, pa, gr, t3, m3⟩
      have el := paired_len pa
      have len := gr.len
      have one : 1 ≤ rs.length := List.length_pos_of_mem gr.nil
      refine ⟨_, rfl, _, rfl, _, rfl, D, _, rfl, .inl (SqL.of hD3), tp, _, rfl, l, t3, by omega, by omega, fun r4 H4 r40 r41 t4 mv4 => ?_⟩
      obtain ⟨x, hx, mx⟩ := at_ok r40 r41
      have hD4 := mv4 _ _ hD3 nD.1
      have pa4 := paired_mono (fun _ _ => stays_rw _ _ _ _ (t3.keep mv4).tups) pa
      refine ⟨D, _, r4, x, rfl, rfl, SqL.of hD4, hx, ?_⟩
      obtain ⟨i4, hi4⟩ := List.mem_iff_getElem?.mp mx
      obtain ⟨row4, hrow4, hx4⟩ := paired_at pa4 i4 x hi4
      have mrow4 := List.mem_of_getElem? hrow4
      refine ⟨fun σ H5 => ∃ y row, σ = [some (.ref tp), some (.int most), some (.ref D), some (.int (0 + (i : Int))), some y, v5] ∧ RwAt H5 y row ∧ row ∈ rs ∧ H5 D = some (.lst xs) ∧ Paired (RwAt H5) xs rs ∧ TapeAt H5 tp l ∧ Mov tp H H5, ?_, ?_⟩
      · refine ⟨_, rfl, tp, 3, rfl, l, t4, by decide, by decide, fun r5 H5 r50 r51 t5 mv5 => ⟨_, _, rfl, rfl, _, rfl, ?_⟩⟩
        have hD5 := mv5 _ _ hD4 nD.1
        have pa5 := paired_mono (fun _ _ => stays_rw _ _ _ _ (t4.keep mv5).tups) pa4
        have m5 := (m3.trans mv4).trans mv5
        refine ite2 (fun _ => ?_) (fun _ => ?_)
        · obtain ⟨y, hy, my⟩ := at_ok (xs := xs) (r := (xs.length : Int) - 1) (by omega) (by omega)
          have hy' : atI xs (-1) = some y := by
            unfold atI ixN at hy ⊢
            rw [if_pos (by omega), if_pos (by omega)] at hy
            rw [if_neg (by decide), if_pos (by omega)]
            have e : ((-1 : Int) + (xs.length : Int)).toNat = ((xs.length : Int) - 1).toNat := by omega
            show xs[((-1 : Int) + (xs.length : Int)).toNat]? = some y
            rw [e]
            exact hy
          obtain ⟨i5, hi5⟩ := List.mem_iff_getElem?.mp my
          obtain ⟨row5, hrow5, hx5⟩ := paired_at pa5 i5 y hi5
          exact ⟨_, rfl, 1, rfl, D, _, -1, y, rfl, rfl, SqL.of hD5, hy', y, row5, rfl, hx5, List.mem_of_getElem? hrow5, hD5, pa5, t5, m5⟩
        · exact ⟨x, row4, rfl, stays_rw _ _ _ _ (t4.keep mv5).tups hx4, mrow4, hD5, pa5, t5, m5⟩
      · rintro σ H5 ⟨y, row, rfl, ⟨yr, rfl, hy⟩, mrow, hD5, pa5, t5, m5⟩
        refine ⟨_, rfl, _, rfl, tp, rfl, l, t5, fun z H6 hz t6 mv6 => ⟨(by show 1 ≤ PySem.sizeLine; decide), fun c hc => ?_⟩⟩
        have g6 := same_new (o := .tup [V.str z]) hc
        have hy6 := g6 _ _ ((t5.keep mv6).tups _ _ hy)
        have lrow := (gr.ok row mrow).1
        refine cat_tups hy6 upd_same (by rw [List.length_map]; show row.length + 1 ≤ 4000; omega) fun b H7 g7 hb => ?_
        have mv7 := (mv6.trans (mov_same g6)).trans (mov_same g7)
        have hD7 := mv7 _ _ hD5 nD.1
        have pa7 := paired_mono (fun _ _ => stays_rw _ _ _ _ (t5.keep mv7).tups) pa5
        have hb' : H7 b = some (.tup ((row ++ [z]).map V.str)) := by
          rw [List.map_append]
          exact hb
        have t7 := (t6.same g6).same g7
        have okrow := (gr.ok row mrow).2
        have okz : ∀ u ∈ row ++ [z], wordOk u := fun u hu => by
          rcases List.mem_append.mp hu with m | m
          · exact okrow u m
          · rw [List.mem_singleton.mp m]
            exact hz
        refine ⟨_, rfl, _, rfl, rowD (row ++ [z]), rs.map rowD, dp_row hb', dp_gameL ⟨xs, hD7, pa7⟩, shaped_rw okz, shaped_gameL fun r hr => (gr.ok r hr).2, ?_⟩
        rw [any_row]
        by_cases c8 : row ++ [z] ∈ rs
        · rw [decide_eq_true c8]
          exact ⟨false, rfl, iteF ⟨xs, rs, _, _, _, rfl, hD7, pa7, gr.next, t7, m5.trans mv7⟩⟩
        · rw [decide_eq_false c8]
          refine ⟨true, rfl, iteT ?_⟩
          have big : (1000 : Nat) < PySem.sizeLine := by decide
          refine ⟨_, rfl, .inl ⟨rfl, _, SqL.of hD7⟩, _, rfl, D, xs, .ref b, rfl, rfl, hD7, by omega, ?_⟩
          have tl := tups_lst (vs := xs ++ [V.ref b]) hD7
          exact ⟨xs ++ [.ref b], rs ++ [row ++ [z]], _, _, _, rfl, upd_same, paired_snoc (paired_mono (fun _ _ => stays_rw _ _ _ _ tl) pa7) ⟨b, rfl, tl _ _ hb'⟩, gr.more mrow hz c8, t7.upd nD, mov_mut (m5.trans mv7) hDn⟩
    · rintro σ H3 ⟨xs, rs, v3, v4, v5, rfl, hD3, pa, gr, t3, m3⟩
      have back : ∀ x ∈ xs, ∃ ws, RwAt H3 x ws := fun x hx => by
        obtain ⟨i, hi⟩ := List.mem_iff_getElem?.mp hx
        obtain ⟨ws, _, h⟩ := paired_at pa i x hi
        exact ⟨ws, h⟩
      refine ⟨_, rfl, D, xs, fun x => rowL (rowOf H3 x), rfl, SqL.of hD3, fun x hx => ?_, fun x _ y _ => alike_rowL _ _, fun ys p srt stb hp => ⟨p, ys, rfl, .inl ⟨SqL.of upd_same, fun p2 hp2 => ?_⟩⟩⟩
      · obtain ⟨ws, r, rfl, hr⟩ := back x hx
        refine ⟨⟨r, rfl⟩, ?_, pure_rowL _, by rw [depth_rowL]; decide⟩
        show Dp K H3 (.ref r) (.tuple (rowL (rowOf H3 (.ref r))))
        rw [rowOf_at hr]
        exact dp_row hr
      obtain ⟨s1, s2, s3⟩ := sorted_rows pa gr.nd srt stb
      have g3 := (same_new (o := .lst ys) hp).trans (same_new (o := .tup ys) hp2)
      have len := gr.len
      exact q p2 (ys.map (rowOf H3)) _ ⟨ys, upd_same, paired_mono (fun _ _ => stays_rw _ _ _ _ (tups_same g3)) s1⟩ (gr.game (by omega) s2 s3) (by rw [s3.length_eq]; omega) (fun r hr => by have := (gr.ok r (s3.mem_iff.mp hr)).1; omega) (t3.same g3) (m3.trans (mov_same g3))
end
end K06
namespace K06
open PySem L2 Nm
open C8 (Cal Mak pe_c pe_mk pe_gc)
open RZ (ItzT pi_zipA)
/-- a drawn board -/
def drawn (b : Bd) : Prop := okB b ∧ b.2.2.length ≤ 3
theorem word_row {ws : List Str} (h : ∀ z ∈ ws, wordOk z) (l : ws.length ≤ 20) : rowB ws 20 = true := by
  unfold rowB
  rw [decide_eq_true (show ((ws.length : Nat) : Int) ≤ 20 by omega), Bool.true_and, List.all_eq_true]
  exact fun z hz => (h z hz).1
theorem drawn_ok {n : Str} {s : Int} {ws : List Str} (hn : letB n 8 = true) (ln : n.length ≤ 1000) (h0 : 0 ≤ s) (h1 : s < 2) (h : ∀ z ∈ ws, wordOk z) (l : ws.length ≤ 20) : okB (n, s, ws) := by
  refine ⟨?_, ln, by show ws.length ≤ 1000; omega, fun z hz => (h z hz).2⟩
  show (letB n 8 && ((decide (0 ≤ s) && decide (s ≤ 1)) && rowB ws 20)) = true
  rw [hn, word_row h l, decide_eq_true h0, decide_eq_true (show s ≤ 1 by omega)]
  rfl
theorem names_ok : ∀ x ∈ [V.str "p", V.str "q", V.str "pq"], ∃ z, x = .str z ∧ letB z 8 = true ∧ z.length ≤ 1000 := by
  intro x hx
  simp only [List.mem_cons, List.not_mem_nil, or_false] at hx
  rcases hx with rfl | rfl | rfl <;> exact ⟨_, rfl, by decide +kernel, by decide +kernel⟩
/-- a row stands there -/
def RowAt (H : Hp) (r : Addr) (ws : List Str) : Prop := H r = some (.tup (ws.map V.str)) ∧ ∀ z ∈ ws, wordOk z
theorem RowAt.mov {tp l : Addr} {H H' : Hp} {r : Addr} {ws : List Str} (h : RowAt H r ws) (t : TapeAt H tp l) (m : Mov tp H H') : RowAt H' r ws := ⟨(t.keep m).tups _ _ h.1, h.2⟩
section
variable {P : Program} {w : World} {K : PySem.W.Frag} {mg : Str → Option Value} {base : Heap}
def sp__law_boards (K : PySem.W.Frag) : Sp := fun vs H Q _ => ∃ (tp : Addr) (most : Int) (bg : Bool), vs = [.ref tp, .int most, .bl bg] ∧ ∃ l, TapeAt H tp l ∧ 1 ≤ most ∧ most ≤ 12 ∧
  ∀ (r : Addr) (bs : List Bd) (H' : Hp), BoardsAt H' r bs → (∀ b ∈ bs, drawn b) → 1 ≤ bs.length → (bs.length : Int) ≤ most → TapeAt H' tp l → Mov tp H H' → Q (.ref r) H'
theorem c__law_boards (T : Txt K mg) : Cal P w K mg base 4 "_law_boards" (sp__law_boards K) [] := by
  have C__law_line := c__law_line (P := P) (w := w) (base := base) T
  have C__law_pick := c__law_pick (P := P) (w := w) (base := base) T
  have C__law_some := c__law_some (P := P) (w := w) (base := base) T
  have sc := sc__law_boards
  refine cal_of T.d__law_boards sc (fun _ _ _ _ _ _ us hl => match us, hl with | [_, _, _], _ => rfl) (fun vs H Q E h => ?_) (fun f cdv A outer s H vs Q E hr h => ?_)
  · obtain ⟨tp, most, bg, rfl, _⟩ := h
    rfl
  · obtain ⟨tp, most, bg, rfl, h⟩ := h
    refine ⟨_, (pss_cons (ps_set (i := 3) sc.nd rfl (Or.inl rfl) (pe_op op_add pe_int (pe_callB (call_max2 rfl) rfl T.m_max (by decide +kernel) (pa_cons (pe_c C__law_pick hr (by omega) rfl (pa_cons (pv 0) (pa_cons (pv 1) pa_nil))) (pa_cons (pe_c C__law_pick hr (by omega) rfl (pa_cons (pv 0) (pa_cons (pv 1) pa_nil))) pa_nil)))))
  (pss_cons (ps_set (i := 4) sc.nd rfl (Or.inl rfl) (pe_slice sl_list (pe_lst (pa_cons pe_str (pa_cons pe_str (pa_cons pe_str pa_nil)))) po_none (po_some (pe_op op_add pe_int (pe_c C__law_pick hr (by omega) rfl (pa_cons (pv 0) (pa_cons pe_int pa_nil)))))))
  (pss_cons (ps_set (i := 5) sc.nd rfl (Or.inl rfl) (pe_c C__law_line hr (by omega) rfl (pa_cons (pv 0) (pa_cons pe_int pa_nil))))
  (pss_cons (ps_set (i := 6) sc.nd rfl (Or.inl rfl) (pe_op op_catA (pe_slice sl_tupA (pv 5) po_none (po_some (pe_op op_add pe_int (pe_c C__law_pick hr (by omega) rfl (pa_cons (pv 0) (pa_cons pe_int pa_nil)))))) (pe_c C__law_line hr (by omega) rfl (pa_cons (pv 0) (pa_cons pe_int pa_nil)))))
  (pss_cons (ps_set (i := 7) sc.nd rfl (Or.inl rfl) (pe_lst pa_nil))
  (pss_cons (ps_for PassesOwn.never rfl (pi_range1 rfl T.m_range (pa_cons (pv 3) pa_nil)) (pg_name (i := 8) sc.nd rfl (Or.inl rfl)) (pss_cons (ps_set (i := 9) sc.nd rfl (Or.inl rfl) (pe_tup pa_nil))
  (C8.pss_cut (ps_if (PW.pt (pw_and (pt_val (pv 2)) (pw_and1 (pt_cmpR op_gt (pe_c C__law_pick hr (by omega) rfl (pa_cons (pv 0) (pa_cons pe_int pa_nil))) pe_int (nomark _))))) (pss_one (ps_set (i := 9) sc.nd rfl (Or.inl rfl) (pe_slice sl_tupA (pe_c C__law_some hr (by omega) rfl (pa_cons (pv 0) (pa_cons (pe_lst (pa_cons (pv 5) (pa_cons (pv 5) (pa_cons (pv 6) pa_nil)))) pa_nil))) po_none (po_some (pe_c C__law_pick hr (by omega) rfl (pa_cons (pv 0) (pa_cons pe_int pa_nil))))))) pss_nil)
  (pss_one (ps_expr (pe_bm PySem.F.plainAttrs_list PySem.F.slot_list_append PySem.F.type_list_append mt_append (pv 7) (pa_cons (pe_tup (pa_cons (pe_c C__law_some hr (by omega) rfl (pa_cons (pv 0) (pa_cons (pv 4) pa_nil))) (pa_cons (pe_c C__law_pick hr (by omega) rfl (pa_cons (pv 0) (pa_cons pe_int pa_nil))) (pa_cons (pv 9) pa_nil)))) pa_nil)))))))
  (pss_one (ps_ret (pe_callTy call_tuple_of rfl T.m_tuple (by decide +kernel) (pa_cons (pv 7) pa_nil)))))))))), ?_⟩
    obtain ⟨l, t0, m0, m1, q⟩ := h
    refine ⟨_, rfl, _, rfl, tp, most, rfl, l, t0, by omega, by omega, fun r1 H1 r10 r11 t1 mv1 => ?_⟩
    refine ⟨_, rfl, _, rfl, tp, most, rfl, l, t1, by omega, by omega, fun r2 H2 r20 r21 t2 mv2 => ⟨r1, r2, rfl, 1, _, rfl, rfl, ?_⟩⟩
    obtain ⟨mm, emm, mm1, mm2⟩ : ∃ mm : Nat, 1 + (if r2 > r1 then r2 else r1) = (mm : Int) ∧ 1 ≤ mm ∧ (mm : Int) ≤ most := by
      by_cases c : r2 > r1
      · rw [if_pos c]
        exact ⟨(1 + r2).toNat, by omega, by omega, by omega⟩
      · rw [if_neg c]
        exact ⟨(1 + r1).toNat, by omega, by omega, by omega⟩
    show gName 3 (V.int (1 + (if r2 > r1 then r2 else r1))) _ _ _
    rw [emm]
    -- names
    refine ⟨(by show 3 ≤ PySem.sizeLine; decide), fun n0 hn0 => ?_⟩
    have nn0 := t2.new hn0
    have g0 := same_new (o := .lst [V.str "p", V.str "q", V.str "pq"]) hn0
    refine ⟨_, rfl, tp, 3, rfl, l, t2.same g0, by decide, by decide, fun r3 H3 r30 r31 t3 mv3 => ⟨_, _, rfl, rfl, _, rfl, n0, _, rfl, SqL.of (mv3 _ _ upd_same nn0.1), fun n1 hn1 => ?_⟩⟩
    obtain ⟨k3, ek3, k31⟩ : ∃ k : Nat, 1 + r3 = (k : Int) ∧ 1 ≤ k := ⟨(1 + r3).toNat, by omega, by omega⟩
    rw [ek3, cutV_take]
    generalize hnl : [V.str "p", V.str "q", V.str "pq"].take k3 = nl at hn1 ⊢
    have nlok : ∀ x ∈ nl, ∃ z, x = .str z ∧ letB z 8 = true ∧ z.length ≤ 1000 := fun x hx => names_ok x (List.mem_of_mem_take (by rw [hnl]; exact hx))
    have nl1 : 1 ≤ nl.length := by
      rw [← hnl, List.length_take]
      show 1 ≤ min k3 3
      omega
    have nl3 : nl.length ≤ 3 := by
      rw [← hnl, List.length_take]
      show min k3 3 ≤ 3
      omega
    have nn1 := t3.new hn1
    have g1 := same_new (o := .lst nl) hn1
    have t4 := t3.same g1
    have m04 : Mov tp H (upd H3 n1 (.lst nl)) := (((mv1.trans mv2).trans (mov_same g0)).trans mv3).trans (mov_same g1)
    have h4 : upd H3 n1 (.lst nl) n1 = some (.lst nl) := upd_same
    generalize upd H3 n1 (.lst nl) = H4 at t4 m04 h4
    clear g1 g0
    -- line
    refine ⟨_, rfl, tp, 4, rfl, l, t4, by decide, by decide, fun lr lw H5 hl5 okl lenl t5 mv5 => ?_⟩
    have R5 : RowAt H5 lr lw := ⟨hl5, okl⟩
    have h5 := mv5 _ _ h4 nn1.1
    have m05 := m04.trans mv5
    -- other
    refine ⟨_, rfl, _, rfl, tp, 3, rfl, l, t5, by decide, by decide, fun r6 H6 r60 r61 t6 mv6 => ⟨_, _, rfl, rfl, _, rfl, ?_⟩⟩
    obtain ⟨k6, ek6⟩ : ∃ k : Nat, 1 + r6 = (k : Int) := ⟨(1 + r6).toNat, by omega⟩
    rw [ek6]
    have R6 := R5.mov t5 mv6
    have h6 := mv6 _ _ h5 nn1.1
    refine sl_take (k := k6) R6.1 fun pr7 H7 g7 h7 => ?_
    have t7 := t6.same g7
    refine ⟨_, rfl, tp, 2, rfl, l, t7, by decide, by decide, fun or8 ow8 H8 ho8 oko lno t8 mv8 => ?_⟩
    have R8 := (R6.mov t6 (mov_same g7)).mov t7 mv8
    have h78 := (t7.keep mv8).tups _ _ h7
    have h8 := mv8 _ _ (g7 _ _ h6) nn1.1
    rw [← List.map_take] at h78
    refine cat_tups h78 ho8 (by rw [List.length_map, List.length_map, List.length_take]; omega) fun orr H9 g9 h9 => ?_
    rw [← List.map_append] at h9
    have O9 : RowAt H9 orr (lw.take k6 ++ ow8) := ⟨h9, fun z hz => by
      rcases List.mem_append.mp hz with c | c
      · exact okl z (List.mem_of_mem_take c)
      · exact oko z c⟩
    have t9 := t8.same g9
    have R9 := R8.mov t8 (mov_same g9)
    have h9n := g9 _ _ h8
    have m09 := (((m05.trans mv6).trans (mov_same g7)).trans mv8).trans (mov_same g9)
    generalize lw.take k6 ++ ow8 = ow at O9
    clear h9 ho8 h78 h8 R8 h7 R6 R5 hl5 h5 h4
    -- found
    refine ⟨(by show 0 ≤ PySem.sizeLine; decide), fun D hD => ?_⟩
    have nD := t9.new hD
    have gD := same_new (o := .lst []) hD
    have nDn : n1 ≠ D := ne_of_none h9n hD
    refine ⟨_, rfl, (mm : Int), rfl, by omega, by omega, ?_⟩
    refine for_range (lo := 0) (n := ((mm : Nat) : Int).toNat) (fun i σ H' => ∃ zs bs v8 v9, σ = [some (.ref tp), some (.int most), some (.bl bg), some (.int (mm : Int)), some (.ref n1), some (.ref lr), some (.ref orr), some (.ref D), v8, v9] ∧ H' D = some (.lst zs) ∧ Paired (BoardAt H') zs bs ∧ (∀ b ∈ bs, drawn b) ∧ bs.length = i ∧ TapeAt H' tp l ∧ Mov tp H H' ∧ H' n1 = some (.lst nl) ∧ RowAt H' lr lw ∧ RowAt H' orr ow)
      ⟨[], [], _, _, rfl, upd_same, .nil, fun b hb => absurd hb (List.not_mem_nil), rfl, t9.same gD, m09.trans (mov_same gD), gD _ _ h9n, R9.mov t9 (mov_same gD), O9.mov t9 (mov_same gD)⟩ ?_ ?_
    · rintro i σ H' hi ⟨zs, bs, v8, v9, rfl, hz, pz, okz, lz, t', m', hn', R', O'⟩
      refine ⟨(by show 0 ≤ PySem.sizeLine; decide), fun e0 he0 => ?_⟩
      have ge := same_new (o := .tup []) he0
      refine ⟨fun σ H2 => ∃ r rw0, σ = [some (.ref tp), some (.int most), some (.bl bg), some (.int (mm : Int)), some (.ref n1), some (.ref lr), some (.ref orr), some (.ref D), some (.int (0 + (i : Int))), some (.ref r)] ∧ RowAt H2 r rw0 ∧ rw0.length ≤ 3 ∧ TapeAt H2 tp l ∧ Mov tp H' H2, ?_, ?_⟩
      · have E0' : RowAt (upd H' e0 (.tup [])) e0 [] := ⟨upd_same, fun z hz => absurd hz (List.not_mem_nil)⟩
        have te := t'.same ge
        refine ⟨_, rfl, _, rfl, ?_⟩
        refine ite2 (fun _ => ?_) (fun _ => ?_)
        · refine ⟨_, rfl, tp, 4, rfl, l, te, by decide, by decide, fun r1 H1 _ _ t1 mv1 => ⟨_, _, rfl, rfl, _, rfl, ?_⟩⟩
          refine ite2 (fun _ => ?_) (fun _ => ?_)
          · refine ⟨_, rfl, _, rfl, _, rfl, _, rfl, (by show 3 ≤ PySem.sizeLine; decide), fun ll hll => ?_⟩
            have nll := t1.new hll
            have gl := same_new (o := .lst [V.ref lr, V.ref lr, V.ref orr]) hll
            have ml := ((mov_same ge).trans mv1).trans (mov_same gl)
            have t2' := t1.same gl
            refine ⟨tp, ll, rfl, l, _, t2', upd_same, nll.1, by show 1 ≤ 3; decide, by show 3 ≤ 1000; decide, fun x H2 hx t2 mv2 => ?_⟩
            obtain ⟨xr, xw, rfl, X2⟩ : ∃ xr xw, x = .ref xr ∧ RowAt H2 xr xw := by
              simp only [List.mem_cons, List.not_mem_nil, or_false] at hx
              rcases hx with rfl | rfl | rfl
              · exact ⟨lr, lw, rfl, R'.mov t' (ml.trans mv2)⟩
              · exact ⟨lr, lw, rfl, R'.mov t' (ml.trans mv2)⟩
              · exact ⟨orr, ow, rfl, O'.mov t' (ml.trans mv2)⟩
            refine ⟨_, rfl, tp, 4, rfl, l, t2, by decide, by decide, fun r4 H4 r40 r41 t4 mv4 => ?_⟩
            obtain ⟨k4, rfl⟩ : ∃ k : Nat, r4 = (k : Int) := ⟨r4.toNat, by omega⟩
            have X4 := X2.mov t2 mv4
            refine ⟨_, rfl, sl_take (k := k4) X4.1 fun rr H5 g5 h5 => ?_⟩
            rw [← List.map_take] at h5
            exact ⟨rr, xw.take k4, rfl, ⟨h5, fun z hz => X4.2 z (List.mem_of_mem_take hz)⟩, by rw [List.length_take]; omega, t4.same g5, ((ml.trans mv2).trans mv4).trans (mov_same g5)⟩
          · exact ⟨e0, [], rfl, E0'.mov te mv1, Nat.zero_le _, t1, (mov_same ge).trans mv1⟩
        · exact iteF ⟨e0, [], rfl, E0', Nat.zero_le _, te, mov_same ge⟩
      · rintro σ H2 ⟨r, rw0, rfl, Rr, l3, t2, m2⟩
        have hz2 := m2 _ _ hz nD.1
        have hn2 := m2 _ _ hn' nn1.1
        refine ⟨_, rfl, .inl ⟨rfl, _, SqL.of hz2⟩, ?_⟩
        refine ⟨_, rfl, _, rfl, tp, n1, rfl, l, nl, t2, hn2, nn1.1, nl1, by omega, fun x H3 hx t3 mv3 => ?_⟩
        obtain ⟨z, rfl, z8, zl⟩ := nlok x hx
        refine ⟨_, rfl, tp, 2, rfl, l, t3, by decide, by decide, fun s H4 s0 s1 t4 mv4 => ?_⟩
        refine ⟨_, rfl, (by show 3 ≤ PySem.sizeLine; decide), fun t5 h5 => ?_⟩
        have g5 := same_new (o := .tup [V.str z, V.int s, V.ref r]) h5
        have m45 := (mv3.trans mv4).trans (mov_same g5)
        have m25 := m2.trans m45
        have hz5 := m45 _ _ hz2 nD.1
        have Rr5 := Rr.mov t2 m45
        have kd : ∀ e us, upd H4 t5 (.tup [V.str z, V.int s, V.ref r]) e = some (.tup us) → upd (upd H4 t5 (.tup [V.str z, V.int s, V.ref r])) D (.lst (zs ++ [.ref t5])) e = some (.tup us) := fun e us he => by
          rw [upd_ne (fun w => by rw [w, hz5] at he; cases he)]
          exact he
        have mm5 : Mov tp H (upd (upd H4 t5 (.tup [V.str z, V.int s, V.ref r])) D (.lst (zs ++ [.ref t5]))) := mov_mut (m'.trans m25) (by
          cases e : H D with
          | none => rfl
          | some o => rw [m09 _ _ e nD.1] at hD; cases hD)
        have t5' := (t4.same g5).upd (p := D) (o := .lst (zs ++ [.ref t5])) nD
        have lzz : zs.length = bs.length := paired_len pz
        refine ⟨D, zs, .ref t5, rfl, rfl, hz5, ?_, ?_⟩
        · have b1 : (1000 : Nat) < PySem.sizeLine := by decide
          omega
        · refine ⟨zs ++ [.ref t5], bs ++ [(z, s, rw0)], _, _, rfl, upd_same, paired_snoc (paired_mono (fun _ _ w => (w.mono (t'.keep m25).tups).mono kd) pz) ⟨t5, r, rfl, kd _ _ upd_same, kd _ _ Rr5.1⟩, ?_, by rw [List.length_append, lz]; rfl, t5', mm5, by rw [upd_ne nDn]; exact m45 _ _ hn2 nn1.1, ?_, ?_⟩
          · intro b hb
            rcases List.mem_append.mp hb with c | c
            · exact okz b c
            · rw [List.mem_singleton.mp c]
              exact ⟨drawn_ok z8 zl s0 s1 Rr.2 (by omega), l3⟩
          · exact ⟨kd _ _ (R'.mov t' m25).1, R'.2⟩
          · exact ⟨kd _ _ (O'.mov t' m25).1, O'.2⟩
    · rintro σ H' ⟨zs, bs, v8, v9, rfl, hz, pz, okz, lz, t', m', _⟩
      refine ⟨_, rfl, D, zs, rfl, .inl ⟨SqL.of hz, fun p hp => ?_⟩⟩
      have g := same_new (o := .tup zs) hp
      exact q p bs _ ⟨zs, upd_same, paired_mono (fun _ _ w => w.mono (same_tups g)) pz⟩ okz (by omega) (by omega) (t'.same g) (m'.trans (mov_same g))
end
end K06
namespace K06
open PySem L2 Nm
open C8 (Cal Mak pe_c pe_mk pe_gc)
open RZ (ItzT pi_zipA)
theorem ok_rw {b : Bd} (h : okB b) : b.2.2.length ≤ 20 ∧ ∀ z ∈ b.2.2, wordOk z := by
  have h1 := h.1
  unfold boardB at h1
  rw [Bool.and_eq_true, Bool.and_eq_true] at h1
  have h3 := h1.2.2
  unfold rowB at h3
  rw [Bool.and_eq_true] at h3
  have := of_decide_eq_true h3.1
  exact ⟨by omega, fun z hz => ⟨List.all_eq_true.mp h3.2 z hz, h.2.2.2 z hz⟩⟩
theorem rows_ok {bs : List Bd} (ok : ∀ b ∈ bs, okB b) {n : Str} : ∀ r ∈ rowsOf bs n, r.length ≤ 20 ∧ ∀ z ∈ r, wordOk z := fun r hr => by
  obtain ⟨b, hb, _, rfl⟩ := of_rowsOf hr
  exact ok_rw (ok b hb)
section
variable {P : Program} {w : World} {K : PySem.W.Frag} {mg : Str → Option Value} {base : Heap}
def sp_least_games (K : PySem.W.Frag) : Sp := fun vs H Q _ => ∃ (h0 : Addr), vs = [.ref h0] ∧ ∃ bs, HallAt K H h0 bs ∧ (∀ b ∈ bs, okB b) ∧ bs.length ≤ 60 ∧ ∀ H' D (ys : List Str) (g : Str → List (List Str)), H D = none → Names (bs.map (·.1)) ys → GsAt H' D ys g → (∀ n ∈ ys, Begs (rowsOf bs n) (g n)) → Same H H' → Q (.ref D) H'
theorem c_least_games (T : Txt K mg) : Cal P w K mg base 6 "least_games" (sp_least_games K) [] := by
  have sc := sc_least_games
  refine cal_of T.d_least_games sc (fun _ _ _ _ _ _ us hl => match us, hl with | [_], _ => rfl) (fun vs H Q E h => ?_) (fun f cdv A outer s H vs Q E hr h => ?_)
  · obtain ⟨h0, rfl, _⟩ := h
    rfl
  · obtain ⟨h0, rfl, h⟩ := h
    obtain ⟨bs, hH, ok, l60, q⟩ := h
    obtain ⟨C, dx, fs, a, nr, ys, cl, nB, nN, hp, fb, fn, ⟨xs, ha, pr⟩, hn, nm⟩ := id hH
    have el : xs.length = bs.length := paired_len pr
    have C_beginnings := True.intro
    have C_beginningsL := c_beginnings_l (P := P) (w := w) (K := K) (base := base) T
    refine ⟨_, (pss_cons (ps_set (i := 1) sc.nd rfl (Or.inl rfl) pe_dnewK)
  (pss_cons (ps_for PassesOwn.never rfl (pi_tup (pe_fld (pv 0) rfl)) (pg_name (i := 2) sc.nd rfl (Or.inr rfl)) (pss_one (ps_dput (hu_of hr) (pv 1) (pv 2) (pe_c C_beginningsL hr (by omega) rfl (pa_cons (pe_lc (own := [("board", 3)]) (g := gName 3) rfl sc.nd (pi_tup (pe_fld (pv 0) rfl)) (blkOk_by (own := [("board", 3)]) (N := ["hall", "games", "name", "board"]) (sc := defScope s_least_games) (by decide +kernel)) (fun _ _ _ _ _ => (pg_name (i := 3) sc.nd rfl (Or.inl rfl))) (fun _ _ _ _ _ => (pts_one (pt_cmpR op_eq (pe_ix (r := rIxT K) ix_tup (pv 3) pe_int (fun _ _ => rfl)) (pv 2) (nomark _)))) (fun _ _ _ _ _ => (pe_ix (r := rIxT K) ix_tup (pv 3) pe_int (fun _ _ => rfl)))) pa_nil)) rfl)))
  (pss_one (ps_ret (pv 1))))), ?_⟩
    refine fun D hD => ?_
    have g0 := same_new (o := .dK []) hD
    refine ⟨_, rfl, h0, C, dx, fs, _, rfl, g0 _ _ hp, cl, nN, fn, nr, rfl, ⟨_, SqT.of (g0 _ _ hn)⟩, ?_⟩
    refine for_it (walk_tup (K := K) (a := nr) (xs := ys.map V.str)) (fun i σ H1 => ∃ (v2 v3 : Option V) (g : Str → List (List Str)) (kvs : List (Key × V)), σ = [some (.ref h0), some (.ref D), v2, v3] ∧ Same H H1 ∧ H1 D = some (.dK kvs) ∧ kvs.map (·.1) = (ys.take i).map Sum.inr ∧ ∀ n ∈ ys.take i, ∃ a, valV kvs (.inr n) = some (.ref a) ∧ GmAt H1 a (g n) ∧ Begs (rowsOf bs n) (g n))
      ⟨none, none, fun _ => [], [], rfl, g0, upd_same, rfl, fun n hn => absurd hn (List.not_mem_nil)⟩ (fun i σ H1 _ ⟨_, _, _, _, _, g, _⟩ => SqT.of (g _ _ hn)) ?_ ?_
    rotate_left
    · rintro σ H1 ⟨v2, v3, g, kvs, rfl, g1, hD1, hk, hv⟩
      rw [List.length_map, List.take_length] at hk hv
      refine ⟨_, rfl, q H1 D ys g hD nm ⟨kvs, hD1, hk, fun n hn => ?_⟩ (fun n hn => (hv n hn).elim fun _ h => h.2.2) g1⟩
      obtain ⟨b, e1, e2, _⟩ := hv n hn
      exact ⟨_, e1, b, rfl, e2⟩
    rintro i y σ H1 H2 hi ⟨v2, v3, g, kvs, rfl, g1, hD1, hk, hv⟩ ⟨rfl, hy⟩
    obtain ⟨n, hnn, rfl⟩ := map_at hy
    have nin : n ∉ ys.take i := fun m => by
      have nd := nm.nd
      rw [← List.take_append_drop i ys] at nd
      have hd : n ∈ ys.drop i := by
        obtain ⟨hlt, hv⟩ := List.getElem?_eq_some_iff.mp hnn
        rw [List.drop_eq_getElem_cons hlt, hv]
        exact List.mem_cons_self
      exact (List.nodup_append.mp nd).2.2 n m n hd rfl
    have lkv : kvs.length ≤ 60 := by
      have e := congrArg List.length hk
      rw [List.length_map, List.length_map, List.length_take] at e
      have h := List.Nodup.length_le_of_subset nm.nd fun z hz => (nm.mem z).mp hz
      rw [List.length_map] at h
      omega
    refine ⟨_, rfl, h0, C, dx, fs, _, rfl, g1 _ _ hp, cl, nB, fb, a, rfl, ⟨_, SqT.of (g1 _ _ ha)⟩, fun D2 hD2 => ?_⟩
    refine lcS (walk_tup (K := K) (a := a) (xs := xs)) stays_rw bs (fun b => decide (b.1 = n)) (fun b => b.2.2) el (by omega) (fun H3 g => SqT.of (g _ _ (g1 _ _ ha))) hD2 ?_ ?_
    · rintro i2 x b H3 H4 Nx hb ⟨rfl, hx⟩ sm no yes
      obtain ⟨b', hb', c, r, rfl, hc, hr1⟩ := paired_at pr i2 _ hx
      have ee : b' = b := Option.some.inj (hb'.symm.trans hb)
      subst ee
      have s3 := g1.trans sm
      refine ⟨rfl, ?_⟩
      refine ⟨_, rfl, c, _, 0, .str b'.1, rfl, rfl, SqT.of (s3 _ _ hc), rfl, _, rfl, rfl, _, rfl, ?_⟩
      rw [decS]
      cases c1 : decide (b'.1 = n) with
      | false => exact iteF (no c1 _ (Same.refl _))
      | true => exact iteT ⟨_, rfl, c, _, 2, .ref r, rfl, rfl, SqT.of (s3 _ _ hc), rfl, yes c1 _ _ (Same.refl _) ⟨r, rfl, s3 _ _ hr1⟩⟩
    intro H3 g3 l3
    have rk := rows_ok (n := n) ok
    have lr : (rowsOf bs n).length ≤ 60 := by
      unfold rowsOf
      rw [List.length_map]
      exact Nat.le_trans (List.length_filter_le _ _) l60
    refine ⟨D2, rfl, rowsOf bs n, iteN Bool.false_ne_true l3, fun r hr => Nat.le_trans (rk r hr).1 (by decide), by omega, fun gs p H4 bg g4 gm => ?_⟩
    have g34 := g3.trans g4
    have hD4 := g34 _ _ hD1
    have big : (1000 : Nat) < PySem.sizeLine := by decide
    refine ⟨_, rfl, _, rfl, D, _, rfl, DPut.k (k := .inr n) hD4 (by omega), ?_⟩
    have td := tups_dK (ks := putK kvs (.inr n) (.ref p)) hD4
    refine ⟨_, _, fun m => if m = n then gs else g m, putK kvs (.inr n) (.ref p), rfl, same_mut (g1.trans g34) hD, upd_same, ?_, fun m hm => ?_⟩
    · rw [put_new (fun z => by
        rw [hk] at z
        obtain ⟨m, hm, e⟩ := List.mem_map.mp z
        cases e
        exact nin hm), hk, take_one hnn, List.map_append]
      rfl
    · rw [valV_put]
      by_cases c : m = n
      · subst c
        rw [if_pos rfl]
        refine ⟨p, rfl, ?_, ?_⟩
        · show GmAt _ _ (if m = m then gs else g m)
          rw [if_pos rfl]
          exact gm.keep td
        · show Begs _ (if m = m then gs else g m)
          rw [if_pos rfl]
          exact bg
      · rw [if_neg (fun e => c (Sum.inr.inj e))]
        rw [take_one hnn, List.mem_append, List.mem_singleton] at hm
        obtain ⟨a2, e1, e2, e3⟩ := hv m (hm.resolve_right c)
        refine ⟨a2, e1, ?_, ?_⟩
        · show GmAt _ _ (if m = n then gs else g m)
          rw [if_neg c]
          exact (e2.keep (tups_same g34)).keep td
        · show Begs _ (if m = n then gs else g m)
          rw [if_neg c]
          exact e3
end
end K06
namespace K06
open PySem L2 Nm
open C8 (Cal Mak pe_c pe_mk pe_gc)
open RZ (ItzT pi_zipA)
theorem begs_union {a b gs : List (List Str)} (G : IsG a) (G2 : IsG b) (h : Begs (a ++ b) gs) : (∀ z, z ∈ gs ↔ z ∈ a ∨ z ∈ b) ∧ gs.length ≤ a.length + b.length := by
  have m : ∀ z, z ∈ gs ↔ z ∈ a ∨ z ∈ b := fun z => by
    rw [h.mem]
    constructor
    · rintro (rfl | ⟨r, hr, p⟩)
      · exact .inl G.nil
      · rcases List.mem_append.mp hr with hr | hr
        · rw [List.prefix_iff_eq_take.mp p]
          exact .inl (G.take hr _)
        · rw [List.prefix_iff_eq_take.mp p]
          exact .inr (G2.take hr _)
    · rintro (hz | hz)
      · exact .inr ⟨z, List.mem_append_left _ hz, List.prefix_refl _⟩
      · exact .inr ⟨z, List.mem_append_right _ hz, List.prefix_refl _⟩
  refine ⟨m, ?_⟩
  have l := List.Nodup.length_le_of_subset (bef_nodup h.up) (l₂ := a ++ b) fun z hz => List.mem_append.mpr ((m z).mp hz)
  rw [List.length_append] at l
  exact l
theorem begs_in {rs gs : List (List Str)} (h : Begs rs gs) {r : List Str} (hr : r ∈ rs) : r ∈ gs := (h.mem r).mpr (.inr ⟨r, hr, List.prefix_refl _⟩)
/-- a game in which all boards of the name can have begun so -/
structure GoodG (bs : List Bd) (n : Str) (gs : List (List Str)) : Prop where
  isG : IsG gs
  few : gs.length < 64
  has : ∀ r ∈ rowsOf bs n, r ∈ gs
theorem least_good {bs : List Bd} {n : Str} {gs : List (List Str)} (ok : ∀ b ∈ bs, okB b) (short : ∀ b ∈ bs, b.2.2.length ≤ 3) (l : bs.length ≤ 8) (h : Begs (rowsOf bs n) gs) : IsG gs ∧ gs.length ≤ 25 ∧ ∀ r ∈ rowsOf bs n, r ∈ gs := by
  have rk := rows_ok (n := n) ok
  have lr : (rowsOf bs n).length ≤ 8 := by
    unfold rowsOf
    rw [List.length_map]
    exact Nat.le_trans (List.length_filter_le _ _) l
  have s := begs_len h
  have s2 := sum_le List.length 3 (rowsOf bs n) fun r hr => by
    obtain ⟨b, hb, _, rfl⟩ := of_rowsOf hr
    exact short b hb
  have few : gs.length ≤ 25 := by omega
  exact ⟨h.isG (fun r hr => ⟨by have := (rk r hr).1; omega, (rk r hr).2⟩) (by omega), few, fun r hr => begs_in h hr⟩
section
variable {P : Program} {w : World} {K : PySem.W.Frag} {mg : Str → Option Value} {base : Heap}
def sp__law_games_for (K : PySem.W.Frag) : Sp := fun vs H Q _ => ∃ (tp h0 : Addr), vs = [.ref tp, .ref h0] ∧ ∃ l bs, TapeAt H tp l ∧ HallAt K H h0 bs ∧ (∀ b ∈ bs, okB b) ∧ (∀ b ∈ bs, b.2.2.length ≤ 3) ∧ bs.length ≤ 8 ∧
  ∀ H' D (ys : List Str) (g : Str → List (List Str)), Names (bs.map (·.1)) ys → GsAt H' D ys g → (∀ n ∈ ys, GoodG bs n (g n)) → TapeAt H' tp l → Mov tp H H' → Q (.ref D) H'
theorem c__law_games_for (T : Txt K mg) : Cal P w K mg base 7 "_law_games_for" (sp__law_games_for K) [] := by
  have C__law_game := c__law_game (P := P) (w := w) (base := base) T
  have C_least_games := c_least_games (P := P) (w := w) (base := base) T
  have sc := sc__law_games_for
  refine cal_of T.d__law_games_for sc (fun _ _ _ _ _ _ us hl => match us, hl with | [_, _], _ => rfl) (fun vs H Q E h => ?_) (fun f cdv A outer s H vs Q E hr h => ?_)
  · obtain ⟨tp, h0, rfl, _⟩ := h
    rfl
  · obtain ⟨tp, h0, rfl, h⟩ := h
    have C_game_of := True.intro
    have C_game_ofL := c_game_of_l (P := P) (w := w) (K := K) (base := base) T
    refine ⟨_, (pss_cons (ps_set (i := 2) sc.nd rfl (Or.inl rfl) (pe_c C_least_games hr (by omega) rfl (pa_cons (pv 1) pa_nil)))
  (pss_cons (ps_for PassesOwn.never rfl (pi_tup (pe_fld (pv 1) rfl)) (pg_name (i := 3) sc.nd rfl (Or.inl rfl)) (pss_one (ps_dput (hu_of hr) (pv 2) (pv 3) (pe_c C_game_ofL hr (by omega) rfl (pa_cons (pe_op op_cat (pe_callTy call_list_of rfl T.m_list (by decide +kernel) (pa_cons (pe_dget (hu_of hr) (pv 2) (pv 3) (fun _ _ => rfl)) pa_nil)) (pe_callTy call_list_of rfl T.m_list (by decide +kernel) (pa_cons (pe_c C__law_game hr (by omega) rfl (pa_cons (pv 0) (pa_cons pe_int pa_nil))) pa_nil))) pa_nil)) rfl)))
  (pss_one (ps_ret (pv 2))))), ?_⟩
    obtain ⟨l, bs, t0, hH, ok, short, l8, q⟩ := h
    refine ⟨_, rfl, h0, rfl, bs, hH, ok, by omega, fun H1 D ys g0 hD nm gs0 bg0 g1 => ?_⟩
    obtain ⟨C, dx, fs, a, nr, ys2, cl, nB, nN, hp, fb, fn, hb, hn, nm2⟩ := id (hH.mono (same_keep g1))
    have t1 := t0.same g1
    have nD := t0.new hD
    have ey : ys2 = ys := rise_one nm2.rise nm.rise fun z => by rw [nm2.mem, nm.mem]
    subst ey
    have lys : ys2.length ≤ 8 := by
      have h := List.Nodup.length_le_of_subset nm2.nd fun z hz => (nm2.mem z).mp hz
      rw [List.length_map] at h
      omega
    refine ⟨_, rfl, h0, C, dx, fs, _, rfl, hp, cl, nN, fn, nr, rfl, ⟨_, SqT.of hn⟩, ?_⟩
    obtain ⟨kvs0, hD1, hk0, hv0⟩ := gs0
    refine for_it (walk_tup (K := K) (a := nr) (xs := ys2.map V.str)) (fun i σ H2 => ∃ (v3 : Option V) (g : Str → List (List Str)) (kvs : List (Key × V)), σ = [some (.ref tp), some (.ref h0), some (.ref D), v3] ∧ H2 D = some (.dK kvs) ∧ kvs.map (·.1) = ys2.map Sum.inr ∧ (∀ n ∈ ys2, ∃ a, valV kvs (.inr n) = some (.ref a) ∧ GmAt H2 a (g n)) ∧ (∀ n ∈ ys2.take i, GoodG bs n (g n)) ∧ (∀ n ∈ ys2.drop i, g n = g0 n) ∧ TapeAt H2 tp l ∧ Mov tp H H2 ∧ Tups H1 H2)
      ⟨none, g0, kvs0, rfl, hD1, hk0, fun n hn => (hv0 n hn).elim fun y h => ?_, fun n hn => absurd hn (List.not_mem_nil), fun n _ => rfl, t1, mov_same g1, fun _ _ h => h⟩ (fun i σ H2 _ ⟨_, _, _, _, _, _, _, _, _, _, _, tk⟩ => SqT.of (tk _ _ hn)) ?_ ?_
    · obtain ⟨e1, b, rfl, e2⟩ := h
      exact ⟨b, e1, e2⟩
    rotate_left
    · rintro σ H2 ⟨v3, g, kvs, rfl, hD2, hk, hv, good, _, t2, m2, _⟩
      rw [List.length_map, List.take_length] at good
      exact ⟨_, rfl, q H2 D ys2 g nm2 ⟨kvs, hD2, hk, fun n hn => (hv n hn).elim fun b h => ⟨_, h.1, b, rfl, h.2⟩⟩ good t2 m2⟩
    rintro i y σ H2 H3 hi ⟨v3, g, kvs, rfl, hD2, hk, hv, good, rest, t2, m2, tk2⟩ ⟨rfl, hy⟩
    obtain ⟨n, hnn, rfl⟩ := map_at hy
    have mn := List.mem_of_getElem? hnn
    have ed : ys2.drop i = n :: ys2.drop (i + 1) := by
      obtain ⟨hlt, hv⟩ := List.getElem?_eq_some_iff.mp hnn
      rw [List.drop_eq_getElem_cons hlt, hv]
    have eg : g n = g0 n := rest n (by rw [ed]; exact List.mem_cons_self)
    obtain ⟨G0, few0, has0⟩ := least_good ok short l8 (bg0 n mn)
    obtain ⟨a1, e1, gm1⟩ := hv n mn
    rw [eg] at gm1
    obtain ⟨us, hu, pu⟩ := id gm1
    have lus : us.length = (g0 n).length := paired_len pu
    have lkv : kvs.length ≤ 8 := by
      have e := congrArg List.length hk
      rw [List.length_map, List.length_map] at e
      omega
    refine ⟨_, rfl, _, rfl, D, _, rfl, e1 ▸ DGet.k (k := .inr n) hD2, a1, _, rfl, .inr (SqT.of hu), fun l1 hl1 => ?_⟩
    have k1 := same_new (o := .lst us) hl1
    have nl1 := (t2.new hl1).1
    refine ⟨_, rfl, tp, 30, rfl, l, t2.same k1, by decide, by decide, fun p1 gs1 H4 gm4 G4 few4 _ t4 mv4 => ?_⟩
    obtain ⟨ws, hw, pw⟩ := id gm4
    have lws : ws.length = gs1.length := paired_len pw
    refine ⟨p1, _, rfl, .inr (SqT.of hw), fun l2 hl2 => ?_⟩
    have k2 := same_new (o := .lst ws) hl2
    have hl14 := mv4 _ _ (upd_same (H := H3) (a := l1) (o := .lst us)) nl1
    have big : (1000 : Nat) < PySem.sizeLine := by decide
    refine ⟨l1, l2, us, ws, rfl, rfl, k2 _ _ hl14, upd_same, by omega, fun l3 hl3 => ?_⟩
    have k3 := same_new (o := .lst (us ++ ws)) hl3
    have k23 := k2.trans k3
    have kp := ((t2.same k1).keep mv4).tups
    have pr3 : Paired (RwAt (upd (upd H4 l2 (.lst ws)) l3 (.lst (us ++ ws)))) (us ++ ws) (g0 n ++ gs1) := paired_app (paired_mono (fun _ _ => stays_rw _ _ _ _ (tups_same k23)) (paired_mono (fun _ _ => stays_rw _ _ _ _ kp) (paired_mono (fun _ _ => stays_rw _ _ _ _ (tups_same k1)) pu))) (paired_mono (fun _ _ => stays_rw _ _ _ _ (tups_same k23)) pw)
    have ok3 : ∀ r ∈ g0 n ++ gs1, rwOk r := fun r hr => (List.mem_append.mp hr).elim (G0.ok r) (G4.ok r)
    refine ⟨l3, rfl, g0 n ++ gs1, iteN Bool.false_ne_true ⟨_, upd_same, pr3⟩, ok3, fun gs b => by have := (begs_union G0 G4 b).2; omega, by rw [List.length_append]; omega, fun gs p5 H5 b5 k5 gm5 => ?_⟩
    obtain ⟨m5, l5⟩ := begs_union G0 G4 b5
    have G5 := b5.isG ok3 (by omega)
    have mvL : Mov tp H3 H5 := (mov_same k1).trans (mv4.trans (mov_same (k23.trans k5)))
    have tkL := (t2.keep mvL).tups
    have hD5 := mvL _ _ hD2 nD.1
    refine ⟨_, rfl, _, rfl, D, _, rfl, DPut.k (k := .inr n) hD5 (by omega), ?_⟩
    have td := tups_dK (ks := putK kvs (.inr n) (.ref p5)) hD5
    have t5 := (t4.same k23).same k5
    refine ⟨_, fun m => if m = n then gs else g m, putK kvs (.inr n) (.ref p5), rfl, upd_same, ?_, fun m hm => ?_, fun m hm => ?_, fun m hm => ?_, t5.upd nD, mov_mut (m2.trans mvL) hD, fun c us hc => td _ _ (tkL _ _ (tk2 _ _ hc))⟩
    · rw [put_old (by rw [hk]; exact List.mem_map.mpr ⟨n, mn, rfl⟩), hk]
    · rw [valV_put]
      show ∃ a, _ ∧ GmAt _ a (if m = n then gs else g m)
      by_cases c : m = n
      · rw [if_pos c, if_pos (by rw [c])]
        exact ⟨p5, rfl, gm5.keep td⟩
      · rw [if_neg c, if_neg (fun e => c (Sum.inr.inj e))]
        obtain ⟨a2, e2, gm2⟩ := hv m hm
        exact ⟨a2, e2, (gm2.keep tkL).keep td⟩
    · show GoodG bs m (if m = n then gs else g m)
      rw [take_one hnn, List.mem_append, List.mem_singleton] at hm
      by_cases c : m = n
      · rw [if_pos c, c]
        exact ⟨G5, by omega, fun r hr => (m5 r).mpr (.inl (has0 r hr))⟩
      · rw [if_neg c]
        exact good m (hm.resolve_right c)
    · show (if m = n then gs else g m) = g0 m
      have c : m ≠ n := fun e => by
        have nd := nm2.nd
        rw [← List.take_append_drop i ys2, ed] at nd
        have nd2 := (List.nodup_append.mp nd).2.1
        rw [e] at hm
        exact (List.nodup_cons.mp nd2).1 hm
      rw [if_neg c]
      exact rest m (by rw [ed]; exact List.mem_cons_of_mem _ hm)
end
end K06
namespace K06
open PySem L2 Nm
open C8 (Cal Mak pe_c pe_mk pe_gc)
open RZ (ItzT pi_zipA)
section
variable {P : Program} {w : World} {K : PySem.W.Frag} {mg : Str → Option Value} {base : Heap}
def sp_are_games (K : PySem.W.Frag) : Sp := fun vs H Q _ => ∃ (h0 D : Addr), vs = [.ref h0, .ref D] ∧ ∃ bs ys g, HallAt K H h0 bs ∧ (∀ b ∈ bs, okB b) ∧ bs.length ≤ 60 ∧ Names (bs.map (·.1)) ys ∧ GsAt H D ys g ∧ (∀ n ∈ ys, GoodG bs n (g n)) ∧ ∀ H', Same H H' → Q (.bl true) H'
theorem c_are_games (T : Txt K mg) : Cal P w K mg base 6 "are_games" (sp_are_games K) [] := by
  have C_is_game := c_is_game (P := P) (w := w) (base := base) T
  have sc := sc_are_games
  refine cal_of T.d_are_games sc (fun _ _ _ _ _ _ us hl => match us, hl with | [_, _], _ => rfl) (fun vs H Q E h => ?_) (fun f cdv A outer s H vs Q E hr h => ?_)
  · obtain ⟨h0, D, rfl, _⟩ := h
    rfl
  · obtain ⟨h0, D, rfl, h⟩ := h
    obtain ⟨bs, ys, g, hH, ok, l60, nm0, gs, good, q⟩ := h
    obtain ⟨C, dx, fs, a, nr, ys2, cl, nB, nN, hp, fb, fn, ⟨xs, ha, pr⟩, hn, nm⟩ := id hH
    have el : xs.length = bs.length := paired_len pr
    have ey : ys2 = ys := rise_one nm.rise nm0.rise fun z => by rw [nm.mem, nm0.mem]
    subst ey
    have lys : ys2.length ≤ 60 := by
      have h := List.Nodup.length_le_of_subset nm.nd fun z hz => (nm.mem z).mp hz
      rw [List.length_map] at h
      omega
    refine ⟨_, (pss_cons (ps_if (PW.pt (pw_or (pt_not (pt_val (pe_callB call_isi rfl T.m_isinstance (by decide +kernel) (pa_cons (pv 1) (pa_cons (pe_bltn (v := .ty "dict") (u := .type "dict") rfl T.m_dict (by decide +kernel) rfl) pa_nil))))) (pw_or1 (pt_cmpR op_ne (pe_callB call_lenD rfl T.m_len (by decide +kernel) (pa_cons (pv 1) pa_nil)) (pe_callB (r := Nm.rLenS K) (id := "len") Nm.call_lenS rfl T.m_len (by decide +kernel) (pa_cons (pe_fld (pv 0) rfl) pa_nil)) (nomark _))))) (pss_one (ps_ret pe_bl)) pss_nil)
  (pss_cons (ps_if (pt_not (pt_val (pe_callB (cr_all rfl) rfl T.m_all (by decide +kernel) (pa_cons (pe_lc (own := [("name", 2)]) (g := gName 2) rfl sc.nd (pi_tup (pe_fld (pv 0) rfl)) (blkOk_by (own := [("name", 2)]) (N := ["hall", "thing", "name", "_", "begun"]) (sc := defScope s_are_games) (by decide +kernel)) (fun _ _ _ _ _ => (pg_name (i := 2) sc.nd rfl (Or.inl rfl))) (fun _ _ _ _ _ => pts_nil) (fun _ _ _ _ _ => (pe_and (pe_cmp (pc_din (hu_of hr) (pv 2) (pv 1)) rfl) (pe_one (pe_c C_is_game hr (by omega) rfl (pa_cons (pe_dget (hu_of hr) (pv 1) (pv 2) (fun _ _ => rfl)) pa_nil)))))) pa_nil)))) (pss_one (ps_ret pe_bl)) pss_nil)
  (pss_one (ps_ret (pe_callB (cr_all rfl) rfl T.m_all (by decide +kernel) (pa_cons (pe_lc (own := [("name", 2), ("_", 3), ("begun", 4)]) (g := gTup K 3 (gCons (gName 2) (gCons (gName 3) (gCons (gName 4) gNil)))) rfl sc.nd (pi_tup (pe_fld (pv 0) rfl)) (blkOk_by (own := [("name", 2), ("_", 3), ("begun", 4)]) (N := ["hall", "thing", "name", "_", "begun"]) (sc := defScope s_are_games) (by decide +kernel)) (fun _ _ _ _ _ => (pg_tup rfl (pgs_cons (pg_name (i := 2) sc.nd rfl (Or.inl rfl)) (pgs_cons (pg_name (i := 3) sc.nd rfl (Or.inl rfl)) (pgs_cons (pg_name (i := 4) sc.nd rfl (Or.inl rfl)) pgs_nil))))) (fun _ _ _ _ _ => pts_nil) (fun _ _ _ _ _ => (pe_cmpR (r := Nm.rInT K false) (Nm.op_inT (u65 hr)) (pv 4) (pe_dget (hu_of hr) (pv 1) (pv 2) (fun _ _ => rfl)) rfl))) pa_nil)))))), ?_⟩
    obtain ⟨kvs, hD, hk, hv⟩ := id gs
    have lkv : kvs.length = ys2.length := by
      have e := congrArg List.length hk
      rw [List.length_map, List.length_map] at e
      exact e
    refine ⟨_, rfl, _, _, _, _, true, rfl, .ty _, .base (.dK hD), kit_ty (by decide +kernel), true, rfl, ?_⟩
    refine iteF ⟨_, rfl, D, kvs, rfl, hD, _, rfl, h0, C, dx, fs, _, rfl, hp, cl, nN, fn, nr, _, rfl, .inr (SqT.of hn), rfl, _, rfl, ?_⟩
    refine ite2 (fun z => ?_) (fun _ => ?_)
    · have z' : (!decide (V.int ((kvs.length : Nat) : Int) = V.int (((ys2.map V.str).length : Nat) : Int))) = true := z
      rw [List.length_map, lkv, decide_eq_true rfl] at z'
      cases z'
    refine ⟨_, rfl, h0, C, dx, fs, _, rfl, hp, cl, nN, fn, nr, rfl, ⟨_, SqT.of hn⟩, fun D2 hD2 => ?_⟩
    refine lcS (walk_tup (K := K) (a := nr) (xs := ys2.map V.str)) stays_bl ys2 (fun _ => true) (fun _ => true) (List.length_map ..) (by omega) (fun H1 g => SqT.of (g _ _ hn)) hD2 ?_ ?_
    · rintro i x n H1 H2 Nx hn2 ⟨rfl, hx⟩ sm _ yes
      rw [List.getElem?_map, hn2] at hx
      cases hx
      obtain ⟨y, e1, a2, rfl, gm⟩ := hv n (List.mem_of_getElem? hn2)
      refine ⟨rfl, ?_⟩
      refine ⟨_, rfl, _, rfl, D, _, rfl, DGet.k (k := .inr n) (sm _ _ hD), ?_⟩
      rw [e1]
      refine ⟨true, rfl, iteT ?_⟩
      exact ⟨_, rfl, _, rfl, D, _, rfl, e1 ▸ DGet.k (k := .inr n) (sm _ _ hD), a2, rfl, g n, gm.keep (tups_same sm), (good n (List.mem_of_getElem? hn2)).isG, fun H3 g3 => yes rfl _ _ g3 rfl⟩
    intro H1 g1 l1
    refine ⟨D2, _, rfl, sql_bl l1, ?_⟩
    rw [filter_all, List.all_map]
    have e1 : ys2.all (id ∘ fun _ => true) = true := List.all_eq_true.mpr fun _ _ => rfl
    rw [e1]
    refine ⟨true, rfl, iteF ?_⟩
    refine ⟨_, rfl, h0, C, dx, fs, _, rfl, g1 _ _ hp, cl, nB, fb, a, rfl, ⟨_, SqT.of (g1 _ _ ha)⟩, fun D3 hD3 => ?_⟩
    refine lcS (walk_tup (K := K) (a := a) (xs := xs)) stays_bl bs (fun _ => true) (fun _ => true) el (by omega) (fun H2 g => SqT.of (g _ _ (g1 _ _ ha))) hD3 ?_ ?_
    · rintro i x b H2 H3 Nx hb ⟨rfl, hx⟩ sm _ yes
      obtain ⟨b', hb', c, r, rfl, hc, hr1⟩ := paired_at pr i _ hx
      have ee : b' = b := Option.some.inj (hb'.symm.trans hb)
      subst ee
      have mb := List.mem_of_getElem? hb'
      have mn : b'.1 ∈ ys2 := (nm.mem _).mpr (List.mem_map.mpr ⟨b', mb, rfl⟩)
      obtain ⟨y, e1, a2, rfl, gm⟩ := hv b'.1 mn
      have s2 := g1.trans sm
      have GG := good b'.1 mn
      refine ⟨c, _, rfl, SqT.of (s2 _ _ hc), rfl, _, _, rfl, _, _, rfl, _, _, rfl, rfl, rfl, ?_⟩
      refine ⟨_, rfl, _, rfl, _, rfl, D, _, rfl, e1 ▸ DGet.k (k := .inr b'.1) (s2 _ _ hD), ?_⟩
      refine ⟨rowD b'.2.2, (g b'.1).map rowD, dp_row (s2 _ _ hr1), dp_game (gm.keep (tups_same s2)), shaped_rw (ok_rw (ok b' mb)).2, shaped_game fun z hz => (GG.isG.ok z hz).2, ?_⟩
      rw [any_row, Bool.false_xor, decide_eq_true (GG.has _ (mem_rowsOf mb))]
      exact yes rfl _ _ (Same.refl _) rfl
    · intro H2 g2 l2
      refine ⟨D3, _, rfl, sql_bl l2, ?_⟩
      rw [filter_all, List.all_map]
      have e2 : bs.all (id ∘ fun _ => true) = true := List.all_eq_true.mpr fun _ _ => rfl
      rw [e2]
      exact q H2 (g1.trans g2)
end
end K06
namespace K06
open PySem L2 Nm
open C8 (Cal Mak pe_c pe_mk pe_gc)
open RZ (ItzT pi_zipA)
section
variable {P : Program} {w : World} {K : PySem.W.Frag} {mg : Str → Option Value} {base : Heap}
def sp_check_games (K : PySem.W.Frag) : Sp := fun vs H Q _ => ∃ (h0 D : Addr), vs = [.ref h0, .ref D] ∧ ∃ bs ys g, HallAt K H h0 bs ∧ (∀ b ∈ bs, okB b) ∧ bs.length ≤ 60 ∧ Names (bs.map (·.1)) ys ∧ GsAt H D ys g ∧ (∀ n ∈ ys, GoodG bs n (g n)) ∧ ∀ H', Same H H' → Q .non H'
theorem c_check_games (T : Txt K mg) : Cal P w K mg base 7 "check_games" (sp_check_games K) [] := by
  have C_are_games := c_are_games (P := P) (w := w) (base := base) T
  have sc := sc_check_games
  refine cal_of T.d_check_games sc (fun _ _ _ _ _ _ us hl => match us, hl with | [_, _], _ => rfl) (fun vs H Q E h => ?_) (fun f cdv A outer s H vs Q E hr h => ?_)
  · obtain ⟨h0, D, rfl, _⟩ := h
    rfl
  · obtain ⟨h0, D, rfl, h⟩ := h
    refine ⟨_, (pss_one (ps_if (pt_not (pt_val (pe_c C_are_games hr (by omega) rfl (pa_cons (pv 0) (pa_cons (pv 1) pa_nil))))) (pss_one ps_never) pss_nil)), ?_⟩
    obtain ⟨bs, ys, g, hH, ok, l60, nm, gs, good, q⟩ := h
    exact ⟨_, rfl, _, rfl, h0, D, rfl, bs, ys, g, hH, ok, l60, nm, gs, good, fun H1 g1 => ⟨true, rfl, iteF (q H1 g1)⟩⟩
end
end K06
namespace K06
open PySem L2 Nm
open C8 (Cal Mak pe_c pe_mk pe_gc)
open RZ (ItzT pi_zipA)
section
variable {P : Program} {w : World} {K : PySem.W.Frag} {mg : Str → Option Value} {base : Heap}
def sp_begun_rows (K : PySem.W.Frag) : Sp := fun vs H Q _ => ∃ (h0 : Addr), vs = [.ref h0] ∧ ∃ bs, HallAt K H h0 bs ∧ bs.length ≤ 60 ∧ ∀ H' p, H p = none → LstOf RwAt H' p (bs.map (·.2.2)) → Same H H' → Q (.ref p) H'
theorem c_begun_rows (T : Txt K mg) : Cal P w K mg base 1 "begun_rows" (sp_begun_rows K) [] := by
  have sc := sc_begun_rows
  refine cal_of T.d_begun_rows sc (fun _ _ _ _ _ _ us hl => match us, hl with | [_], _ => rfl) (fun vs H Q E h => ?_) (fun f cdv A outer s H vs Q E hr h => ?_)
  · obtain ⟨h0, rfl, _⟩ := h
    rfl
  · obtain ⟨h0, rfl, h⟩ := h
    obtain ⟨bs, hH, l60, q⟩ := h
    obtain ⟨C, dx, fs, a, nr, ys, cl, nB, nN, hp, fb, fn, ⟨xs, ha, pr⟩, hn, nm⟩ := id hH
    have el : xs.length = bs.length := paired_len pr
    refine ⟨_, (pss_one (ps_ret (pe_lc (own := [("_", 1), ("_", 1), ("begun", 2)]) (g := gTup K 3 (gCons (gName 1) (gCons (gName 1) (gCons (gName 2) gNil)))) rfl sc.nd (pi_tup (pe_fld (pv 0) rfl)) (blkOk_by (own := [("_", 1), ("_", 1), ("begun", 2)]) (N := ["hall", "_", "begun"]) (sc := defScope s_begun_rows) (by decide +kernel)) (fun _ _ _ _ _ => (pg_tup rfl (pgs_cons (pg_name (i := 1) sc.nd rfl (Or.inl rfl)) (pgs_cons (pg_name (i := 1) sc.nd rfl (Or.inl rfl)) (pgs_cons (pg_name (i := 2) sc.nd rfl (Or.inl rfl)) pgs_nil))))) (fun _ _ _ _ _ => pts_nil) (fun _ _ _ _ _ => (pv 2))))), ?_⟩
    refine ⟨_, rfl, h0, C, dx, fs, _, rfl, hp, cl, nB, fb, a, rfl, ⟨_, SqT.of ha⟩, fun D hD => ?_⟩
    refine lcS (walk_tup (K := K) (a := a) (xs := xs)) stays_rw bs (fun _ => true) (fun b => b.2.2) el (by omega) (fun H2 g => SqT.of (g _ _ ha)) hD ?_ ?_
    · rintro i x b H2 H3 Nx hb ⟨rfl, hx⟩ sm _ yes
      obtain ⟨b', hb', c, r, rfl, hc, hr1⟩ := paired_at pr i _ hx
      have ee : b' = b := Option.some.inj (hb'.symm.trans hb)
      subst ee
      refine ⟨c, _, rfl, SqT.of (sm _ _ hc), rfl, _, _, rfl, _, _, rfl, _, _, rfl, rfl, rfl, ?_⟩
      exact ⟨_, rfl, yes rfl _ _ (Same.refl _) ⟨r, rfl, sm _ _ hr1⟩⟩
    · intro H2 g2 l2
      rw [filter_all] at l2
      exact q H2 D hD l2 g2
end
end K06
namespace K06
open PySem L2 Nm
open C8 (Cal Mak pe_c pe_mk pe_gc)
open RZ (ItzT pi_zipA)
section
variable {P : Program} {w : World} {K : PySem.W.Frag} {mg : Str → Option Value} {base : Heap}
def sp_is_turn (K : PySem.W.Frag) : Sp := fun vs H Q _ => ∃ (c r : Addr), vs = [.ref c, .ref r] ∧ ∃ (b : Bd) (row : List Str), BoardAt H (.ref c) b ∧ H r = some (.tup (row.map V.str)) ∧ Q (.bl (decide ((row.length : Int) % 2 = b.2.1))) H
theorem c_is_turn (T : Txt K mg) : Cal P w K mg base 1 "is_turn" (sp_is_turn K) [] := by
  have sc := sc_is_turn
  refine cal_of T.d_is_turn sc (fun _ _ _ _ _ _ us hl => match us, hl with | [_, _], _ => rfl) (fun vs H Q E h => ?_) (fun f cdv A outer s H vs Q E hr h => ?_)
  · obtain ⟨c, r, rfl, _⟩ := h
    rfl
  · obtain ⟨c, r, rfl, h⟩ := h
    refine ⟨_, (pss_one (ps_ret (pe_cmpR op_eq (pe_op op_mod (pe_callB (r := Nm.rLenS K) (id := "len") Nm.call_lenS rfl T.m_len (by decide +kernel) (pa_cons (pv 1) pa_nil)) pe_int) (pe_ix ix_tup (pv 0) pe_int (fun _ _ => rfl)) (nomark _)))), ?_⟩
    obtain ⟨b, row, ⟨c', r', e, hc, hb⟩, hr1, q⟩ := h
    cases e
    refine ⟨_, rfl, r, _, rfl, .inr (SqT.of hr1), _, 2, rfl, rfl, (by show (0 : Int) < 2; decide), _, rfl, c, _, 1, .int b.2.1, rfl, rfl, SqT.of hc, rfl, rfl, ?_⟩
    rw [List.length_map, decI]
    exact q
end
end K06
namespace K06
open PySem L2 Nm
open C8 (Cal Mak pe_c pe_mk pe_gc)
open RZ (ItzT pi_zipA)
/-- does the side of the board win from the row on -/
def bestB (g : Str → List (List Str)) (b : Bd) (row : List Str) : Bool := decide ((val (g b.1) row).1 = decide ((row.length : Int) % 2 = b.2.1))
def bestI (g : Str → List (List Str)) (bs : List Bd) (rows : List (List Str)) (i : Nat) : Bool := match bs[i]?, rows[i]? with
  | some b, some r => bestB g b r
  | _, _ => false
def bestAt (g : Str → List (List Str)) (bs : List Bd) (rows : List (List Str)) : List Nat := (List.range bs.length).filter (bestI g bs rows)
abbrev numsV (ks : List Nat) : List V := ks.map fun k => .int (Int.ofNat k)
/-- for each name what is told of the rows of its game -/
def VnAt (g : Str → List (List Str)) (H : Hp) (y : V) (n : Str) : Prop := ∃ D, y = .ref D ∧ VdAt H D (g n)
theorem vn_mut {g : Str → List (List Str)} {H : Hp} {D : Addr} {kvs ks : List (Key × V)} {y : V} {n : Str} (h : H D = some (.dK kvs)) (r : VnAt g H y n) : VnAt g (upd H D (.dK ks)) y n := by
  obtain ⟨E, rfl, ents, h1, h2⟩ := r
  refine ⟨E, rfl, ents, ?_, fun k hk => ?_⟩
  · rw [upd_ne (fun z => by rw [z, h] at h1; cases h1)]
    exact h1
  · obtain ⟨v, e1, e2⟩ := h2 k hk
    exact ⟨v, e1, stays_tw _ _ _ _ (tups_dK h) e2⟩
theorem kvR {H : Hp} {r : Addr} {row : List Str} (h : H r = some (.tup (row.map V.str))) : H r = some (.tup ((keyRow row).map kV)) := by
  rw [kV_row]
  exact h
theorem paired_rget {α β : Type} {R : α → β → Prop} : ∀ {xs : List α} {ys : List β}, Paired R xs ys → ∀ {i : Nat} {y : β}, ys[i]? = some y → ∃ x, xs[i]? = some x ∧ R x y
  | _, _, .nil, _, _, h => by cases h
  | _, _, .cons r t, 0, _, h => by
    cases h
    exact ⟨_, rfl, r⟩
  | _, _, .cons r t, i + 1, _, h => paired_rget t (i := i) h
theorem vd_keep {H H' : Hp} {D : Addr} {rs : List (List Str)} (h : VdAt H D rs) (k : Keep H H') : VdAt H' D rs := by
  obtain ⟨ents, h1, h2⟩ := h
  refine ⟨ents, k _ _ h1 (fun xs e => nomatch e), fun r hr => ?_⟩
  obtain ⟨y, e1, e2⟩ := h2 r hr
  exact ⟨y, e1, stays_tw _ _ _ _ k.tups e2⟩
theorem vns_keep {g : Str → List (List Str)} {H H' : Hp} {D : Addr} {ns : List Str} (h : NdAt (VnAt g) H D ns) (k : Keep H H') : NdAt (VnAt g) H' D ns := by
  obtain ⟨kvs, h1, h2, h3⟩ := h
  refine ⟨kvs, k _ _ h1 (fun xs e => nomatch e), h2, fun n hn => ?_⟩
  obtain ⟨y, e1, E, e2, e3⟩ := h3 n hn
  exact ⟨y, e1, E, e2, vd_keep e3 k⟩
theorem bestAt_one {g : Str → List (List Str)} {bs : List Bd} {rows : List (List Str)} (i : Nat) : (List.range (i + 1)).filter (bestI g bs rows) = (List.range i).filter (bestI g bs rows) ++ (if bestI g bs rows i = true then [i] else []) := by
  rw [List.range_succ, List.filter_append]
  congr 1
  cases c : bestI g bs rows i with
  | false => simp [c]
  | true => simp [c]
section
variable {P : Program} {w : World} {K : PySem.W.Frag} {mg : Str → Option Value} {base : Heap}
def sp_best_at (K : PySem.W.Frag) : Sp := fun vs H Q _ => ∃ (h0 D rw : Addr), vs = [.ref h0, .ref D, .ref rw] ∧ ∃ bs ys g rows, HallAt K H h0 bs ∧ bs.length ≤ 60 ∧ Names (bs.map (·.1)) ys ∧ GsAt H D ys g ∧ (∀ n ∈ ys, GoodG bs n (g n)) ∧
  (LstOf RwAt H rw rows ∨ TupOf RwAt H rw rows) ∧ rows.length = bs.length ∧ (∀ (i : Nat) b r, bs[i]? = some b → rows[i]? = some r → r ∈ g b.1) ∧
  ∀ H' p, Same H H' → H' p = some (.tup (numsV (bestAt g bs rows))) → Q (.ref p) H'
theorem c_best_at (T : Txt K mg) : Cal P w K mg base 3 "best_at" (sp_best_at K) [] := by
  have C_is_turn := c_is_turn (P := P) (w := w) (base := base) T
  have C_solved := c_solved (P := P) (w := w) (base := base) T
  have sc := sc_best_at
  refine cal_of T.d_best_at sc (fun _ _ _ _ _ _ us hl => match us, hl with | [_, _, _], _ => rfl) (fun vs H Q E h => ?_) (fun f cdv A outer s H vs Q E hr h => ?_)
  · obtain ⟨h0, D, rw, rfl, _⟩ := h
    rfl
  · obtain ⟨h0, D, rw, rfl, h⟩ := h
    obtain ⟨bs, ys, g, rows, hH, l60, nm0, gs, good, rat, lrow, inn, q⟩ := h
    obtain ⟨C, dx, fs, a, nr, ys2, cl, nB, nN, hp, fb, fn, ⟨xs, ha, pr⟩, hn, nm⟩ := id hH
    have el : xs.length = bs.length := paired_len pr
    have ey : ys2 = ys := rise_one nm.rise nm0.rise fun z => by rw [nm.mem, nm0.mem]
    subst ey
    have lys : ys2.length ≤ 60 := by
      have h := List.Nodup.length_le_of_subset nm.nd fun z hz => (nm.mem z).mp hz
      rw [List.length_map] at h
      omega
    have big : (100000 : Nat) < PySem.sizeLine := by decide
    refine ⟨_, (pss_cons (Nm.ps_setDcK (i := 3) (own := [("name", 9)]) (g := gName 9) rfl sc.nd rfl rfl (Nm.swd_true rfl rfl rfl (by decide +kernel)) (pi_tup (pe_fld (pv 0) rfl)) (blkOk_by (own := [("name", 9)]) (N := ["hall", "games", "rows", "verdicts", "found", "at", "board", "mover_wins", "_", "name"]) (sc := defScope s_best_at) (by decide +kernel)) (fun _ _ _ _ _ => (pg_name (i := 9) sc.nd rfl (Or.inl rfl))) (fun _ _ _ _ _ => pts_nil) (fun _ _ _ _ _ => (pv 9)) (fun _ _ _ _ _ => (pe_c C_solved hr (by omega) rfl (pa_cons (pe_dget (hu_of hr) (pv 1) (pv 9) (fun _ _ => rfl)) pa_nil))))
  (pss_cons (ps_set (i := 4) sc.nd rfl (Or.inl rfl) (pe_lst pa_nil))
  (pss_cons (ps_for PassesOwn.never rfl (Nm.pi_enuT rfl T.m_enumerate (pa_cons (pe_fld (pv 0) rfl) pa_nil)) (pg_tup rfl (pgs_cons (pg_name (i := 5) sc.nd rfl (Or.inl rfl)) (pgs_cons (pg_name (i := 6) sc.nd rfl (Or.inl rfl)) pgs_nil))) (pss_cons (ps_asg (pe_dget (hu_of hr) (pe_dget (hu_of hr) (pv 3) (pe_ix ix_tup (pv 6) pe_int (fun _ _ => rfl)) (fun _ _ => rfl)) (pe_ix Nm.ix_any (pv 2) (pv 5) (fun _ _ => rfl)) (fun _ _ => rfl)) (pg_tup rfl (pgs_cons (pg_name (i := 7) sc.nd rfl (Or.inl rfl)) (pgs_cons (pg_name (i := 8) sc.nd rfl (Or.inl rfl)) pgs_nil))))
  (pss_one (ps_if (pt_cmpR op_eq (pv 7) (pe_c C_is_turn hr (by omega) rfl (pa_cons (pv 6) (pa_cons (pe_ix Nm.ix_any (pv 2) (pv 5) (fun _ _ => rfl)) pa_nil))) (nomark _)) (pss_one (ps_expr (pe_bm PySem.F.plainAttrs_list PySem.F.slot_list_append PySem.F.type_list_append mt_append (pv 4) (pa_cons (pv 5) pa_nil)))) pss_nil))))
  (pss_one (ps_ret (pe_callTy call_tuple_of rfl T.m_tuple (by decide +kernel) (pa_cons (pv 4) pa_nil))))))), ?_⟩
    refine ⟨_, rfl, h0, C, dx, fs, _, rfl, hp, cl, nN, fn, nr, rfl, ⟨_, SqT.of hn⟩, fun D2 hD2 => ?_⟩
    refine dcK_names (R := VnAt g) (fun H H' y n s ⟨E, e, h⟩ => ⟨E, e, h.same s⟩) (fun H D kvs ks y n h r => vn_mut h r) nm.nd (by omega) hn hD2 ?_ ?_
    · intro i n H1 Nx hi g1 fin
      have mn := List.mem_of_getElem? hi
      refine ⟨rfl, ?_⟩
      obtain ⟨a1, dg, gm⟩ := (gs.same g1).get mn
      refine ⟨_, rfl, ?_⟩
      refine ⟨_, rfl, _, rfl, D, _, rfl, dg, a1, rfl, g n, gm, (good n mn).isG, fun H2 E vd g2 => ?_⟩
      exact fin _ _ g2 ⟨E, rfl, vd⟩
    intro H1 g1 nd1
    refine ⟨Nat.zero_le _, fun F hF => ?_⟩
    have g2 := same_new (o := .lst []) hF
    refine ⟨_, rfl, h0, C, dx, fs, _, rfl, (g1.trans g2) _ _ hp, cl, nB, fb, a, xs, rfl, SqT.of ((g1.trans g2) _ _ ha), ?_⟩
    have g12 := g1.trans g2
    refine for_it walk_itu (fun i σ H3 => ∃ v5 v6 v7 v8, σ = [some (.ref h0), some (.ref D), some (.ref rw), some (.ref D2), some (.ref F), v5, v6, v7, v8, none] ∧ Same H H3 ∧ NdAt (VnAt g) H3 D2 ys2 ∧ H3 F = some (.lst (numsV ((List.range i).filter (bestI g bs rows))))) ⟨none, none, none, none, rfl, g12, ?_, upd_same⟩ (fun i σ H3 _ ⟨_, _, _, _, _, g, _⟩ => SqT.of (g _ _ ha)) ?_ ?_
    · exact vns_keep nd1 (same_keep g2)
    · rintro i x σ H3 H4 hi ⟨v5, v6, v7, v8, rfl, g3, nd3, hF3⟩ ⟨tp, x1, y, rfl, hn4, rfl, e1, e2⟩
      cases e1
      obtain ⟨b, hb1, hb2⟩ := paired_at pr i y e2
      have g4 : Same H3 (upd H3 tp (.tup [.int (i : Nat), y])) := same_new hn4
      have mb := List.mem_of_getElem? hb1
      have mn : b.1 ∈ ys2 := (nm.mem _).mpr (List.mem_map.mpr ⟨b, mb, rfl⟩)
      have li : i < rows.length := by
        have := (List.getElem?_eq_some_iff.mp hb1).1
        omega
      have hr2 : rows[i]? = some rows[i] := List.getElem?_eq_getElem li
      generalize rows[i] = row at hr2
      have mr := inn i b row hb1 hr2
      have g34 := g3.trans g4
      refine ⟨tp, _, rfl, SqT.of upd_same, rfl, _, _, rfl, _, _, rfl, rfl, ?_⟩
      have nd4 := vns_keep nd3 (same_keep g4)
      have hF4 := g4 _ _ hF3
      have hb4 := hb2.mono (same_tups g34)
      generalize upd H3 tp (.tup [.int (i : Nat), y]) = H4 at *
      have ixr : ∀ (H' : Hp) (Q' : VK), Same H H' → (∀ r, H' r = some (.tup (row.map V.str)) → Q' (.ref r) H') → rIxA K (.ref rw) (.int (i : Nat)) H' Q' := fun H' Q' gg qq => by
        rcases rat with ⟨us, hu, pu⟩ | ⟨us, hu, pu⟩
        · obtain ⟨u, e, r, rfl, hr1⟩ := paired_rget pu hr2
          exact .inl ⟨rw, us, _, _, rfl, rfl, SqL.of (gg _ _ hu), atI_nat e, qq r (gg _ _ hr1)⟩
        · obtain ⟨u, e, r, rfl, hr1⟩ := paired_rget pu hr2
          exact .inr ⟨rw, us, _, _, rfl, rfl, SqT.of (gg _ _ hu), atI_nat e, qq r (gg _ _ hr1)⟩
      obtain ⟨kvs, hD4, hk4, hv4⟩ := id nd4
      obtain ⟨v, ev, E2, rfl, ents, hE, hents⟩ := hv4 b.1 mn
      obtain ⟨w2, ew, rw2, rfl, hw2⟩ := hents row mr
      obtain ⟨c, r1, rfl, hc, hr1⟩ := id hb4
      refine ⟨_, rfl, _, rfl, c, _, 0, .str b.1, rfl, rfl, SqT.of hc, rfl, D2, _, rfl, ev ▸ DGet.k (k := .inr b.1) hD4, ?_⟩
      refine ⟨_, rfl, _, rfl, ixr H4 _ g34 fun r2 hq2 => ?_⟩
      refine ⟨E2, _, rfl, ew ▸ DGet.t hE (kvR hq2), ?_⟩
      refine ⟨rw2, _, rfl, SqT.of hw2, rfl, _, _, rfl, _, _, rfl, rfl, ?_⟩
      refine ⟨_, rfl, _, rfl, _, rfl, _, rfl, ixr H4 _ g34 fun r3 hr3 => ?_⟩
      refine ⟨c, r3, rfl, b, row, hb4, hr3, rfl, _, rfl, ?_⟩
      have ebi : bestI g bs rows i = bestB g b row := by
        unfold bestI
        rw [hb1, hr2]
      have edc : decide (V.bl (val (g b.1) row).1 = V.bl (decide ((row.length : Int) % 2 = b.2.1))) = bestI g bs rows i := by
        rw [ebi]
        unfold bestB
        exact decide_eq_decide.mpr ⟨fun z => V.bl.inj z, fun z => by rw [z]⟩
      rw [edc]
      have fl : (numsV ((List.range i).filter (bestI g bs rows))).length ≤ 60 := by
        rw [List.length_map]
        have := List.length_filter_le (bestI g bs rows) (List.range i)
        rw [List.length_range] at this
        omega
      refine ite2 (fun z => ?_) (fun z => ?_)
      · refine ⟨_, rfl, .inl ⟨rfl, _, SqL.of hF4⟩, _, rfl, F, _, _, rfl, rfl, hF4, by omega, ?_⟩
        refine ⟨_, _, _, _, rfl, same_mut g34 ?_, vns_keep nd4 ?_, ?_⟩
        · cases e : H F with
          | none => rfl
          | some o => rw [g1 _ _ e] at hF; cases hF
        · exact keep_lst hF4
        · rw [upd_same, bestAt_one, z, if_pos rfl]
          unfold numsV
          rw [List.map_append]
          rfl
      · refine ⟨_, _, _, _, rfl, g34, nd4, ?_⟩
        rw [hF4, bestAt_one, if_neg z, List.append_nil]
    · rintro σ H3 ⟨v5, v6, v7, v8, rfl, g3, nd3, hF3⟩
      rw [el] at hF3
      refine ⟨_, rfl, F, _, rfl, .inl ⟨SqL.of hF3, fun p hp => q _ _ (g3.trans (same_new hp)) ?_⟩⟩
      exact upd_same
end
end K06
namespace K06
open PySem L2 Nm
open C8 (Cal Mak pe_c pe_mk pe_gc)
open RZ (ItzT pi_zipA)
theorem begun_in {g : Str → List (List Str)} {bs : List Bd} {ys : List Str} (nm : Names (bs.map (·.1)) ys) (good : ∀ n ∈ ys, GoodG bs n (g n)) (i : Nat) (b : Bd) (r : List Str) (hb : bs[i]? = some b) (hr : (bs.map (·.2.2))[i]? = some r) : r ∈ g b.1 := by
  rw [List.getElem?_map, hb] at hr
  cases hr
  have mb := List.mem_of_getElem? hb
  exact (good b.1 ((nm.mem _).mpr (List.mem_map.mpr ⟨b, mb, rfl⟩))).has _ (mem_rowsOf mb)
section
variable {P : Program} {w : World} {K : PySem.W.Frag} {mg : Str → Option Value} {base : Heap}
def sp_told_won (K : PySem.W.Frag) : Sp := fun vs H Q _ => ∃ (h0 D : Addr), vs = [.ref h0, .ref D] ∧ ∃ bs ys g, HallAt K H h0 bs ∧ (∀ b ∈ bs, okB b) ∧ bs.length ≤ 60 ∧ Names (bs.map (·.1)) ys ∧ GsAt H D ys g ∧ (∀ n ∈ ys, GoodG bs n (g n)) ∧ ∀ H' p, Same H H' → H' p = some (.tup (numsV (bestAt g bs (bs.map (·.2.2))))) → Q (.ref p) H'
theorem c_told_won (T : Txt K mg) : Cal P w K mg base 8 "told_won" (sp_told_won K) [] := by
  have C_begun_rows := c_begun_rows (P := P) (w := w) (base := base) T
  have C_best_at := c_best_at (P := P) (w := w) (base := base) T
  have C_check_games := c_check_games (P := P) (w := w) (base := base) T
  have sc := sc_told_won
  refine cal_of T.d_told_won sc (fun _ _ _ _ _ _ us hl => match us, hl with | [_, _], _ => rfl) (fun vs H Q E h => ?_) (fun f cdv A outer s H vs Q E hr h => ?_)
  · obtain ⟨h0, D, rfl, _⟩ := h
    rfl
  · obtain ⟨h0, D, rfl, h⟩ := h
    refine ⟨_, (pss_cons (ps_expr (pe_c C_check_games hr (by omega) rfl (pa_cons (pv 0) (pa_cons (pv 1) pa_nil))))
  (pss_one (ps_ret (pe_c C_best_at hr (by omega) rfl (pa_cons (pv 0) (pa_cons (pv 1) (pa_cons (pe_c C_begun_rows hr (by omega) rfl (pa_cons (pv 0) pa_nil)) pa_nil))))))), ?_⟩
    obtain ⟨bs, ys, g, hH, ok, l60, nm, gs, good, q⟩ := h
    refine ⟨_, rfl, _, rfl, h0, D, rfl, bs, ys, g, hH, ok, l60, nm, gs, good, fun H1 g1 => ?_⟩
    refine ⟨_, rfl, _, rfl, _, rfl, h0, rfl, bs, hH.mono (same_keep g1), l60, fun H2 p hp lp g2 => ?_⟩
    have g12 := g1.trans g2
    exact ⟨h0, D, p, rfl, bs, ys, g, _, hH.mono (same_keep g12), l60, nm, gs.same g12, good, .inl lp, List.length_map .., begun_in nm good, fun H3 p3 g3 h3 => q H3 p3 (g12.trans g3) h3⟩
end
end K06
namespace K06
open PySem L2 Nm
open C8 (Cal Mak pe_c pe_mk pe_gc)
open RZ (ItzT pi_zipA)
section
variable {P : Program} {w : World} {K : PySem.W.Frag} {mg : Str → Option Value} {base : Heap}
/-- rows at which the games can stand -/
structure RowsOk (g : Str → List (List Str)) (bs : List Bd) (rows : List (List Str)) : Prop where
  len : rows.length = bs.length
  inn : ∀ (i : Nat) (b : Bd) (r : List Str), bs[i]? = some b → rows[i]? = some r → r ∈ g b.1
  pre : ∀ (i : Nat) (b : Bd) (r : List Str), bs[i]? = some b → rows[i]? = some r → b.2.2 <+: r
def sp_are_rows (K : PySem.W.Frag) : Sp := fun vs H Q _ => ∃ (h0 rw : Addr), vs = [.ref h0, .ref rw] ∧ ∃ bs g rows, HallAt K H h0 bs ∧ (∀ b ∈ bs, okB b) ∧ bs.length ≤ 60 ∧ TupOf RwAt H rw rows ∧ RowsOk g bs rows ∧ (∀ r ∈ rows, rwOk r) ∧ ∀ H', Same H H' → Q (.bl true) H'
theorem c_are_rows (T : Txt K mg) : Cal P w K mg base 5 "are_rows" (sp_are_rows K) [] := by
  have C_begun_rows := c_begun_rows (P := P) (w := w) (base := base) T
  have C_is_row := c_is_row (P := P) (w := w) (base := base) T
  have sc := sc_are_rows
  refine cal_of T.d_are_rows sc (fun _ _ _ _ _ _ us hl => match us, hl with | [_, _], _ => rfl) (fun vs H Q E h => ?_) (fun f cdv A outer s H vs Q E hr h => ?_)
  · obtain ⟨h0, rw, rfl, _⟩ := h
    rfl
  · obtain ⟨h0, rw, rfl, h⟩ := h
    obtain ⟨bs, g, rows, hH, ok, l60, ⟨us, hu, pu⟩, R, okr, q⟩ := h
    obtain ⟨C, dx, fs, a, nr, ys, cl, nB, nN, hp, fb, fn, ⟨xs, ha, pr⟩, hn, nm⟩ := id hH
    have el : xs.length = bs.length := paired_len pr
    have eu : us.length = rows.length := paired_len pu
    have lr := R.len
    refine ⟨_, (pss_cons (ps_if (PW.pt (pw_or (pt_not (pt_val (pe_callB call_isi rfl T.m_isinstance (by decide +kernel) (pa_cons (pv 1) (pa_cons (pe_bltn (v := .ty "tuple") (u := .type "tuple") rfl T.m_tuple (by decide +kernel) rfl) pa_nil))))) (pw_or1 (pt_cmpR op_ne (pe_callB (r := Nm.rLenS K) (id := "len") Nm.call_lenS rfl T.m_len (by decide +kernel) (pa_cons (pv 1) pa_nil)) (pe_callB (r := Nm.rLenS K) (id := "len") Nm.call_lenS rfl T.m_len (by decide +kernel) (pa_cons (pe_fld (pv 0) rfl) pa_nil)) (nomark _))))) (pss_one (ps_ret pe_bl)) pss_nil)
  (pss_one (ps_ret (pe_callB (cr_all rfl) rfl T.m_all (by decide +kernel) (pa_cons (pe_lc (own := [("row", 2), ("begun", 3)]) (g := gTup K 2 (gCons (gName 2) (gCons (gName 3) gNil))) rfl sc.nd (Nm.pi_zipM rfl T.m_zip (pa_cons (pv 1) (pa_cons (pe_c C_begun_rows hr (by omega) rfl (pa_cons (pv 0) pa_nil)) pa_nil))) (blkOk_by (own := [("row", 2), ("begun", 3)]) (N := ["hall", "thing", "row", "begun"]) (sc := defScope s_are_rows) (by decide +kernel)) (fun _ _ _ _ _ => (pg_tup rfl (pgs_cons (pg_name (i := 2) sc.nd rfl (Or.inl rfl)) (pgs_cons (pg_name (i := 3) sc.nd rfl (Or.inl rfl)) pgs_nil)))) (fun _ _ _ _ _ => pts_nil) (fun _ _ _ _ _ => (pe_and (pe_c C_is_row hr (by omega) rfl (pa_cons (pv 2) pa_nil)) (pe_one (pe_cmpR (r := rEqD K) (op_eqD hr.units) (pe_slice (r := rSlA K) sl_tupA (pv 2) po_none (po_some (pe_callB (r := Nm.rLenS K) (id := "len") Nm.call_lenS rfl T.m_len (by decide +kernel) (pa_cons (pv 3) pa_nil)))) (pv 3) (nomark _)))))) pa_nil))))), ?_⟩
    obtain ⟨t, t1, t2⟩ := tyc_tup (K := K) hu
    refine ⟨_, rfl, _, _, t, _, true, rfl, .ty _, t1, t2, true, rfl, ?_⟩
    refine iteF ⟨_, rfl, rw, _, rfl, .inr (SqT.of hu), _, rfl, h0, C, dx, fs, _, rfl, hp, cl, nB, fb, a, _, rfl, .inr (SqT.of ha), rfl, _, rfl, ?_⟩
    refine ite2 (fun z => ?_) (fun _ => ?_)
    · have z' : (!decide (V.int ((us.length : Nat) : Int) = V.int ((xs.length : Nat) : Int))) = true := z
      rw [show us.length = xs.length by omega, decide_eq_true rfl] at z'
      cases z'
    refine ⟨_, rfl, _, rfl, h0, rfl, bs, hH, l60, fun H1 p hp1 ⟨zs, hz1, pz⟩ g1 => ?_⟩
    have hu1 := g1 _ _ hu
    have ez : zs.length = bs.length := by rw [paired_len pz, List.length_map]
    refine ⟨rw, p, us, zs, rfl, SqT.of hu1, SqL.of hz1, fun D hD => ?_⟩
    have lzip : (rows.zip (bs.map (·.2.2))).length = us.length := by
      rw [List.length_zip, List.length_map]
      omega
    refine lcS (walk_zipM (K := K) (a := rw) (b := p) (xs := us) (ys := zs) rfl (by omega)) stays_bl (rows.zip (bs.map (·.2.2))) (fun _ => true) (fun _ => true) lzip.symm (by omega) (fun H2 g => ⟨SqT.of (g _ _ hu1), SqL.of (g _ _ hz1)⟩) hD ?_ ?_
    · rintro i x ⟨row, bg⟩ H2 H3 Nx hb ⟨tp, x1, y1, rfl, hn3, rfl, e1, e2⟩ sm _ yes
      rw [List.getElem?_zip_eq_some] at hb
      obtain ⟨hb1, hb2⟩ := hb
      rw [List.getElem?_map] at hb2
      cases hbi : bs[i]? with
      | none => rw [hbi] at hb2; cases hb2
      | some b =>
        rw [hbi] at hb2
        cases hb2
        obtain ⟨row', hr', r, rfl, hrr⟩ := paired_at pu i _ e1
        have e : row' = row := Option.some.inj (hr'.symm.trans hb1)
        subst e
        obtain ⟨bg', hg', c, rfl, hcc⟩ := paired_at pz i _ e2
        rw [List.getElem?_map, hbi] at hg'
        cases hg'
        have gt := same_new (o := .tup [.ref r, .ref c]) hn3
        have s2 : Same H1 (upd H2 tp (.tup [.ref r, .ref c])) := sm.trans gt
        have hr2 := s2 _ _ (g1 _ _ hrr)
        have hc2 := s2 _ _ hcc
        have mrow := List.mem_of_getElem? hr'
        have okw := okr _ mrow
        refine ⟨tp, _, rfl, SqT.of upd_same, rfl, _, _, rfl, _, _, rfl, rfl, rfl, ?_⟩
        refine ⟨_, rfl, r, row', rfl, hr2, okw, fun H5 g5 => ⟨true, rfl, ?_⟩⟩
        refine iteT ⟨_, rfl, _, rfl, c, _, rfl, .inr (SqT.of (g5 _ _ hc2)), _, rfl, sl_takeE (k := b.2.2.length) (by rw [List.length_map]) (g5 _ _ hr2) fun r2 H6 g6 hr6 => ?_⟩
        rw [← List.map_take] at hr6
        refine ⟨_, rfl, rowD (row'.take b.2.2.length), rowD b.2.2, dp_row hr6, dp_row (g6 _ _ (g5 _ _ hc2)), shaped_rw fun z hz => okw.2 z (List.mem_of_mem_take hz), shaped_rw (ok_rw (ok b (List.mem_of_getElem? hbi))).2, ?_⟩
        rw [eqv_row, decide_eq_true (List.prefix_iff_eq_take.mp (R.pre i b row' hbi hr')).symm]
        exact yes rfl _ _ ((gt.trans g5).trans g6) rfl
    · intro H2 g2 l2
      refine ⟨D, _, rfl, sql_bl l2, ?_⟩
      rw [filter_all, List.all_map]
      have e2 : (rows.zip (bs.map (·.2.2))).all (id ∘ fun _ => true) = true := List.all_eq_true.mpr fun _ _ => rfl
      rw [e2]
      exact q H2 (g1.trans g2)
end
end K06
namespace K06
open PySem L2 Nm
open C8 (Cal Mak pe_c pe_mk pe_gc)
open RZ (ItzT pi_zipA)
theorem good_ne {rs : List (List Str)} {row : List Str} (ok : rwOk row) (v : (val rs row).1 = true) : goodOf rs row ≠ [] := fun e => by
  obtain ⟨x, h1, h2⟩ := (val_win ok.1).mp v
  have m : lastW x ∈ goodOf rs row := List.mem_map.mpr ⟨x, List.mem_filter.mpr ⟨h1, by rw [h2]; rfl⟩, rfl⟩
  rw [e] at m
  cases m
def turnI (bs : List Bd) (rows : List (List Str)) (i : Nat) : Bool := match bs[i]?, rows[i]? with
  | some b, some r => decide ((r.length : Int) % 2 = b.2.1)
  | _, _ => false
def dueI (g : Str → List (List Str)) (bs : List Bd) (rows : List (List Str)) (i : Nat) : Bool := bestI g bs rows i && turnI bs rows i
def wordI (g : Str → List (List Str)) (bs : List Bd) (rows : List (List Str)) (i : Nat) : Str := match bs[i]?, rows[i]? with
  | some b, some r => ((goodOf (g b.1) r)[0]?).getD ⟨#[]⟩
  | _, _ => ⟨#[]⟩
def moveOf (g : Str → List (List Str)) (bs : List Bd) (rows : List (List Str)) : Option (Nat × Str) := ((bestAt g bs (bs.map (·.2.2))).find? (dueI g bs rows)).map fun i => (i, wordI g bs rows i)
def MvAt (H : Hp) (v : V) : Option (Nat × Str) → Prop
  | none => v = .non
  | some m => ∃ p, v = .ref p ∧ H p = some (.tup [.int (Int.ofNat m.1), .str m.2])
theorem find_at {p : Nat → Bool} : ∀ {l : List Nat} {i x : Nat}, l[i]? = some x → (∀ y ∈ l.take i, p y = false) → p x = true → l.find? p = some x
  | [], _, _, h, _, _ => by cases h
  | a :: l, 0, x, h, _, c => by
    cases h
    rw [List.find?_cons, c]
  | a :: l, i + 1, x, h, no, c => by
    rw [List.find?_cons, no a (by rw [List.take_succ_cons]; exact List.mem_cons_self)]
    exact find_at h (fun y hy => no y (by rw [List.take_succ_cons]; exact List.mem_cons_of_mem _ hy)) c
theorem any_nums (x : Nat) : ∀ ks : List Nat, ((ks.map fun k => PyData.int (Int.ofNat k)).any fun z => PyData.eqv z (.int (Int.ofNat x))) = decide (x ∈ ks)
  | [] => rfl
  | k :: ks => by
    have e : PyData.eqv (.int (Int.ofNat k)) (.int (Int.ofNat x)) = decide (x = k) := by
      show decide ((Int.ofNat k) = (Int.ofNat x)) = _
      exact decide_eq_decide.mpr ⟨fun h => (Int.ofNat.inj h).symm, fun h => by rw [h]⟩
    rw [List.map_cons, List.any_cons, any_nums x ks, e]
    by_cases c : x = k
    · have e2 : decide (x ∈ k :: ks) = true := decide_eq_true (c ▸ List.mem_cons_self)
      rw [e2, decide_eq_true c, Bool.true_or]
    · rw [decide_eq_false c, Bool.false_or]
      exact decide_eq_decide.mpr ⟨fun h => List.mem_cons_of_mem _ h, fun h => (List.mem_cons.mp h).resolve_left c⟩
theorem dpAll_nums {K : PySem.W.Frag} {H : Hp} : ∀ ns : List Nat, DpAll K H (numsV ns) (ns.map fun k => PyData.int (Int.ofNat k))
  | [] => .nil
  | n :: ns => .cons (.int _) (dpAll_nums ns)
theorem shaped_nums (ns : List Nat) : SeqAt.shaped (.tuple (ns.map fun k => PyData.int (Int.ofNat k))) = true := by
  have all : PyData.canLayAll0 (ns.map fun k => PyData.int (Int.ofNat k)) = true ∧ PyData.depthAll (ns.map fun k => PyData.int (Int.ofNat k)) = 0 := by
    induction ns with
    | nil => simp [PyData.canLayAll0, PyData.depthAll]
    | cons n ns ih => rw [List.map_cons, PyData.canLayAll0, PyData.depthAll, ih.1, ih.2, PyData.canLay0, PyData.depth]; exact ⟨rfl, rfl⟩
  unfold SeqAt.shaped
  rw [PyData.canLay0, all.1, PyData.depth, all.2]
  decide
theorem shaped_num (i : Int) : SeqAt.shaped (.int i) = true := by
  unfold SeqAt.shaped
  rw [PyData.canLay0, PyData.depth]
  decide
theorem bestAt_mem {g : Str → List (List Str)} {bs : List Bd} {rows : List (List Str)} {i : Nat} : i ∈ bestAt g bs rows ↔ i < bs.length ∧ bestI g bs rows i = true := by
  unfold bestAt
  rw [List.mem_filter, List.mem_range]
section
variable {P : Program} {w : World} {K : PySem.W.Frag} {mg : Str → Option Value} {base : Heap}
def sp_told_move (K : PySem.W.Frag) : Sp := fun vs H Q _ => ∃ (h0 D rw : Addr), vs = [.ref h0, .ref D, .ref rw] ∧ ∃ bs ys g rows, HallAt K H h0 bs ∧ (∀ b ∈ bs, okB b) ∧ bs.length ≤ 60 ∧ Names (bs.map (·.1)) ys ∧ GsAt H D ys g ∧ (∀ n ∈ ys, GoodG bs n (g n)) ∧ TupOf RwAt H rw rows ∧ RowsOk g bs rows ∧
  ∀ H' v, Same H H' → MvAt H' v (moveOf g bs rows) → Q v H'
theorem c_told_move (T : Txt K mg) : Cal P w K mg base 9 "told_move" (sp_told_move K) [] := by
  have C_are_rows := c_are_rows (P := P) (w := w) (base := base) T
  have C_begun_rows := c_begun_rows (P := P) (w := w) (base := base) T
  have C_best_at := c_best_at (P := P) (w := w) (base := base) T
  have C_check_games := c_check_games (P := P) (w := w) (base := base) T
  have C_good_words := c_good_words (P := P) (w := w) (base := base) T
  have C_is_turn := c_is_turn (P := P) (w := w) (base := base) T
  have sc := sc_told_move
  refine cal_of T.d_told_move sc (fun _ _ _ _ _ _ us hl => match us, hl with | [_, _, _], _ => rfl) (fun vs H Q E h => ?_) (fun f cdv A outer s H vs Q E hr h => ?_)
  · obtain ⟨h0, D, rw, rfl, _⟩ := h
    rfl
  · obtain ⟨h0, D, rw, rfl, h⟩ := h
    obtain ⟨bs, ys, g, rows, hH, ok, l60, nm0, gs, good, ⟨us, hu, pu⟩, R, q⟩ := h
    obtain ⟨C, dx, fs, a, nr, ys2, cl, nB, nN, hp, fb, fn, ⟨xs, ha, pr⟩, hn, nm⟩ := id hH
    have el : xs.length = bs.length := paired_len pr
    have eu : us.length = rows.length := paired_len pu
    have ey : ys2 = ys := rise_one nm.rise nm0.rise fun z => by rw [nm.mem, nm0.mem]
    subst ey
    have lr := R.len
    have okr : ∀ r ∈ rows, rwOk r := fun r hr => by
      obtain ⟨i, hi⟩ := List.getElem?_of_mem hr
      have li := (List.getElem?_eq_some_iff.mp hi).1
      have hb : bs[i]? = some (bs[i]'(by omega)) := List.getElem?_eq_getElem (by omega)
      have mb := List.mem_of_getElem? hb
      exact (good _ ((nm.mem _).mpr (List.mem_map.mpr ⟨_, mb, rfl⟩))).isG.ok r (R.inn i _ r hb hi)
    refine ⟨_, (pss_cons (ps_expr (pe_c C_check_games hr (by omega) rfl (pa_cons (pv 0) (pa_cons (pv 1) pa_nil))))
  (pss_cons (ps_if (PW.pt (pw_or (pt_not (pt_val (pe_c C_are_rows hr (by omega) rfl (pa_cons (pv 0) (pa_cons (pv 2) pa_nil))))) (pw_or1 (pt_not (pt_val (pe_callB (cr_all rfl) rfl T.m_all (by decide +kernel) (pa_cons (pe_lc (own := [("board", 5), ("row", 6)]) (g := gTup K 2 (gCons (gName 5) (gCons (gName 6) gNil))) rfl sc.nd (pi_zipA rfl T.m_zip (pa_cons (pe_fld (pv 0) rfl) (pa_cons (pv 2) pa_nil))) (blkOk_by (own := [("board", 5), ("row", 6)]) (N := ["hall", "games", "rows", "now", "at", "board", "row"]) (sc := defScope s_told_move) (by decide +kernel)) (fun _ _ _ _ _ => (pg_tup rfl (pgs_cons (pg_name (i := 5) sc.nd rfl (Or.inl rfl)) (pgs_cons (pg_name (i := 6) sc.nd rfl (Or.inl rfl)) pgs_nil)))) (fun _ _ _ _ _ => pts_nil) (fun _ _ _ _ _ => (pe_cmpR (r := Nm.rInT K false) (Nm.op_inT (u65 hr)) (pv 6) (pe_dget (hu_of hr) (pv 1) (pe_ix (r := rIxT K) ix_tup (pv 5) pe_int (fun _ _ => rfl)) (fun _ _ => rfl)) rfl))) pa_nil))))))) (pss_one ps_never) pss_nil)
  (pss_cons (ps_set (i := 3) sc.nd rfl (Or.inl rfl) (pe_c C_best_at hr (by omega) rfl (pa_cons (pv 0) (pa_cons (pv 1) (pa_cons (pv 2) pa_nil)))))
  (pss_cons (ps_for PassesOwn.never rfl (pi_tup (pe_c C_best_at hr (by omega) rfl (pa_cons (pv 0) (pa_cons (pv 1) (pa_cons (pe_c C_begun_rows hr (by omega) rfl (pa_cons (pv 0) pa_nil)) pa_nil))))) (pg_name (i := 4) sc.nd rfl (Or.inl rfl)) (pss_cons (ps_set (i := 5) sc.nd rfl (Or.inl rfl) (pe_ix ix_tup (pe_fld (pv 0) rfl) (pv 4) (fun _ _ => rfl)))
  (pss_one (ps_if (PW.pt (pw_and (pt_cmpR (Nm.op_inT (u65 hr)) (pv 4) (pv 3) rfl) (pw_and1 (pt_val (pe_c C_is_turn hr (by omega) rfl (pa_cons (pv 5) (pa_cons (pe_ix ix_tup (pv 2) (pv 4) (fun _ _ => rfl)) pa_nil))))))) (pss_one (ps_ret (pe_tup (pa_cons (pv 4) (pa_cons (pe_ix ix_tup (pe_c C_good_words hr (by omega) rfl (pa_cons (pe_dget (hu_of hr) (pv 1) (pe_ix ix_tup (pv 5) pe_int (fun _ _ => rfl)) (fun _ _ => rfl)) (pa_cons (pe_ix ix_tup (pv 2) (pv 4) (fun _ _ => rfl)) pa_nil))) pe_int (fun _ _ => rfl)) pa_nil))))) pss_nil))))
  (pss_one (ps_ret pe_non)))))), ?_⟩
    refine ⟨_, rfl, _, rfl, h0, D, rfl, bs, ys2, g, hH, ok, l60, nm, gs, good, fun H1 g1 => ?_⟩
    refine ⟨_, rfl, _, rfl, h0, rw, rfl, bs, g, rows, hH.mono (same_keep g1), ok, l60, ⟨us, g1 _ _ hu, paired_mono (fun _ _ => stays_rw _ _ _ _ (tups_same g1)) pu⟩, R, okr, fun H2 g2 => ⟨true, rfl, iteF ?_⟩⟩
    have g12 := g1.trans g2
    refine ⟨_, rfl, h0, C, dx, fs, _, rfl, g12 _ _ hp, cl, nB, fb, _, rfl, a, rw, xs, us, rfl, .inr ⟨SqT.of (g12 _ _ ha), SqT.of (g12 _ _ hu), fun D1 hD1 => ?_⟩⟩
    have lzip : (bs.zip rows).length = min xs.length us.length := by
      rw [List.length_zip]
      omega
    refine lcS (walk_zipT (K := K) (a := a) (b := rw) (xs := xs) (ys := us) rfl) stays_bl (bs.zip rows) (fun _ => true) (fun _ => true) lzip.symm (by rw [List.length_zip]; omega) (fun H3 g => ⟨SqT.of (g _ _ (g12 _ _ ha)), SqT.of (g _ _ (g12 _ _ hu))⟩) hD1 ?_ ?_
    · rintro i x ⟨b, row⟩ H3 H4 Nx hbr ⟨tp, x1, y1, rfl, hn3, rfl, e1, e2⟩ sm _ yes
      rw [List.getElem?_zip_eq_some] at hbr
      obtain ⟨hb1, hb2⟩ := hbr
      obtain ⟨b', hb', c, r0, rfl, hc, hr0⟩ := paired_at pr i _ e1
      have e : b' = b := Option.some.inj (hb'.symm.trans hb1)
      subst e
      obtain ⟨row', hr', r, rfl, hrr⟩ := paired_at pu i _ e2
      have e : row' = row := Option.some.inj (hr'.symm.trans hb2)
      subst e
      have gt := same_new (o := .tup [.ref c, .ref r]) hn3
      have s2 : Same H (upd H3 tp (.tup [.ref c, .ref r])) := (g12.trans sm).trans gt
      have mb := List.mem_of_getElem? hb'
      have mn : b'.1 ∈ ys2 := (nm.mem _).mpr (List.mem_map.mpr ⟨b', mb, rfl⟩)
      obtain ⟨a2, dg, gm⟩ := (gs.same s2).get mn
      have GG := (good _ mn).isG
      have mr := R.inn i _ _ hb' hr'
      refine ⟨tp, _, rfl, SqT.of upd_same, rfl, _, _, rfl, _, _, rfl, rfl, rfl, ?_⟩
      refine ⟨_, rfl, _, rfl, _, rfl, c, _, 0, .str b'.1, rfl, rfl, SqT.of (s2 _ _ hc), rfl, D, _, rfl, dg, ?_⟩
      refine ⟨rowD row', (g b'.1).map rowD, dp_row (s2 _ _ hrr), dp_game gm, shaped_rw (GG.ok _ mr).2, shaped_game fun z hz => (GG.ok z hz).2, ?_⟩
      rw [any_row, Bool.false_xor, decide_eq_true mr]
      exact yes rfl _ _ gt rfl
    intro H3 g3 l3
    refine ⟨D1, _, rfl, sql_bl l3, ?_⟩
    rw [filter_all, List.all_map]
    have e2 : (bs.zip rows).all (id ∘ fun _ => true) = true := List.all_eq_true.mpr fun _ _ => rfl
    rw [e2]
    refine ⟨true, rfl, iteF ?_⟩
    have g13 := g12.trans g3
    refine ⟨_, rfl, _, rfl, _, rfl, h0, D, rw, rfl, bs, ys2, g, rows, hH.mono (same_keep g13), l60, nm, gs.same g13, good, .inr ⟨us, g13 _ _ hu, paired_mono (fun _ _ => stays_rw _ _ _ _ (tups_same g13)) pu⟩, lr, R.inn, fun H4 pn g4 hpn => ?_⟩
    have g14 := g13.trans g4
    refine ⟨_, rfl, _, rfl, _, rfl, h0, rfl, bs, hH.mono (same_keep g14), l60, fun H5 pb hpb lpb g5 => ?_⟩
    have g15 := g14.trans g5
    refine ⟨h0, D, pb, rfl, bs, ys2, g, _, hH.mono (same_keep g15), l60, nm, gs.same g15, good, .inl lpb, List.length_map .., begun_in nm good, fun H6 p6 g6 hp6 => ⟨p6, rfl, ⟨_, SqT.of hp6⟩, ?_⟩⟩
    have g16 := g15.trans g6
    generalize hks : bestAt g bs (bs.map (·.2.2)) = ks at hp6
    have mk : ∀ i ∈ ks, i < bs.length := fun i hi => by
      rw [← hks] at hi
      exact (bestAt_mem.mp hi).1
    refine for_it (walk_tup (K := K) (a := p6) (xs := numsV ks)) (fun i σ H7 => ∃ v4 v5 v6, σ = [some (.ref h0), some (.ref D), some (.ref rw), some (.ref pn), v4, v5, v6] ∧ Same H6 H7 ∧ ∀ y ∈ ks.take i, dueI g bs rows y = false) ⟨none, none, none, rfl, Same.refl _, fun y hy => absurd hy (List.not_mem_nil)⟩ (fun i σ H7 _ ⟨_, _, _, _, g, _⟩ => SqT.of (g _ _ hp6)) ?_ ?_
    · rintro i y σ H7 H8 hi ⟨v4, v5, v6, rfl, g7, no⟩ ⟨rfl, hy⟩
      obtain ⟨k, hk, rfl⟩ := map_at hy
      have g17 := g16.trans g7
      have lk := mk k (List.mem_of_getElem? hk)
      have hbk : bs[k]? = some bs[k] := List.getElem?_eq_getElem lk
      have hrk : rows[k]? = some (rows[k]'(by omega)) := List.getElem?_eq_getElem (by omega)
      have hxk : xs[k]? = some (xs[k]'(by omega)) := List.getElem?_eq_getElem (by omega)
      have huk : us[k]? = some (us[k]'(by omega)) := List.getElem?_eq_getElem (by omega)
      generalize bs[k] = b at hbk
      generalize (rows[k]'(by omega)) = row at hrk
      generalize (xs[k]'(by omega)) = xk at hxk
      generalize (us[k]'(by omega)) = uk at huk
      obtain ⟨b', hb', c, r0, rfl, hc, hr0⟩ := paired_at pr k _ hxk
      have e : b' = b := Option.some.inj (hb'.symm.trans hbk)
      subst e
      obtain ⟨row', hr', r, rfl, hrr⟩ := paired_at pu k _ huk
      have e : row' = row := Option.some.inj (hr'.symm.trans hrk)
      subst e
      have mb := List.mem_of_getElem? hb'
      have mn : b'.1 ∈ ys2 := (nm.mem _).mpr (List.mem_map.mpr ⟨b', mb, rfl⟩)
      have mr := R.inn k _ _ hb' hr'
      have GG := (good _ mn).isG
      have eb : bestI g bs rows k = bestB g b' row' := by
        unfold bestI
        rw [hbk, hrk]
      have et : turnI bs rows k = decide ((row'.length : Int) % 2 = b'.2.1) := by
        unfold turnI
        rw [hbk, hrk]
      refine ⟨_, rfl, h0, C, dx, fs, _, rfl, g17 _ _ hp, cl, nB, fb, _, rfl, a, xs, _, .ref c, rfl, rfl, SqT.of (g17 _ _ ha), atI_nat hxk, ?_⟩
      have go : dueI g bs rows k = false → ∀ H9, Same H6 H9 → ∃ a4 a5 a6, [some (V.ref h0), some (.ref D), some (.ref rw), some (.ref pn), some (.int (Int.ofNat k)), some (.ref c), v6] = [some (V.ref h0), some (.ref D), some (.ref rw), some (.ref pn), a4, a5, a6] ∧ Same H6 H9 ∧ ∀ y ∈ ks.take (i + 1), dueI g bs rows y = false := fun dd H9 g9 => by
        refine ⟨_, _, _, rfl, g9, fun y hy => ?_⟩
        rw [take_one hk, List.mem_append, List.mem_singleton] at hy
        rcases hy with hy | hy
        · exact no y hy
        · rw [hy]
          exact dd
      refine ⟨_, rfl, _, rfl, .int (Int.ofNat k), (bestAt g bs rows).map fun k => PyData.int (Int.ofNat k), .int _, .tup (SqT.of (g7 _ _ (g6 _ _ (g5 _ _ hpn)))) (dpAll_nums _), shaped_num _, shaped_nums _, ?_⟩
      rw [any_nums, Bool.false_xor]
      have ein : decide (k ∈ bestAt g bs rows) = bestI g bs rows k := by
        cases c1 : bestI g bs rows k with
        | true => exact decide_eq_true (bestAt_mem.mpr ⟨lk, c1⟩)
        | false => exact decide_eq_false fun z => Bool.noConfusion (c1.symm.trans (bestAt_mem.mp z).2)
      rw [ein]
      refine ⟨_, rfl, ?_⟩
      cases c1 : bestI g bs rows k with
      | false => exact iteF (go (by unfold dueI; rw [c1]; rfl) _ g7)
      | true =>
        refine iteT ⟨_, rfl, _, rfl, _, rfl, rw, us, _, .ref r, rfl, rfl, SqT.of (g17 _ _ hu), atI_nat huk, ?_⟩
        refine ⟨c, r, rfl, b', row', ⟨c, r0, rfl, g17 _ _ hc, g17 _ _ hr0⟩, g17 _ _ hrr, _, rfl, ?_⟩
        rw [← et]
        refine ite2 (fun z => ?_) (fun z => go (by unfold dueI; rw [c1, Bool.eq_false_iff.mpr z]; rfl) _ g7)
        obtain ⟨a2, dg, gm⟩ := (gs.same g17).get mn
        refine ⟨_, rfl, _, rfl, _, rfl, c, _, 0, .str b'.1, rfl, rfl, SqT.of (g17 _ _ hc), rfl, D, _, rfl, dg, _, rfl, _, rfl, rw, us, _, .ref r, rfl, rfl, SqT.of (g17 _ _ hu), atI_nat huk, ?_⟩
        refine ⟨a2, r, rfl, g b'.1, row', gm, GG, g17 _ _ hrr, mr, fun H9 pw g9 hpw => ?_⟩
        have tz : decide ((row'.length : Int) % 2 = b'.2.1) = true := by rw [← et]; exact z
        have v1 : (val (g b'.1) row').1 = true := by
          have c2 := c1
          rw [eb] at c2
          unfold bestB at c2
          rw [tz] at c2
          exact of_decide_eq_true c2
        have ne := good_ne (GG.ok _ mr) v1
        obtain ⟨w0, hw0⟩ : ∃ w0, (goodOf (g b'.1) row')[0]? = some w0 := by
          cases hh : goodOf (g b'.1) row' with
          | nil => exact absurd hh ne
          | cons x l => exact ⟨x, rfl⟩
        have at0 : ((goodOf (g b'.1) row').map V.str)[0]? = some (.str w0) := by rw [List.getElem?_map, hw0]; rfl
        refine ⟨pw, _, 0, .str w0, rfl, rfl, SqT.of hpw, atI_nat at0, by show 2 ≤ PySem.sizeLine; decide, fun pt hpt => ?_⟩
        refine q _ (.ref pt) (g17.trans (g9.trans (same_new hpt))) ?_
        have ew : wordI g bs rows k = w0 := by
          unfold wordI
          rw [hbk, hrk]
          show ((goodOf (g b'.1) row')[0]?).getD _ = _
          rw [hw0]
          rfl
        have e : moveOf g bs rows = some (k, w0) := by
          unfold moveOf
          rw [hks, find_at hk no (by unfold dueI; rw [c1, et, tz]; rfl), ← ew]
          rfl
        rw [e]
        exact ⟨pt, rfl, upd_same⟩
    · rintro σ H7 ⟨v4, v5, v6, rfl, g7, no⟩
      refine q H7 .non (g16.trans g7) ?_
      have e : moveOf g bs rows = none := by
        unfold moveOf
        rw [hks, List.find?_eq_none.mpr fun y hy => by
          rw [no y (by rw [List.length_map, List.take_length]; exact hy)]
          exact Bool.false_ne_true]
        rfl
      rw [e]
      exact rfl
end
end K06
namespace K06
open PySem L2 Nm
open C8 (Cal Mak pe_c pe_mk pe_gc)
open RZ (ItzT pi_zipA)
def headV : List Str → V
  | [] => .non
  | w :: _ => .str w
section
variable {P : Program} {w : World} {K : PySem.W.Frag} {mg : Str → Option Value} {base : Heap}
def sp_told_answer (K : PySem.W.Frag) : Sp := fun vs H Q _ => ∃ (h0 D : Addr) (bd : Int) (r : Addr), vs = [.ref h0, .ref D, .int bd, .ref r] ∧ ∃ bs ys g row b k, bd = ((k : Nat) : Int) ∧ HallAt K H h0 bs ∧ (∀ b ∈ bs, okB b) ∧ bs.length ≤ 60 ∧ Names (bs.map (·.1)) ys ∧ GsAt H D ys g ∧ (∀ n ∈ ys, GoodG bs n (g n)) ∧ bs[k]? = some b ∧ H r = some (.tup (row.map V.str)) ∧ row ∈ g b.1 ∧ (row.length : Int) % 2 ≠ b.2.1 ∧
  ∀ H', Same H H' → Q (headV (goodOf (g b.1) row ++ wordsAt (g b.1) row)) H'
theorem c_told_answer (T : Txt K mg) : Cal P w K mg base 9 "told_answer" (sp_told_answer K) [] := by
  have C_check_games := c_check_games (P := P) (w := w) (base := base) T
  have C_good_words := c_good_words (P := P) (w := w) (base := base) T
  have C_is_row := c_is_row (P := P) (w := w) (base := base) T
  have C_is_turn := c_is_turn (P := P) (w := w) (base := base) T
  have C_is_within := c_is_within (P := P) (w := w) (base := base) T
  have C_let_words := c_let_words (P := P) (w := w) (base := base) T
  have sc := sc_told_answer
  refine cal_of T.d_told_answer sc (fun _ _ _ _ _ _ us hl => match us, hl with | [_, _, _, _], _ => rfl) (fun vs H Q E h => ?_) (fun f cdv A outer s H vs Q E hr h => ?_)
  · obtain ⟨h0, D, bd, r, rfl, _⟩ := h
    rfl
  · obtain ⟨h0, D, bd, r, rfl, h⟩ := h
    obtain ⟨bs, ys, g, row, b, k, rfl, hH, ok, l60, nm0, gs, good, hbk, hrw, mr, nt, q⟩ := h
    obtain ⟨C, dx, fs, a, nr, ys2, cl, nB, nN, hp, fb, fn, ⟨xs, ha, pr⟩, hn, nm⟩ := id hH
    have el : xs.length = bs.length := paired_len pr
    have ey : ys2 = ys := rise_one nm.rise nm0.rise fun z => by rw [nm.mem, nm0.mem]
    subst ey
    have lk : k < bs.length := (List.getElem?_eq_some_iff.mp hbk).1
    have mb := List.mem_of_getElem? hbk
    have mn : b.1 ∈ ys2 := (nm.mem _).mpr (List.mem_map.mpr ⟨b, mb, rfl⟩)
    have GG := (good _ mn).isG
    have hxk : xs[k]? = some (xs[k]'(by omega)) := List.getElem?_eq_getElem (by omega)
    generalize (xs[k]'(by omega)) = xk at hxk
    obtain ⟨b', hb', c, r0, rfl, hc, hr0⟩ := paired_at pr k _ hxk
    have e : b' = b := Option.some.inj (hb'.symm.trans hbk)
    subst e
    refine ⟨_, (pss_cons (ps_expr (pe_c C_check_games hr (by omega) rfl (pa_cons (pv 0) (pa_cons (pv 1) pa_nil))))
  (pss_cons (ps_if (pt_not (pt_val (pe_c C_is_within hr (by omega) rfl (pa_cons (pv 2) (pa_cons pe_int (pa_cons (pe_op op_sub (pe_callB (r := Nm.rLenS K) (id := "len") Nm.call_lenS rfl T.m_len (by decide +kernel) (pa_cons (pe_fld (pv 0) rfl) pa_nil)) pe_int) pa_nil)))))) (pss_one ps_never) pss_nil)
  (pss_cons (ps_set (i := 4) sc.nd rfl (Or.inl rfl) (pe_ix ix_tup (pe_ix ix_tup (pe_fld (pv 0) rfl) (pv 2) (fun _ _ => rfl)) pe_int (fun _ _ => rfl)))
  (pss_cons (ps_if (PW.pt (pw_or (pt_not (pt_val (pe_c C_is_row hr (by omega) rfl (pa_cons (pv 3) pa_nil)))) (pw_or (pt_cmpR (Nm.op_notInT (u65 hr)) (pv 3) (pe_dget (hu_of hr) (pv 1) (pv 4) (fun _ _ => rfl)) rfl) (pw_or1 (pt_val (pe_c C_is_turn hr (by omega) rfl (pa_cons (pe_ix ix_tup (pe_fld (pv 0) rfl) (pv 2) (fun _ _ => rfl)) (pa_cons (pv 3) pa_nil)))))))) (pss_one ps_never) pss_nil)
  (pss_cons (ps_set (i := 5) sc.nd rfl (Or.inl rfl) (pe_orT (pe_c C_good_words hr (by omega) rfl (pa_cons (pe_dget (hu_of hr) (pv 1) (pv 4) (fun _ _ => rfl)) (pa_cons (pv 3) pa_nil))) (pe_one (pe_c C_let_words hr (by omega) rfl (pa_cons (pe_dget (hu_of hr) (pv 1) (pv 4) (fun _ _ => rfl)) (pa_cons (pv 3) pa_nil))))))
  (pss_one (ps_ret (pe_ifExp (pt_truth (pv 5) (fun _ => rfl)) (pe_ix ix_tup (pv 5) pe_int (fun _ _ => rfl)) pe_non)))))))), ?_⟩
    refine ⟨_, rfl, _, rfl, h0, D, rfl, bs, ys2, g, hH, ok, l60, nm, gs, good, fun H1 g1 => ?_⟩
    refine ⟨_, rfl, _, rfl, h0, C, dx, fs, _, rfl, g1 _ _ hp, cl, nB, fb, a, _, rfl, .inr (SqT.of (g1 _ _ ha)), _, _, rfl, rfl, ?_⟩
    refine ⟨.int (k : Nat), _, _, rfl, tyi_int _, ?_⟩
    have wi : within (.int ((k : Nat) : Int)) 0 ((((xs.length : Nat) : Int)) - 1) = true := by
      show (decide ((0 : Int) ≤ (k : Int)) && decide ((k : Int) ≤ (xs.length : Int) - 1)) = true
      rw [decide_eq_true (by omega), decide_eq_true (by omega)]
      rfl
    rw [wi]
    refine ⟨true, rfl, iteF ?_⟩
    refine ⟨_, rfl, h0, C, dx, fs, _, rfl, g1 _ _ hp, cl, nB, fb, _, rfl, a, xs, _, .ref c, rfl, rfl, SqT.of (g1 _ _ ha), atI_nat hxk, c, _, 0, .str b'.1, rfl, rfl, SqT.of (g1 _ _ hc), rfl, ?_⟩
    refine ⟨_, rfl, r, row, rfl, g1 _ _ hrw, GG.ok _ mr, fun H2 g2 => ⟨true, rfl, iteF ?_⟩⟩
    have g12 := g1.trans g2
    obtain ⟨a2, dg, gm⟩ := (gs.same g12).get mn
    refine ⟨_, rfl, _, rfl, _, rfl, D, _, rfl, dg, rowD row, (g b'.1).map rowD, dp_row (g12 _ _ hrw), dp_game gm, shaped_rw (GG.ok _ mr).2, shaped_game fun z hz => (GG.ok z hz).2, ?_⟩
    rw [any_row, decide_eq_true mr]
    refine ⟨false, rfl, iteF ?_⟩
    refine ⟨_, rfl, h0, C, dx, fs, _, rfl, g12 _ _ hp, cl, nB, fb, _, rfl, a, xs, _, .ref c, rfl, rfl, SqT.of (g12 _ _ ha), atI_nat hxk, _, rfl, c, r, rfl, b', row, ⟨c, r0, rfl, g12 _ _ hc, g12 _ _ hr0⟩, g12 _ _ hrw, _, rfl, ?_⟩
    rw [decide_eq_false nt]
    refine iteF ?_
    refine ⟨_, rfl, _, rfl, D, _, rfl, dg, _, rfl, a2, r, rfl, g b'.1, row, gm, GG, g12 _ _ hrw, mr, fun H3 pg g3 hpg => ?_⟩
    have g13 := g12.trans g3
    refine ⟨!((goodOf (g b'.1) row).map V.str).isEmpty, .inr (.inl ⟨_, SqT.of hpg, rfl⟩), ?_⟩
    cases cg : goodOf (g b'.1) row with
    | cons w0 ws0 =>
      rw [cg] at hpg q
      refine iteT ?_
      refine ⟨_, rfl, true, .inr (.inl ⟨_, SqT.of hpg, rfl⟩), ?_⟩
      refine iteT ⟨_, rfl, pg, _, 0, .str w0, rfl, rfl, SqT.of hpg, atI_nat (j := 0) rfl, ?_⟩
      exact q H3 g13
    | nil =>
      rw [cg, List.nil_append] at q
      refine iteF ?_
      obtain ⟨a3, dg3, gm3⟩ := (gs.same g13).get mn
      refine ⟨_, rfl, _, rfl, D, _, rfl, dg3, _, rfl, a3, r, rfl, g b'.1, row, gm3, GG, g13 _ _ hrw, mr, fun pl H4 g4 hpl => ?_⟩
      cases cw : wordsAt (g b'.1) row with
      | cons w0 ws0 =>
        rw [cw] at hpl q
        refine ⟨_, rfl, true, .inr (.inl ⟨_, SqT.of hpl, rfl⟩), ?_⟩
        refine iteT ⟨_, rfl, pl, _, 0, .str w0, rfl, rfl, SqT.of hpl, atI_nat (j := 0) rfl, ?_⟩
        exact q H4 (g13.trans g4)
      | nil =>
        rw [cw] at hpl q
        refine ⟨_, rfl, false, .inr (.inl ⟨_, SqT.of hpl, rfl⟩), ?_⟩
        exact iteF (q H4 (g13.trans g4))
end
end K06
namespace K06
open PySem L2 Nm
open C8 (Cal Mak pe_c pe_mk pe_gc)
open RZ (ItzT pi_zipA)
section
variable {P : Program} {w : World} {K : PySem.W.Frag} {mg : Str → Option Value} {base : Heap}
def sp__law_shuffled (K : PySem.W.Frag) : Sp := fun vs H Q _ => ∃ (tp p : Addr), vs = [.ref tp, .ref p] ∧ ∃ l xs, TapeAt H tp l ∧ H p = some (.lst xs) ∧ xs.length ≤ 1000 ∧ ∀ (r : Addr) (ys : List V) (H' : Hp), H' r = some (.lst ys) → (∀ y ∈ ys, y ∈ xs) → ys.length ≤ 1000 → TapeAt H' tp l → Mov tp H H' → Q (.ref r) H'
theorem c__law_shuffled (T : Txt K mg) : Cal P w K mg base 2 "_law_shuffled" (sp__law_shuffled K) [] := by
  have C__law_pick := c__law_pick (P := P) (w := w) (base := base) T
  have sc := sc__law_shuffled
  refine cal_of T.d__law_shuffled sc (fun _ _ _ _ _ _ us hl => match us, hl with | [_, _], _ => rfl) (fun vs H Q E h => ?_) (fun f cdv A outer s H vs Q E hr h => ?_)
  · obtain ⟨tp, p, rfl, _⟩ := h
    rfl
  · obtain ⟨tp, p, rfl, h⟩ := h
    refine ⟨_, (pss_cons (ps_set (i := 2) sc.nd rfl (Or.inl rfl) (pe_callTy call_list_of rfl T.m_list (by decide +kernel) (pa_cons (pv 1) pa_nil)))
  (pss_cons (ps_set (i := 3) sc.nd rfl (Or.inl rfl) (pe_lst pa_nil))
  (pss_cons (ps_for PassesOwn.never rfl (pi_range1 rfl T.m_range (pa_cons (pe_callB (r := Nm.rLenS K) (id := "len") Nm.call_lenS rfl T.m_len (by decide +kernel) (pa_cons (pv 2) pa_nil)) pa_nil)) (pg_name (i := 4) sc.nd rfl (Or.inl rfl)) (pss_one (ps_expr (pe_bm PySem.F.plainAttrs_list PySem.F.slot_list_append PySem.F.type_list_append mt_append (pv 3) (pa_cons (pe_bm PySem.F.plainAttrs_list PySem.F.slot_list_pop PySem.F.type_list_pop mt_popAt (pv 2) (pa_cons (pe_c C__law_pick hr (by omega) rfl (pa_cons (pv 0) (pa_cons (pe_callB (r := Nm.rLenS K) (id := "len") Nm.call_lenS rfl T.m_len (by decide +kernel) (pa_cons (pv 2) pa_nil)) pa_nil))) pa_nil)) pa_nil)))))
  (pss_one (ps_ret (pv 3)))))), ?_⟩
    obtain ⟨l, xs, t0, hp, few, q⟩ := h
    have big : (1000 : Nat) < PySem.sizeLine := by decide
    refine ⟨_, rfl, p, xs, rfl, .inl (SqL.of hp), fun L hL => ⟨Nat.zero_le _, fun F hF => ?_⟩⟩
    have nL := t0.new hL
    have hF0 : H F = none := by
      cases e : H F with
      | none => rfl
      | some o => rw [same_new hL _ _ e] at hF; cases hF
    have nF := t0.new hF0
    have FL : F ≠ L := fun e => by rw [e, upd_same] at hF; cases hF
    have hL1 : upd (upd H L (.lst xs)) F (.lst []) L = some (.lst xs) := same_new hF _ _ upd_same
    refine ⟨_, rfl, L, xs, rfl, .inl (SqL.of hL1), xs.length, rfl, by omega, by omega, ?_⟩
    refine for_it (walk_range (lo := 0) (n := ((xs.length : Nat) : Int).toNat)) (fun i σ H1 => ∃ (v4 : Option V) (left found : List V), σ = [some (.ref tp), some (.ref p), some (.ref L), some (.ref F), v4] ∧ H1 L = some (.lst left) ∧ H1 F = some (.lst found) ∧ left.length + i = xs.length ∧ found.length = i ∧ (∀ y ∈ left, y ∈ xs) ∧ (∀ y ∈ found, y ∈ xs) ∧ TapeAt H1 tp l ∧ Mov tp H H1)
      ⟨none, xs, [], rfl, hL1, upd_same, rfl, rfl, fun y h => h, fun y h => absurd h (List.not_mem_nil), (t0.upd nL).upd nF, mov_mut (mov_mut (Mov.refl _ _) hL) hF0⟩ (fun _ _ _ _ _ => trivial) ?_ ?_
    · rintro i y σ H1 H2 hi ⟨v4, left, found, rfl, hl1, hf1, el, ef, ml, mf, t1, mv1⟩ ⟨rfl, hy⟩
      have hi' : i < xs.length := by simpa using hi
      refine ⟨_, rfl, .inl ⟨rfl, _, SqL.of hf1⟩, ?_⟩
      refine ⟨_, rfl, .inl ⟨rfl, _, SqL.of hl1⟩, ?_⟩
      refine ⟨_, rfl, _, rfl, L, left, rfl, .inl (SqL.of hl1), tp, _, rfl, l, t1, by omega, by omega, fun r H3 r0 r1 t3 mv3 => ?_⟩
      obtain ⟨k, rfl⟩ : ∃ k : Nat, r = (k : Int) := ⟨r.toNat, by omega⟩
      have kl : k < left.length := by omega
      have hk : left[k]? = some left[k] := List.getElem?_eq_getElem kl
      have hl3 := mv3 _ _ hl1 nL.1
      have hf3 := mv3 _ _ hf1 nF.1
      have sq : seqIndex? (k : Int) left.length = some k := by
        unfold seqIndex?
        simp
        omega
      refine ⟨L, left, _, k, left[k], rfl, rfl, hl3, by omega, by omega, sq, hk, ?_⟩
      refine ⟨F, found, left[k], rfl, rfl, by rw [upd_ne FL]; exact hf3, by omega, ?_⟩
      refine ⟨_, left.eraseIdx k, found ++ [left[k]], rfl, by rw [upd_ne FL.symm]; exact upd_same, upd_same, ?_, by rw [List.length_append, ef]; rfl, fun y hy => ml y (List.mem_of_mem_eraseIdx hy), fun y hy => ?_, (t3.upd nL).upd nF, mov_mut (mov_mut (mv1.trans mv3) hL) hF0⟩
      · rw [List.length_eraseIdx, if_pos kl]
        omega
      · rcases List.mem_append.mp hy with z | z
        · exact mf y z
        · rw [List.mem_singleton.mp z]
          exact ml _ (List.getElem_mem kl)
    · rintro σ H1 ⟨v4, left, found, rfl, hl1, hf1, el, ef, ml, mf, t1, mv1⟩
      exact ⟨_, rfl, q F found H1 hf1 mf (by omega) t1 mv1⟩
end
end K06
namespace K06
open PySem L2 Nm
open C8 (Cal Mak pe_c pe_mk pe_gc)
open RZ (ItzT pi_zipA)
theorem good_eq (rs : List (List Str)) (row : List Str) : ((wordsAt rs row).filter fun w => decide ((rc rs (row ++ [w])).1 = (row.length : Int) % 2)) = goodOf rs row := by
  unfold goodOf
  rw [nexts_words, List.filter_map, List.map_map]
  have e1 : (lastW ∘ fun w => row ++ [w]) = id := funext fun w => lastW_snoc row w
  rw [e1, List.map_id]
  refine List.filter_congr fun w hw => ?_
  exact rc_side (mem_nexts.mpr ⟨mem_words.mp hw, w, rfl⟩)
section
variable {P : Program} {w : World} {K : PySem.W.Frag} {mg : Str → Option Value} {base : Heap}
def sp__law_good (K : PySem.W.Frag) : Sp := fun vs H Q _ => ∃ (a D r : Addr), vs = [.ref a, .ref D, .ref r] ∧ ∃ rs row, GmAt H a rs ∧ IsG rs ∧ rs.length < 64 ∧ RsAt H D rs ∧ H r = some (.tup (row.map V.str)) ∧ row ∈ rs ∧ ∀ H' p, Same H H' → H' p = some (.lst ((goodOf rs row).map V.str)) → Q (.ref p) H'
theorem c__law_good (T : Txt K mg) : Cal P w K mg base 3 "_law_good" (sp__law_good K) [] := by
  have C__law_words := c__law_words (P := P) (w := w) (base := base) T
  have sc := sc__law_good
  refine cal_of T.d__law_good sc (fun _ _ _ _ _ _ us hl => match us, hl with | [_, _, _], _ => rfl) (fun vs H Q E h => ?_) (fun f cdv A outer s H vs Q E hr h => ?_)
  · obtain ⟨a, D, r, rfl, _⟩ := h
    rfl
  · obtain ⟨a, D, r, rfl, h⟩ := h
    refine ⟨_, (pss_one (ps_ret (pe_lc (own := [("word", 3)]) (g := gName 3) rfl sc.nd (pi_list (pe_c C__law_words hr (by omega) rfl (pa_cons (pv 0) (pa_cons (pv 2) pa_nil)))) (blkOk_by (own := [("word", 3)]) (N := ["game", "results", "row", "word"]) (sc := defScope s__law_good) (by decide +kernel)) (fun _ _ _ _ _ => (pg_name (i := 3) sc.nd rfl (Or.inl rfl))) (fun _ _ _ _ _ => (pts_one (pt_cmpR op_eq (pe_ix (r := rIxT K) ix_tup (pe_dget (hu_of hr) (pv 1) (pe_op (r := rCatA K) op_catA (pv 2) (pe_tup (pa_cons (pv 3) pa_nil))) (fun _ _ => rfl)) pe_int (fun _ _ => rfl)) (pe_op op_mod (pe_callB (r := Nm.rLenS K) (id := "len") Nm.call_lenS rfl T.m_len (by decide +kernel) (pa_cons (pv 2) pa_nil)) pe_int) (nomark _)))) (fun _ _ _ _ _ => (pv 3))))), ?_⟩
    obtain ⟨rs, row, gm, G, few, ⟨ents, hD, vals⟩, hr', mr, q⟩ := h
    have rok := G.ok row mr
    refine ⟨_, rfl, _, rfl, a, r, rfl, rs, row, gm, G, hr', rok.2, few, fun pw H1 g1 hpw => ?_⟩
    have lw : (wordsAt rs row).length ≤ 64 := by
      have e := congrArg List.length (nexts_words rs row)
      rw [List.length_map] at e
      have := List.length_filter_le (isNext row) rs
      unfold nexts at e
      omega
    refine ⟨pw, rfl, ⟨_, SqL.of hpw⟩, fun D3 hD3 => ?_⟩
    refine lcS (walk_list (K := K) (a := pw) (xs := (wordsAt rs row).map V.str)) stays_str (wordsAt rs row) (fun w => decide ((rc rs (row ++ [w])).1 = (row.length : Int) % 2)) (fun w => w) (List.length_map ..) (by omega) (fun H11 g11 => SqL.of (g11 _ _ hpw)) hD3 ?_ ?_
    · rintro j2 x2 w H11 H12 Nx hw ⟨rfl, hx2⟩ sm no yes
      rw [List.getElem?_map, hw] at hx2
      cases hx2
      have mn : row ++ [w] ∈ rs := mem_words.mp (List.mem_of_getElem? hw)
      obtain ⟨yv, hyv, rv, rfl, hrv⟩ := vals _ mn
      have s11 := g1.trans sm
      refine ⟨rfl, ?_⟩
      refine ⟨_, rfl, _, rfl, _, rfl, (by show 1 ≤ PySem.sizeLine; decide), fun c hc => ?_⟩
      have gc := same_new (o := .tup [V.str w]) hc
      refine cat_tups (gc _ _ (s11 _ _ hr')) upd_same (by rw [List.length_map]; have := rok.1; show row.length + 1 ≤ 4000; omega) fun b H13 g13 hb => ?_
      have hb' : H13 b = some (.tup ((keyRow (row ++ [w])).map kV)) := by
        rw [kV_row, List.map_append]
        exact hb
      have s13 := s11.trans (gc.trans g13)
      refine ⟨D, .ref rv, rfl, hyv ▸ DGet.t (s13 _ _ hD) hb', rv, _, 0, .int (rc rs (row ++ [w])).1, rfl, rfl, SqT.of (s13 _ _ hrv), rfl, ?_⟩
      refine ⟨_, rfl, r, _, rfl, .inr (SqT.of (s13 _ _ hr')), _, 2, rfl, rfl, (by show (0 : Int) < 2; decide), rfl, _, rfl, ?_⟩
      rw [List.length_map, decI]
      cases c : decide ((rc rs (row ++ [w])).1 = (row.length : Int) % 2) with
      | true => exact iteT ⟨_, rfl, yes c _ _ (gc.trans g13) rfl⟩
      | false => exact iteF (no c _ (gc.trans g13))
    · intro H11 g11 l11
      rw [List.map_id'] at l11
      have hB := lst_str l11
      rw [good_eq] at hB
      exact q _ D3 (g1.trans g11) hB
end
end K06
namespace K06
open PySem L2 Nm
open C8 (Cal Mak pe_c pe_mk pe_gc)
open RZ (ItzT pi_zipA)
/-- for each name what the law tells of the rows of its game -/
def RnAt (g : Str → List (List Str)) (H : Hp) (y : V) (n : Str) : Prop := ∃ D, y = .ref D ∧ RsAt H D (g n)
section
variable {P : Program} {w : World} {K : PySem.W.Frag} {mg : Str → Option Value} {base : Heap}
def sp__law_due_move (K : PySem.W.Frag) : Sp := fun vs H Q _ => ∃ (ba D R wn rw : Addr), vs = [.ref ba, .ref D, .ref R, .ref wn, .ref rw] ∧ ∃ bs ys g rows, BoardsAt H ba bs ∧ (∀ b ∈ bs, okB b) ∧ bs.length ≤ 60 ∧ Names (bs.map (·.1)) ys ∧ GsAt H D ys g ∧ NdAt (RnAt g) H R ys ∧ (∀ n ∈ ys, GoodG bs n (g n)) ∧ H wn = some (.lst (numsV (bestAt g bs (bs.map (·.2.2))))) ∧ LstOf RwAt H rw rows ∧ RowsOk g bs rows ∧
  ∀ H' v, Same H H' → MvAt H' v (moveOf g bs rows) → Q v H'
theorem c__law_due_move (T : Txt K mg) : Cal P w K mg base 4 "_law_due_move" (sp__law_due_move K) [] := by
  have C__law_good := c__law_good (P := P) (w := w) (base := base) T
  have sc := sc__law_due_move
  refine cal_of T.d__law_due_move sc (fun _ _ _ _ _ _ us hl => match us, hl with | [_, _, _, _, _], _ => rfl) (fun vs H Q E h => ?_) (fun f cdv A outer s H vs Q E hr h => ?_)
  · obtain ⟨ba, D, R, wn, rw, rfl, _⟩ := h
    rfl
  · obtain ⟨ba, D, R, wn, rw, rfl, h⟩ := h
    obtain ⟨bs, ys, g, rows, ⟨xs, ha, pr⟩, ok, l60, nm, gs, rss, good, hwn, ⟨us, hu, pu⟩, R0, q⟩ := h
    have el : xs.length = bs.length := paired_len pr
    have eu : us.length = rows.length := paired_len pu
    have lr := R0.len
    refine ⟨_, (pss_cons (ps_for PassesOwn.never rfl (pi_list (pv 3)) (pg_name (i := 5) sc.nd rfl (Or.inl rfl)) (pss_cons (ps_asg (pe_ix ix_tup (pv 0) (pv 5) (fun _ _ => rfl)) (pg_tup rfl (pgs_cons (pg_name (i := 6) sc.nd rfl (Or.inl rfl)) (pgs_cons (pg_name (i := 7) sc.nd rfl (Or.inl rfl)) (pgs_cons (pg_name (i := 8) sc.nd rfl (Or.inl rfl)) pgs_nil)))))
  (pss_cons (ps_set (i := 9) sc.nd rfl (Or.inl rfl) (pe_ix ix_list (pv 4) (pv 5) (fun _ _ => rfl)))
  (pss_one (ps_if (PW.pt (pw_and (pt_cmpR op_eq (pe_op op_mod (pe_callB (r := Nm.rLenS K) (id := "len") Nm.call_lenS rfl T.m_len (by decide +kernel) (pa_cons (pv 9) pa_nil)) pe_int) (pv 7) (nomark _)) (pw_and1 (pt_cmpR op_eq (pe_ix ix_tup (pe_dget (hu_of hr) (pe_dget (hu_of hr) (pv 2) (pv 6) (fun _ _ => rfl)) (pv 9) (fun _ _ => rfl)) pe_int (fun _ _ => rfl)) (pv 7) (nomark _))))) (pss_one (ps_ret (pe_tup (pa_cons (pv 5) (pa_cons (pe_ix ix_list (pe_c C__law_good hr (by omega) rfl (pa_cons (pe_dget (hu_of hr) (pv 1) (pv 6) (fun _ _ => rfl)) (pa_cons (pe_dget (hu_of hr) (pv 2) (pv 6) (fun _ _ => rfl)) (pa_cons (pv 9) pa_nil)))) pe_int (fun _ _ => rfl)) pa_nil))))) pss_nil)))))
  (pss_one (ps_ret pe_non))), ?_⟩
    generalize hks : bestAt g bs (bs.map (·.2.2)) = ks at hwn
    have mk : ∀ i ∈ ks, i < bs.length := fun i hi => by
      rw [← hks] at hi
      exact (bestAt_mem.mp hi).1
    refine ⟨_, rfl, wn, rfl, ⟨_, SqL.of hwn⟩, ?_⟩
    refine for_it (walk_list (K := K) (a := wn) (xs := numsV ks)) (fun i σ H7 => ∃ v5 v6 v7 v8 v9, σ = [some (.ref ba), some (.ref D), some (.ref R), some (.ref wn), some (.ref rw), v5, v6, v7, v8, v9] ∧ Same H H7 ∧ ∀ y ∈ ks.take i, dueI g bs rows y = false) ⟨none, none, none, none, none, rfl, Same.refl _, fun y hy => absurd hy (List.not_mem_nil)⟩ (fun i σ H7 _ ⟨_, _, _, _, _, _, g, _⟩ => SqL.of (g _ _ hwn)) ?_ ?_
    rotate_left
    · rintro σ H7 ⟨v5, v6, v7, v8, v9, rfl, g7, no⟩
      refine q H7 .non g7 ?_
      have e : moveOf g bs rows = none := by
        unfold moveOf
        rw [hks, List.find?_eq_none.mpr fun y hy => by
          rw [no y (by rw [List.length_map, List.take_length]; exact hy)]
          exact Bool.false_ne_true]
        rfl
      rw [e]
      exact rfl
    rintro i y σ H7 H8 hi ⟨v5, v6, v7, v8, v9, rfl, g7, no⟩ ⟨rfl, hy⟩
    obtain ⟨k, hk, rfl⟩ := map_at hy
    have lk := mk k (List.mem_of_getElem? hk)
    have hbk : bs[k]? = some bs[k] := List.getElem?_eq_getElem lk
    have hrk : rows[k]? = some (rows[k]'(by omega)) := List.getElem?_eq_getElem (by omega)
    have hxk : xs[k]? = some (xs[k]'(by omega)) := List.getElem?_eq_getElem (by omega)
    have huk : us[k]? = some (us[k]'(by omega)) := List.getElem?_eq_getElem (by omega)
    generalize bs[k] = b at hbk
    generalize (rows[k]'(by omega)) = row at hrk
    generalize (xs[k]'(by omega)) = xk at hxk
    generalize (us[k]'(by omega)) = uk at huk
    obtain ⟨b', hb', c, r0, rfl, hc, hr0⟩ := paired_at pr k _ hxk
    have e : b' = b := Option.some.inj (hb'.symm.trans hbk)
    subst e
    obtain ⟨row', hr', r, rfl, hrr⟩ := paired_at pu k _ huk
    have e : row' = row := Option.some.inj (hr'.symm.trans hrk)
    subst e
    have mb := List.mem_of_getElem? hb'
    have mn : b'.1 ∈ ys := (nm.mem _).mpr (List.mem_map.mpr ⟨b', mb, rfl⟩)
    have mr := R0.inn k _ _ hb' hr'
    have GG := good _ mn
    have eb : bestI g bs rows k = bestB g b' row' := by
      unfold bestI
      rw [hbk, hrk]
    have et : turnI bs rows k = decide ((row'.length : Int) % 2 = b'.2.1) := by
      unfold turnI
      rw [hbk, hrk]
    refine ⟨_, rfl, _, rfl, ba, xs, _, .ref c, rfl, rfl, SqT.of (g7 _ _ ha), atI_nat hxk, ?_⟩
    refine ⟨c, _, rfl, SqT.of (g7 _ _ hc), rfl, _, _, rfl, _, _, rfl, _, _, rfl, rfl, ?_⟩
    refine ⟨_, rfl, _, rfl, rw, us, _, .ref r, rfl, rfl, SqL.of (g7 _ _ hu), atI_nat huk, ?_⟩
    have go : dueI g bs rows k = false → ∀ H9, Same H H9 → ∃ a5 a6 a7 a8 a9, [some (V.ref ba), some (.ref D), some (.ref R), some (.ref wn), some (.ref rw), some (.int (Int.ofNat k)), some (.str b'.1), some (.int b'.2.1), some (.ref r0), some (.ref r)] = [some (V.ref ba), some (.ref D), some (.ref R), some (.ref wn), some (.ref rw), a5, a6, a7, a8, a9] ∧ Same H H9 ∧ ∀ y ∈ ks.take (i + 1), dueI g bs rows y = false := fun dd H9 g9 => by
      refine ⟨_, _, _, _, _, rfl, g9, fun y hy => ?_⟩
      rw [take_one hk, List.mem_append, List.mem_singleton] at hy
      rcases hy with hy | hy
      · exact no y hy
      · rw [hy]
        exact dd
    have hr7 := g7 _ _ hrr
    refine ⟨_, rfl, r, _, rfl, .inr (SqT.of hr7), _, 2, rfl, rfl, (by show (0 : Int) < 2; decide), _, rfl, rfl, _, rfl, ?_⟩
    rw [List.length_map, decI, ← et]
    cases tz : turnI bs rows k with
    | false => exact iteF (go (by unfold dueI; rw [tz, Bool.and_false]) _ g7)
    | true =>
      rw [tz] at et
      have hside : (row'.length : Int) % 2 = b'.2.1 := of_decide_eq_true et.symm
      obtain ⟨kvs, hR, hkR, hvR⟩ := id rss
      obtain ⟨y1, ey1, E1, rfl, ents, hE, vals⟩ := hvR _ mn
      obtain ⟨yv, hyv, rv, rfl, hrv⟩ := vals _ mr
      refine iteT ⟨_, rfl, _, rfl, R, _, rfl, ey1 ▸ DGet.k (k := .inr b'.1) (g7 _ _ hR), _, rfl, E1, .ref rv, rfl, hyv ▸ DGet.t (g7 _ _ hE) (kvR hr7), rv, _, 0, .int (rc (g b'.1) row').1, rfl, rfl, SqT.of (g7 _ _ hrv), rfl, _, rfl, rfl, _, rfl, ?_⟩
      have ew : decide (V.int (rc (g b'.1) row').1 = V.int b'.2.1) = bestI g bs rows k := by
        rw [decI, eb]
        unfold bestB rc winS
        rw [← et]
        cases v : (val (g b'.1) row').1 with
        | true =>
          rw [if_pos rfl, decide_eq_true hside]
          rfl
        | false =>
          rw [if_neg Bool.false_ne_true, decide_eq_false (by omega)]
          rfl
      rw [ew]
      cases c1 : bestI g bs rows k with
      | false => exact iteF (go (by unfold dueI; rw [c1, Bool.false_and]) _ g7)
      | true =>
        obtain ⟨a2, dg, gm⟩ := (gs.same g7).get mn
        refine iteT ⟨_, rfl, _, rfl, _, rfl, D, _, rfl, dg, _, rfl, _, rfl, R, _, rfl, ey1 ▸ DGet.k (k := .inr b'.1) (g7 _ _ hR), _, rfl, ?_⟩
        refine ⟨a2, E1, r, rfl, g b'.1, row', gm, GG.isG, GG.few, ⟨ents, g7 _ _ hE, fun z hz => (vals z hz).elim fun y h => ⟨y, h.1, stays_rc _ _ _ _ (tups_same g7) h.2⟩⟩, hr7, mr, fun H9 pw g9 hpw => ?_⟩
        have v1 : (val (g b'.1) row').1 = true := by
          have c2 := c1
          rw [eb] at c2
          unfold bestB at c2
          rw [← et] at c2
          exact of_decide_eq_true c2
        have ne := good_ne (GG.isG.ok _ mr) v1
        obtain ⟨w0, hw0⟩ : ∃ w0, (goodOf (g b'.1) row')[0]? = some w0 := by
          cases hh : goodOf (g b'.1) row' with
          | nil => exact absurd hh ne
          | cons x l => exact ⟨x, rfl⟩
        have at0 : ((goodOf (g b'.1) row').map V.str)[0]? = some (.str w0) := by rw [List.getElem?_map, hw0]; rfl
        refine ⟨pw, _, 0, .str w0, rfl, rfl, SqL.of hpw, atI_nat at0, by show 2 ≤ PySem.sizeLine; decide, fun pt hpt => ?_⟩
        refine q _ (.ref pt) (g7.trans (g9.trans (same_new hpt))) ?_
        have ew : wordI g bs rows k = w0 := by
          unfold wordI
          rw [hbk, hrk]
          show ((goodOf (g b'.1) row')[0]?).getD _ = _
          rw [hw0]
          rfl
        have e : moveOf g bs rows = some (k, w0) := by
          unfold moveOf
          rw [hks, find_at hk no (by unfold dueI; rw [c1, tz]; rfl), ← ew]
          rfl
        rw [e]
        exact ⟨pt, rfl, upd_same⟩
end
end K06
namespace K06
open PySem L2 Nm
open C8 (Cal Mak pe_c pe_mk pe_gc)
open RZ (ItzT pi_zipA)
theorem kit_tl_tup {K : PySem.W.Frag} : PySem.W.kitAny K (.type "tuple") [.type "tuple", .type "list"] = some true := kitAny_cons (b := true) (kit_ty (by decide +kernel)) (fun z => absurd z (by decide)) (fun _ => rfl)
theorem kit_tl_lst {K : PySem.W.Frag} : PySem.W.kitAny K (.type "list") [.type "tuple", .type "list"] = some true := kitAny_cons (b := false) (kit_ty (by decide +kernel)) (fun _ => kitAny_cons (b := true) (kit_ty (by decide +kernel)) (fun z => absurd z (by decide)) (fun _ => rfl)) (fun z => absurd z (by decide))
theorem kit_tl_int {K : PySem.W.Frag} : PySem.W.kitAny K (.type "int") [.type "tuple", .type "list"] = some false := kitAny_cons (b := false) (kit_ty (by decide +kernel)) (fun _ => kitAny_cons (b := false) (kit_ty (by decide +kernel)) (fun _ => kitAny_nil) (fun z => absurd z (by decide))) (fun z => absurd z (by decide))
theorem zip_all {α : Type} [DecidableEq α] : ∀ {ps qs : List α}, ps.length = qs.length → ((ps.zip qs).map (fun z => decide (z.1 = z.2))).all id = decide (ps = qs)
  | [], [], _ => by simp
  | [], _ :: _, h => by simp at h
  | _ :: _, [], h => by simp at h
  | p :: ps, q :: qs, h => by
    have ih := zip_all (ps := ps) (qs := qs) (by simpa using h)
    rw [List.zip_cons_cons, List.map_cons, List.all_cons, ih]
    by_cases h1 : p = q <;> by_cases h2 : ps = qs <;> simp [h1, h2]
section
variable {P : Program} {w : World} {K : PySem.W.Frag} {mg : Str → Option Value} {base : Heap}
/-- two things that are told by one word each -/
def sp_isR {α : Type} [DecidableEq α] (R : Hp → V → α → Prop) : Sp := fun vs H Q _ => ∃ (x y : V), vs = [x, y] ∧ ∃ p q, R H x p ∧ R H y q ∧ ∀ H', Same H H' → Q (.bl (decide (p = q))) H'
/-- two tuples, or two lists, of such things -/
def sp_isS {α : Type} [DecidableEq α] (tup : Bool) (R : Hp → V → α → Prop) : Sp := fun vs H Q _ => ∃ (a b : Addr), vs = [.ref a, .ref b] ∧ ∃ xs ys ps qs, (if tup = true then H a = some (.tup xs) ∧ H b = some (.tup ys) else H a = some (.lst xs) ∧ H b = some (.lst ys)) ∧ Paired (R H) xs ps ∧ Paired (R H) ys qs ∧ xs.length ≤ 4000 ∧
  ∀ H', Same H H' → Q (.bl (decide (ps = qs))) H'
theorem kit_tl_str {K : PySem.W.Frag} : PySem.W.kitAny K (.type "str") [.type "tuple", .type "list"] = some false := kitAny_cons (b := false) (kit_ty (by decide +kernel)) (fun _ => kitAny_cons (b := false) (kit_ty (by decide +kernel)) (fun _ => kitAny_nil) (fun z => absurd z (by decide))) (fun z => absurd z (by decide))
theorem kit_tl_non {K : PySem.W.Frag} : PySem.W.kitAny K (.type "NoneType") [.type "tuple", .type "list"] = some false := kitAny_cons (b := false) (kit_ty (by decide +kernel)) (fun _ => kitAny_cons (b := false) (kit_ty (by decide +kernel)) (fun _ => kitAny_nil) (fun z => absurd z (by decide))) (fun z => absurd z (by decide))
/-- a number, a text or None -/
def atomB : V → Bool
  | .non => true
  | .int _ => true
  | .str _ => true
  | _ => false
def AtV (_ : Hp) (x : V) (p : V) : Prop := x = p ∧ atomB p = true
theorem atom_ty {K : PySem.W.Frag} {H : Hp} : ∀ {x : V}, atomB x = true → ∃ t, TyOf K H x t ∧ PySem.W.kitAny K t [.type "tuple", .type "list"] = some false ∧ PySem.W.kitOne K t (.type "bool") = some false
  | .non, _ => ⟨_, .non, kit_tl_non, kit_ty (by decide +kernel)⟩
  | .int i, _ => ⟨_, .int i, kit_tl_int, kit_ty (by decide +kernel)⟩
  | .str z, _ => ⟨_, .str z, kit_tl_str, kit_ty (by decide +kernel)⟩
theorem atom_scal : ∀ {x y : V}, atomB x = true → atomB y = true → scal x y = true
  | .non, .non, _, _ => rfl
  | .non, .int _, _, _ => rfl
  | .non, .str _, _, _ => rfl
  | .int _, .non, _, _ => rfl
  | .int _, .int _, _, _ => rfl
  | .int _, .str _, _, _ => rfl
  | .str _, .non, _, _ => rfl
  | .str _, .int _, _, _ => rfl
  | .str _, .str _, _, _ => rfl
theorem c_isl_atom (T : Txt K mg) : Cal P w K mg base 1 "_law_is" (sp_isR AtV) [] := by
  have C__law_is : Cal P w K mg base 0 "_law_is" (fun _ _ _ _ => False) [] := cal_void T.d__law_is (ps := ["told", "due"]) (fun _ _ _ _ _ _ us hl => match us, hl with | [_, _], _ => rfl) fun vs H Q E h => h
  have sc := sc__law_is
  refine cal_of (k := 0) T.d__law_is sc (fun _ _ _ _ _ _ us hl => match us, hl with | [_, _], _ => rfl) (fun vs H Q E h => ?_) (fun f cdv A outer s H vs Q E hr h => ?_)
  · obtain ⟨x, y, rfl, _⟩ := h
    rfl
  · obtain ⟨x, y, rfl, p, p', ⟨rfl, ap⟩, ⟨rfl, ap'⟩, q⟩ := h
    refine ⟨_, (pss_cons (ps_if (pt_val (pe_callB call_isiT rfl T.m_isinstance (by decide +kernel) (pa_cons (pv 1) (pa_cons (pe_tup (pa_cons (pe_bltn (v := .ty "tuple") (u := .type "tuple") rfl T.m_tuple (by decide +kernel) rfl) (pa_cons (pe_bltn (v := .ty "list") (u := .type "list") rfl T.m_list (by decide +kernel) rfl) pa_nil))) pa_nil)))) (pss_cons (ps_if (PW.pt (pw_or (pt_cmpR op_ne (pe_callB call_isi rfl T.m_isinstance (by decide +kernel) (pa_cons (pv 0) (pa_cons (pe_bltn (v := .ty "tuple") (u := .type "tuple") rfl T.m_tuple (by decide +kernel) rfl) pa_nil))) (pe_callB call_isi rfl T.m_isinstance (by decide +kernel) (pa_cons (pv 1) (pa_cons (pe_bltn (v := .ty "tuple") (u := .type "tuple") rfl T.m_tuple (by decide +kernel) rfl) pa_nil))) (nomark _)) (pw_or1 (pt_not (pt_val (pe_callB call_isiT rfl T.m_isinstance (by decide +kernel) (pa_cons (pv 0) (pa_cons (pe_tup (pa_cons (pe_bltn (v := .ty "tuple") (u := .type "tuple") rfl T.m_tuple (by decide +kernel) rfl) (pa_cons (pe_bltn (v := .ty "list") (u := .type "list") rfl T.m_list (by decide +kernel) rfl) pa_nil))) pa_nil)))))))) (pss_one (ps_ret pe_bl)) pss_nil)
  (pss_one (ps_ret (pe_and (pe_cmpR op_eq (pe_callB (r := Nm.rLenS K) (id := "len") Nm.call_lenS rfl T.m_len (by decide +kernel) (pa_cons (pv 0) pa_nil)) (pe_callB (r := Nm.rLenS K) (id := "len") Nm.call_lenS rfl T.m_len (by decide +kernel) (pa_cons (pv 1) pa_nil)) (nomark _)) (pe_one (pe_callB (cr_all rfl) rfl T.m_all (by decide +kernel) (pa_cons (pe_lc (own := [("one", 2), ("two", 3)]) (g := gTup K 2 (gCons (gName 2) (gCons (gName 3) gNil))) rfl sc.nd (pi_zipA rfl T.m_zip (pa_cons (pv 0) (pa_cons (pv 1) pa_nil))) (blkOk_by (own := [("one", 2), ("two", 3)]) (N := ["told", "due", "one", "two"]) (sc := defScope s__law_is) (by decide +kernel)) (fun _ _ _ _ _ => (pg_tup rfl (pgs_cons (pg_name (i := 2) sc.nd rfl (Or.inl rfl)) (pgs_cons (pg_name (i := 3) sc.nd rfl (Or.inl rfl)) pgs_nil)))) (fun _ _ _ _ _ => pts_nil) (fun _ _ _ _ _ => (pe_c C__law_is hr (by omega) rfl (pa_cons (pv 2) (pa_cons (pv 3) pa_nil))))) pa_nil))))))) pss_nil)
  (pss_one (ps_ret (pe_and (pe_cmpR op_eq (pe_callB call_isi rfl T.m_isinstance (by decide +kernel) (pa_cons (pv 0) (pa_cons (pe_bltn (v := .ty "bool") (u := .type "bool") rfl T.m_bool (by decide +kernel) rfl) pa_nil))) (pe_callB call_isi rfl T.m_isinstance (by decide +kernel) (pa_cons (pv 1) (pa_cons (pe_bltn (v := .ty "bool") (u := .type "bool") rfl T.m_bool (by decide +kernel) rfl) pa_nil))) (nomark _)) (pe_one (pe_cmpR op_eq (pv 0) (pv 1) (nomark _))))))), ?_⟩
    refine ⟨_, rfl, two, fun tp htp => ?_⟩
    have g0 := same_new (o := .tup [V.ty "tuple", V.ty "list"]) htp
    obtain ⟨t1, ty1, ka1, kb1⟩ := atom_ty (K := K) (H := upd H tp (.tup [V.ty "tuple", V.ty "list"])) ap
    obtain ⟨t2, ty2, ka2, kb2⟩ := atom_ty (K := K) (H := upd H tp (.tup [V.ty "tuple", V.ty "list"])) ap'
    refine ⟨_, tp, _, _, _, false, rfl, upd_same, .cons (.ty _) (.cons (.ty _) .nil), .base ty2, ka2, false, rfl, ?_⟩
    refine iteF ?_
    refine ⟨_, rfl, _, _, _, _, false, rfl, .ty _, .base ty1, kb1, _, rfl, _, _, _, _, false, rfl, .ty _, .base ty2, kb2, rfl, _, rfl, ?_⟩
    refine iteP rfl ⟨_, rfl, _, rfl, atom_scal ap ap', ?_⟩
    exact q _ g0
/-- two atoms, or two tuples of atoms -/
def sp_isA : Sp := fun vs H Q E => sp_isR AtV vs H Q E ∨ sp_isS true AtV vs H Q E
theorem c_is_any (T : Txt K mg) : Cal P w K mg base 2 "_law_is" sp_isA [] := by
  have C__law_is := c_isl_atom (P := P) (w := w) (base := base) T
  have sc := sc__law_is
  have mono : ∀ H H', Same H H' → ∀ x p, AtV H x p → AtV H' x p := fun _ _ _ _ _ h => h
  refine cal_of (k := 1) T.d__law_is sc (fun _ _ _ _ _ _ us hl => match us, hl with | [_, _], _ => rfl) (fun vs H Q E h => ?_) (fun f cdv A outer s H vs Q E hr h => ?_)
  · rcases h with ⟨x, y, rfl, _⟩ | ⟨a, b, rfl, _⟩ <;> rfl
  · refine ⟨_, (pss_cons (ps_if (pt_val (pe_callB call_isiT rfl T.m_isinstance (by decide +kernel) (pa_cons (pv 1) (pa_cons (pe_tup (pa_cons (pe_bltn (v := .ty "tuple") (u := .type "tuple") rfl T.m_tuple (by decide +kernel) rfl) (pa_cons (pe_bltn (v := .ty "list") (u := .type "list") rfl T.m_list (by decide +kernel) rfl) pa_nil))) pa_nil)))) (pss_cons (ps_if (PW.pt (pw_or (pt_cmpR op_ne (pe_callB call_isi rfl T.m_isinstance (by decide +kernel) (pa_cons (pv 0) (pa_cons (pe_bltn (v := .ty "tuple") (u := .type "tuple") rfl T.m_tuple (by decide +kernel) rfl) pa_nil))) (pe_callB call_isi rfl T.m_isinstance (by decide +kernel) (pa_cons (pv 1) (pa_cons (pe_bltn (v := .ty "tuple") (u := .type "tuple") rfl T.m_tuple (by decide +kernel) rfl) pa_nil))) (nomark _)) (pw_or1 (pt_not (pt_val (pe_callB call_isiT rfl T.m_isinstance (by decide +kernel) (pa_cons (pv 0) (pa_cons (pe_tup (pa_cons (pe_bltn (v := .ty "tuple") (u := .type "tuple") rfl T.m_tuple (by decide +kernel) rfl) (pa_cons (pe_bltn (v := .ty "list") (u := .type "list") rfl T.m_list (by decide +kernel) rfl) pa_nil))) pa_nil)))))))) (pss_one (ps_ret pe_bl)) pss_nil)
  (pss_one (ps_ret (pe_and (pe_cmpR op_eq (pe_callB (r := Nm.rLenS K) (id := "len") Nm.call_lenS rfl T.m_len (by decide +kernel) (pa_cons (pv 0) pa_nil)) (pe_callB (r := Nm.rLenS K) (id := "len") Nm.call_lenS rfl T.m_len (by decide +kernel) (pa_cons (pv 1) pa_nil)) (nomark _)) (pe_one (pe_callB (cr_all rfl) rfl T.m_all (by decide +kernel) (pa_cons (pe_lc (own := [("one", 2), ("two", 3)]) (g := gTup K 2 (gCons (gName 2) (gCons (gName 3) gNil))) rfl sc.nd (pi_zipA rfl T.m_zip (pa_cons (pv 0) (pa_cons (pv 1) pa_nil))) (blkOk_by (own := [("one", 2), ("two", 3)]) (N := ["told", "due", "one", "two"]) (sc := defScope s__law_is) (by decide +kernel)) (fun _ _ _ _ _ => (pg_tup rfl (pgs_cons (pg_name (i := 2) sc.nd rfl (Or.inl rfl)) (pgs_cons (pg_name (i := 3) sc.nd rfl (Or.inl rfl)) pgs_nil)))) (fun _ _ _ _ _ => pts_nil) (fun _ _ _ _ _ => (pe_c C__law_is hr (by omega) rfl (pa_cons (pv 2) (pa_cons (pv 3) pa_nil))))) pa_nil))))))) pss_nil)
  (pss_one (ps_ret (pe_and (pe_cmpR op_eq (pe_callB call_isi rfl T.m_isinstance (by decide +kernel) (pa_cons (pv 0) (pa_cons (pe_bltn (v := .ty "bool") (u := .type "bool") rfl T.m_bool (by decide +kernel) rfl) pa_nil))) (pe_callB call_isi rfl T.m_isinstance (by decide +kernel) (pa_cons (pv 1) (pa_cons (pe_bltn (v := .ty "bool") (u := .type "bool") rfl T.m_bool (by decide +kernel) rfl) pa_nil))) (nomark _)) (pe_one (pe_cmpR op_eq (pv 0) (pv 1) (nomark _))))))), ?_⟩
    rcases h with h | h
    · obtain ⟨x, y, rfl, p, p', ⟨rfl, ap⟩, ⟨rfl, ap'⟩, q⟩ := h
      refine ⟨_, rfl, two, fun tp htp => ?_⟩
      have g0 := same_new (o := .tup [V.ty "tuple", V.ty "list"]) htp
      obtain ⟨t1, ty1, ka1, kb1⟩ := atom_ty (K := K) (H := upd H tp (.tup [V.ty "tuple", V.ty "list"])) ap
      obtain ⟨t2, ty2, ka2, kb2⟩ := atom_ty (K := K) (H := upd H tp (.tup [V.ty "tuple", V.ty "list"])) ap'
      refine ⟨_, tp, _, _, _, false, rfl, upd_same, .cons (.ty _) (.cons (.ty _) .nil), .base ty2, ka2, false, rfl, ?_⟩
      refine iteF ?_
      refine ⟨_, rfl, _, _, _, _, false, rfl, .ty _, .base ty1, kb1, _, rfl, _, _, _, _, false, rfl, .ty _, .base ty2, kb2, rfl, _, rfl, ?_⟩
      refine iteP rfl ⟨_, rfl, _, rfl, atom_scal ap ap', ?_⟩
      exact q _ g0
    · obtain ⟨a, b, rfl, xs, ys, ps, qs, hab, pa, pb, l4, q⟩ := h
      have ex : xs.length = ps.length := paired_len pa
      have ey : ys.length = qs.length := paired_len pb
      obtain ⟨ha, hb⟩ := hab
      refine ⟨_, rfl, two, fun tp htp => ?_⟩
      have g0 := same_new (o := .tup [V.ty "tuple", V.ty "list"]) htp
      refine ⟨_, tp, _, _, _, true, rfl, upd_same, .cons (.ty _) (.cons (.ty _) .nil), .base (.tup (g0 _ _ hb)), kit_tl_tup, true, rfl, ?_⟩
      refine iteT ?_
      refine ⟨_, rfl, _, _, _, _, true, rfl, .ty _, .base (.tup (g0 _ _ ha)), kit_ty (by decide +kernel), _, rfl, _, _, _, _, true, rfl, .ty _, .base (.tup (g0 _ _ hb)), kit_ty (by decide +kernel), rfl, _, rfl, ?_⟩
      refine iteN (nt rfl) ?_
      refine ⟨_, rfl, two, fun tq htq => ?_⟩
      have g1 := g0.trans (same_new (o := .tup [V.ty "tuple", V.ty "list"]) htq)
      refine ⟨_, tq, _, _, _, true, rfl, upd_same, .cons (.ty _) (.cons (.ty _) .nil), .base (.tup (g1 _ _ ha)), kit_tl_tup, true, rfl, ?_⟩
      refine iteF ?_
      refine ⟨_, rfl, a, _, rfl, .inr (SqT.of (g1 _ _ ha)), _, rfl, b, _, rfl, .inr (SqT.of (g1 _ _ hb)), rfl, _, rfl, ?_⟩
      rw [decI]
      refine ite2 (fun z => ?_) (fun z => ?_)
      · have el : ps.length = qs.length := by
          have := of_decide_eq_true z
          omega
        refine ⟨_, rfl, _, rfl, a, b, xs, ys, rfl, .inr ⟨SqT.of (g1 _ _ ha), SqT.of (g1 _ _ hb), fun D hD => ?_⟩⟩
        have lz : (ps.zip qs).length = min xs.length ys.length := by
          rw [List.length_zip, ex, ey]
        refine lc_it (walk_zipT (K := K) (a := a) (b := b) (xs := xs) (ys := ys) lz) (fun i H1 => H1 D = some (.lst (((ps.zip qs).take i).map fun z => V.bl (decide (z.1 = z.2)))) ∧ Same H H1) ⟨upd_same, g1.trans (same_new hD)⟩ (fun i H1 _ z => ⟨SqT.of (z.2 _ _ ha), SqT.of (z.2 _ _ hb)⟩) ?_ ?_
        · rintro i x H1 H2 hi ⟨h1, g⟩ ⟨t3, x1, y1, rfl, hn, rfl, e1, e2⟩
          obtain ⟨p, hp, rp⟩ := paired_at pa i _ e1
          obtain ⟨q1, hq1, rq⟩ := paired_at pb i _ e2
          have hz : (ps.zip qs)[i]? = some (p, q1) := by
            rw [List.getElem?_zip_eq_some]
            exact ⟨hp, hq1⟩
          have g3 := same_new (o := .tup [x1, y1]) hn
          refine ⟨t3, [x1, y1], rfl, SqT.of upd_same, rfl, _, _, rfl, _, _, rfl, rfl, rfl, ?_⟩
          refine ⟨_, rfl, _, rfl, x1, y1, rfl, p, q1, mono _ _ (g.trans g3) _ _ rp, mono _ _ (g.trans g3) _ _ rq, fun H4 g4 => ⟨_, g4 _ _ (g3 _ _ h1), ?_, ?_, same_mut ((g.trans g3).trans g4) (g1.free hD)⟩⟩
          · rw [List.length_map, List.length_take]
            have b1 : (4000 : Nat) < PySem.sizeLine := by decide
            omega
          · rw [upd_same, take_one hz, List.map_append]
            rfl
        · rintro H1 ⟨h1, g⟩
          rw [List.take_length] at h1
          refine ⟨D, (ps.zip qs).map (fun z => decide (z.1 = z.2)), rfl, SqL.of ?_, ?_⟩
          · rw [h1, List.map_map]
            rfl
          · rw [zip_all el]
            exact q H1 g
      · have el : ¬ ps = qs := fun e => z (decide_eq_true (by
          have := congrArg List.length e
          omega))
        have q1 := q _ g1
        rw [decide_eq_false el] at q1
        exact q1
end
end K06
namespace K06
open PySem L2 Nm
open C8 (Cal Mak pe_c pe_mk pe_gc)
open RZ (ItzT pi_zipA)
theorem made_same {H H4 : Hp} {x dx C : Addr} (hx : H x = none) (hdx : H dx = none) (kp : ∀ b o, upd (upd H dx (.own x)) x (.ins C dx []) b = some o → b ≠ x → H4 b = some o) : Same H H4 := fun b o ho => kp b o (by rw [upd_ne (ne_of_none ho hx), upd_ne (ne_of_none ho hdx)]; exact ho) (ne_of_none ho hx)
theorem rs_keep {H H' : Hp} {D : Addr} {rs : List (List Str)} (h : RsAt H D rs) (k : Keep H H') : RsAt H' D rs := by
  obtain ⟨ents, h1, h2⟩ := h
  refine ⟨ents, k _ _ h1 (fun xs e => nomatch e), fun r hr => ?_⟩
  obtain ⟨y, e1, e2⟩ := h2 r hr
  exact ⟨y, e1, stays_rc _ _ _ _ k.tups e2⟩
theorem rns_keep {g : Str → List (List Str)} {H H' : Hp} {D : Addr} {ns : List Str} (h : NdAt (RnAt g) H D ns) (k : Keep H H') : NdAt (RnAt g) H' D ns := by
  obtain ⟨kvs, h1, h2, h3⟩ := h
  refine ⟨kvs, k _ _ h1 (fun xs e => nomatch e), h2, fun n hn => ?_⟩
  obtain ⟨y, e1, E, e2, e3⟩ := h3 n hn
  exact ⟨y, e1, E, e2, rs_keep e3 k⟩
theorem rn_mut {g : Str → List (List Str)} {H : Hp} {D : Addr} {kvs ks : List (Key × V)} {y : V} {n : Str} (h : H D = some (.dK kvs)) (r : RnAt g H y n) : RnAt g (upd H D (.dK ks)) y n := by
  obtain ⟨E, rfl, ents, h1, h2⟩ := r
  refine ⟨E, rfl, ents, ?_, fun k hk => ?_⟩
  · rw [upd_ne (fun z => by rw [z, h] at h1; cases h1)]
    exact h1
  · obtain ⟨v, e1, e2⟩ := h2 k hk
    exact ⟨v, e1, stays_rc _ _ _ _ (tups_dK h) e2⟩
theorem paired_atoms {H : Hp} : ∀ xs : List V, (∀ x ∈ xs, atomB x = true) → Paired (AtV H) xs xs
  | [], _ => .nil
  | x :: xs, h => .cons ⟨rfl, h x List.mem_cons_self⟩ (paired_atoms xs fun y hy => h y (List.mem_cons_of_mem _ hy))
theorem atoms_nums (ks : List Nat) : ∀ x ∈ numsV ks, atomB x = true := fun x hx => by
  obtain ⟨k, _, rfl⟩ := List.mem_map.mp hx
  rfl
def NumAt (_ : Hp) (x : V) (k : Nat) : Prop := x = .int (Int.ofNat k)
theorem nums_vs {H : Hp} : ∀ {xs : List V} {ks : List Nat}, Paired (NumAt H) xs ks → xs = numsV ks
  | _, _, .nil => rfl
  | _, _, .cons r t => by
    rw [nums_vs t, show _ = _ from r]
    rfl
theorem stays_num : Stays NumAt := fun _ _ _ _ _ h => h
theorem MvAt.same {H H' : Hp} {v : V} {o : Option (Nat × Str)} (h : MvAt H v o) (g : Same H H') : MvAt H' v o := by
  cases o with
  | none => exact h
  | some m =>
    obtain ⟨p, e, hp⟩ := h
    exact ⟨p, e, g _ _ hp⟩
theorem head_at : ∀ ws : List Str, atI (ws.map V.str ++ [V.non]) 0 = some (headV ws)
  | [] => atI_nat (j := 0) rfl
  | _ :: _ => atI_nat (j := 0) rfl
theorem head_scal : ∀ ws : List Str, scal (headV ws) (headV ws) = true
  | [] => rfl
  | _ :: _ => rfl
/-- the same answer, told twice -/
theorem mv_is {H : Hp} {v v2 : V} {o : Option (Nat × Str)} {Q : VK} {E : XK} (h : MvAt H v o) (h2 : MvAt H v2 o) (q : ∀ H', Same H H' → Q (.bl true) H') : sp_isA [v, v2] H Q E := by
  cases o with
  | none =>
    have e : v = .non := h
    have e2 : v2 = .non := h2
    subst e e2
    refine .inl ⟨.non, .non, rfl, .non, .non, ⟨rfl, rfl⟩, ⟨rfl, rfl⟩, fun H' g => ?_⟩
    rw [decide_eq_true rfl]
    exact q H' g
  | some m =>
    obtain ⟨p, rfl, hp⟩ := h
    obtain ⟨p2, rfl, hp2⟩ := h2
    have at2 : ∀ x ∈ [V.int (Int.ofNat m.1), .str m.2], atomB x = true := fun x hx => by
      simp only [List.mem_cons, List.not_mem_nil, or_false] at hx
      rcases hx with rfl | rfl <;> rfl
    refine .inr ⟨p, p2, rfl, _, _, _, _, iteP rfl ⟨hp, hp2⟩, paired_atoms _ at2, paired_atoms _ at2, by show 2 ≤ 4000; decide, fun H' g => ?_⟩
    rw [decide_eq_true rfl]
    exact q H' g
section
variable {P : Program} {w : World} {K : PySem.W.Frag} {mg : Str → Option Value} {base : Heap}
def sp_law (K : PySem.W.Frag) : Sp := fun vs H Q _ => ∃ (a : Addr) (ns : List Int), vs = [.ref a] ∧ SqL K H a (ns.map V.int) ∧ ∀ H', Q (.bl true) H'
theorem ok_law {f : Addr} {fd : FuncData} (F : Fun K "law" "law" s_law f fd) (T : Txt K mg) : Nm.FnG P w K mg base 12 f fd ["script"] (sp_law K) := by
  have C__law_boards := c__law_boards (P := P) (w := w) (base := base) T
  have C__law_due_move := c__law_due_move (P := P) (w := w) (base := base) T
  have C__law_games_for := c__law_games_for (P := P) (w := w) (base := base) T
  have C__law_good := c__law_good (P := P) (w := w) (base := base) T
  have C__law_results := c__law_results (P := P) (w := w) (base := base) T
  have C__law_shuffled := c__law_shuffled (P := P) (w := w) (base := base) T
  have C__law_some := c__law_some (P := P) (w := w) (base := base) T
  have C__law_tape := c__law_tape (P := P) (w := w) (base := base) T
  have C__law_words := c__law_words (P := P) (w := w) (base := base) T
  have C_told_answer := c_told_answer (P := P) (w := w) (base := base) T
  have C_told_move := c_told_move (P := P) (w := w) (base := base) T
  have C_told_won := c_told_won (P := P) (w := w) (base := base) T
  have sc := sc_law
  refine Nm.okG (k := 11) F sc (fun vs H Q E h => ?_) (fun cdv A outer s H vs Q E hg hr h => ?_)
  · obtain ⟨s0, ns, rfl, _⟩ := h
    rfl
  · obtain ⟨s0, ns, rfl, h⟩ := h
    have C_Hall := True.intro
    obtain ⟨CH, C_Hall⟩ := c_Hall (P := P) (w := w) (base := base) T
    have C__law_is := c_is_any (P := P) (w := w) (K := K) (base := base) T
    obtain ⟨hs, q⟩ := h
    refine ⟨_, (pss_cons (ps_set (i := 1) sc.nd rfl (Or.inl rfl) (pe_c C__law_tape hr (by omega) rfl (pa_cons (pv 0) pa_nil)))
  (pss_cons (ps_for PassesOwn.never rfl (pi_range1 rfl T.m_range (pa_cons pe_int pa_nil)) (pg_name (i := 2) sc.nd rfl (Or.inl rfl)) (pss_cons (ps_set (i := 3) sc.nd rfl (Or.inr rfl) (pe_c C__law_boards hr (by omega) rfl (pa_cons (pv 1) (pa_cons pe_int (pa_cons (pe_cmpR op_eq (pv 2) pe_int (nomark _)) pa_nil)))))
  (pss_cons (ps_set (i := 4) sc.nd rfl (Or.inl rfl) (pe_mk C_Hall hr (by omega) rfl (pa_cons (pv 3) pa_nil)))
  (pss_cons (ps_set (i := 5) sc.nd rfl (Or.inl rfl) (pe_c C__law_games_for hr (by omega) rfl (pa_cons (pv 1) (pa_cons (pv 4) pa_nil))))
  (pss_cons (ps_set (i := 6) sc.nd rfl (Or.inl rfl) (pe_callB (Nm.call_repr (by exact hg) (Nat.lt_of_succ_lt (u65 hr))) rfl T.m_repr (by decide +kernel) (pa_cons (pv 5) pa_nil)))
  (pss_cons (ps_set (i := 7) sc.nd rfl (Or.inr rfl) pe_dnewK)
  (pss_cons (ps_for PassesOwn.never rfl (pi_tup (pe_fld (pv 4) rfl)) (pg_name (i := 8) sc.nd rfl (Or.inl rfl)) (pss_one (ps_dput (hu_of hr) (pv 7) (pv 8) (pe_c C__law_results hr (by omega) rfl (pa_cons (pe_dget (hu_of hr) (pv 5) (pv 8) (fun _ _ => rfl)) pa_nil)) rfl)))
  (pss_cons (ps_setLc (i := 9) (own := [("k", 17)]) (g := gName 17) rfl sc.nd rfl rfl (sw_true rfl rfl rfl (by decide +kernel)) (pi_range1 rfl T.m_range (pa_cons (pe_callB (r := Nm.rLenS K) (id := "len") Nm.call_lenS rfl T.m_len (by decide +kernel) (pa_cons (pv 3) pa_nil)) pa_nil)) (blkOk_by (own := [("k", 17)]) (N := ["script", "tape", "turn", "boards", "hall", "games", "text", "results", "name", "won", "step", "rows", "side", "begun", "board", "row", "words", "k"]) (sc := defScope s_law) (by decide +kernel)) (fun _ _ _ _ _ => (pg_name (i := 17) sc.nd rfl (Or.inl rfl))) (fun _ _ _ _ _ => (pts_one (pt_cmpR op_eq (pe_ix (r := rIxT K) ix_tup (pe_dget (hu_of hr) (pe_dget (hu_of hr) (pv 7) (pe_ix (r := rIxT K) ix_tup (pe_ix (r := rIxT K) ix_tup (pv 3) (pv 17) (fun _ _ => rfl)) pe_int (fun _ _ => rfl)) (fun _ _ => rfl)) (pe_ix (r := rIxT K) ix_tup (pe_ix (r := rIxT K) ix_tup (pv 3) (pv 17) (fun _ _ => rfl)) pe_int (fun _ _ => rfl)) (fun _ _ => rfl)) pe_int (fun _ _ => rfl)) (pe_ix (r := rIxT K) ix_tup (pe_ix (r := rIxT K) ix_tup (pv 3) (pv 17) (fun _ _ => rfl)) pe_int (fun _ _ => rfl)) (nomark _)))) (fun _ _ _ _ _ => (pv 17)))
  (pss_cons (ps_if (pt_not (pt_val (pe_c C__law_is hr (by omega) rfl (pa_cons (pe_c C_told_won hr (by omega) rfl (pa_cons (pv 4) (pa_cons (pv 5) pa_nil))) (pa_cons (pe_callTy call_tuple_of rfl T.m_tuple (by decide +kernel) (pa_cons (pv 9) pa_nil)) pa_nil))))) (pss_one (ps_ret pe_bl)) pss_nil)
  (pss_cons (ps_for PassesOwn.never rfl (pi_range1 rfl T.m_range (pa_cons pe_int pa_nil)) (pg_name (i := 10) sc.nd rfl (Or.inl rfl)) (pss_cons (ps_set (i := 11) sc.nd rfl (Or.inl rfl) (pe_lst pa_nil))
  (pss_cons (ps_for PassesOwn.never rfl (pi_tup (pv 3)) (pg_tup rfl (pgs_cons (pg_name (i := 8) sc.nd rfl (Or.inl rfl)) (pgs_cons (pg_name (i := 12) sc.nd rfl (Or.inl rfl)) (pgs_cons (pg_name (i := 13) sc.nd rfl (Or.inr rfl)) pgs_nil)))) (pss_one (ps_expr (pe_bm PySem.F.plainAttrs_list PySem.F.slot_list_append PySem.F.type_list_append mt_append (pv 11) (pa_cons (pe_c C__law_some hr (by omega) rfl (pa_cons (pv 1) (pa_cons (pe_lc (own := [("row", 15)]) (g := gName 15) rfl sc.nd (pi_tup (pe_dget (hu_of hr) (pv 5) (pv 8) (fun _ _ => rfl))) (blkOk_by (own := [("row", 15)]) (N := ["script", "tape", "turn", "boards", "hall", "games", "text", "results", "name", "won", "step", "rows", "side", "begun", "board", "row", "words", "k"]) (sc := defScope s_law) (by decide +kernel)) (fun _ _ _ _ _ => (pg_name (i := 15) sc.nd rfl (Or.inl rfl))) (fun _ _ _ _ _ => (pts_one (pt_cmpR (r := rEqD K) (op_eqD hr.units) (pe_slice (r := rSlA K) sl_tupA (pv 15) po_none (po_some (pe_callB (r := Nm.rLenS K) (id := "len") Nm.call_lenS rfl T.m_len (by decide +kernel) (pa_cons (pv 13) pa_nil)))) (pv 13) (nomark _)))) (fun _ _ _ _ _ => (pv 15))) pa_nil))) pa_nil)))))
  (pss_one (ps_if (pt_not (pt_val (pe_c C__law_is hr (by omega) rfl (pa_cons (pe_c C_told_move hr (by omega) rfl (pa_cons (pv 4) (pa_cons (pv 5) (pa_cons (pe_callTy call_tuple_of rfl T.m_tuple (by decide +kernel) (pa_cons (pv 11) pa_nil)) pa_nil)))) (pa_cons (pe_c C__law_due_move hr (by omega) rfl (pa_cons (pv 3) (pa_cons (pv 5) (pa_cons (pv 7) (pa_cons (pv 9) (pa_cons (pv 11) pa_nil)))))) pa_nil))))) (pss_one (ps_ret pe_bl)) pss_nil)))))
  (pss_cons (ps_for PassesOwn.never rfl (pi_range1 rfl T.m_range (pa_cons (pe_callB (r := Nm.rLenS K) (id := "len") Nm.call_lenS rfl T.m_len (by decide +kernel) (pa_cons (pv 3) pa_nil)) pa_nil)) (pg_name (i := 14) sc.nd rfl (Or.inl rfl)) (pss_cons (ps_asg (pe_ix ix_tup (pv 3) (pv 14) (fun _ _ => rfl)) (pg_tup rfl (pgs_cons (pg_name (i := 8) sc.nd rfl (Or.inl rfl)) (pgs_cons (pg_name (i := 12) sc.nd rfl (Or.inl rfl)) (pgs_cons (pg_name (i := 13) sc.nd rfl (Or.inr rfl)) pgs_nil)))))
  (pss_one (ps_for PassesOwn.never rfl (pi_list (pe_slice sl_list (pe_c C__law_shuffled hr (by omega) rfl (pa_cons (pv 1) (pa_cons (pe_callTy call_list_of rfl T.m_list (by decide +kernel) (pa_cons (pe_dget (hu_of hr) (pv 5) (pv 8) (fun _ _ => rfl)) pa_nil)) pa_nil))) po_none (po_some pe_int))) (pg_name (i := 15) sc.nd rfl (Or.inl rfl)) (pss_one (ps_if (pt_cmpR op_ne (pe_op op_mod (pe_callB (r := Nm.rLenS K) (id := "len") Nm.call_lenS rfl T.m_len (by decide +kernel) (pa_cons (pv 15) pa_nil)) pe_int) (pv 12) (nomark _)) (pss_cons (ps_set (i := 16) sc.nd rfl (Or.inl rfl) (pe_op op_cat (pe_op op_cat (pe_c C__law_good hr (by omega) rfl (pa_cons (pe_dget (hu_of hr) (pv 5) (pv 8) (fun _ _ => rfl)) (pa_cons (pe_dget (hu_of hr) (pv 7) (pv 8) (fun _ _ => rfl)) (pa_cons (pv 15) pa_nil)))) (pe_c C__law_words hr (by omega) rfl (pa_cons (pe_dget (hu_of hr) (pv 5) (pv 8) (fun _ _ => rfl)) (pa_cons (pv 15) pa_nil)))) (pe_lst (pa_cons pe_non pa_nil))))
  (pss_one (ps_if (pt_cmpR op_ne (pe_c C_told_answer hr (by omega) rfl (pa_cons (pv 4) (pa_cons (pv 5) (pa_cons (pv 14) (pa_cons (pv 15) pa_nil))))) (pe_ix ix_list (pv 16) pe_int (fun _ _ => rfl)) (nomark _)) (pss_one (ps_ret pe_bl)) pss_nil))) pss_nil))))))
  (pss_one (ps_if (pt_cmpR op_ne (pe_callB (Nm.call_repr (by exact hg) (Nat.lt_of_succ_lt (u65 hr))) rfl T.m_repr (by decide +kernel) (pa_cons (pv 5) pa_nil)) (pv 6) (nomark _)) (pss_one (ps_ret pe_bl)) pss_nil)))))))))))))
  (pss_one (ps_ret pe_bl)))), ?_⟩
    refine ⟨_, rfl, s0, rfl, ns, hs, fun tp l H1 g1 htp t1 => ?_⟩
    clear g1 htp hs
    refine ⟨2, rfl, by decide, by decide, ?_⟩
    have big : (100000 : Nat) < PySem.sizeLine := by decide
    refine for_it (walk_range (lo := 0) (n := (2 : Int).toNat)) (fun i σ H2 => ∃ v2 v3 v4 v5 v6 v7 v8 v9 v10 v11 v12 v13 v14 v15 v16, σ = [some (.ref s0), some (.ref tp), v2, v3, v4, v5, v6, v7, v8, v9, v10, v11, v12, v13, v14, v15, v16, none] ∧ TapeAt H2 tp l) ⟨_, _, _, _, _, _, _, _, _, _, _, _, _, _, _, rfl, t1⟩ (fun _ _ _ _ _ => trivial) ?_ ?_
    rotate_left
    · rintro σ H2 _
      exact q H2
    clear t1
    rintro i y σ H2 H2' hi ⟨v2, v3, v4, v5, v6, v7, v8, v9, v10, v11, v12, v13, v14, v15, v16, rfl, t2⟩ ⟨rfl, rfl⟩
    refine ⟨_, rfl, _, rfl, rfl, tp, 6, _, rfl, l, t2, by decide, by decide, fun ba bs H4 hb dr l1 l6 t4 mv4 => ?_⟩
    have ok : ∀ b ∈ bs, okB b := fun b h => (dr b h).1
    have short : ∀ b ∈ bs, b.2.2.length ≤ 3 := fun b h => (dr b h).2
    have l6' : bs.length ≤ 6 := by omega
    clear mv4 t2 l6 dr
    refine ⟨_, rfl, fun x1 dx1 hx1 hdx1 _ => ?_⟩
    have gx1 : Same H4 (upd (upd H4 dx1 (.own x1)) x1 (.ins CH dx1 [])) := fun c o ho => by
      rw [upd_ne (ne_of_none ho hx1), upd_ne (ne_of_none ho hdx1)]
      exact ho
    refine ⟨x1, dx1, ba, bs, rfl, upd_same, hb.mono (same_tups gx1), ok, l1, by omega, fun H5 fs1 hi1 _ hh5 kp1 => ⟨rfl, ?_⟩⟩
    have g5 : Same H4 H5 := made_same hx1 hdx1 kp1
    have t5 := t4.same g5
    have hb5 := hb.mono (same_tups g5)
    clear kp1 hi1 gx1 hx1 hdx1 hb t4 g5
    refine ⟨_, rfl, _, rfl, tp, x1, rfl, l, bs, t5, hh5, ok, short, by omega, fun H8 D ys g nm gs good t8 mv8 => ?_⟩
    have hh8 := hh5.mono (t5.keep mv8)
    have hb8 := hb5.mono (t5.keep mv8).tups
    clear hh5 hb5 t5 mv8
    have lys : ys.length ≤ 6 := by
      have h := List.Nodup.length_le_of_subset nm.nd fun z hz => (nm.mem z).mp hz
      rw [List.length_map] at h
      omega
    have shown := shown_games (ys := ys) (g := g) (by omega) (fun n hn => by
      obtain ⟨b, hb, rfl⟩ := List.mem_map.mp ((nm.mem n).mp hn)
      have h1 := (ok b hb).1
      unfold boardB at h1
      rw [Bool.and_eq_true] at h1
      have h2 := h1.1
      unfold letB at h2 ⊢
      rw [Bool.and_eq_true, Bool.and_eq_true] at h2 ⊢
      exact ⟨⟨h2.1.1, decide_eq_true (by have := of_decide_eq_true h2.1.2; omega)⟩, h2.2⟩) fun n hn => ⟨(good n hn).isG.ok, (good n hn).few⟩
    refine ⟨_, rfl, D, gsD ys g, rfl, sh_games gs nm.nd, show_games ys g, shown.1, shown.2, ?_⟩
    refine fun R hR => ?_
    obtain ⟨C, dx, fs, a, nr, ys2, cl, nB, nN, hp, fb, fn, hbb, hn, nm2⟩ := id hh8
    have ey : ys2 = ys := rise_one nm2.rise nm.rise fun z => by rw [nm2.mem, nm.mem]
    subst ey
    have gR := same_new (o := .dK []) hR
    refine ⟨_, rfl, x1, C, dx, fs, _, rfl, gR _ _ hp, cl, nN, fn, nr, rfl, ⟨_, SqT.of (gR _ _ hn)⟩, ?_⟩
    generalize htx : (gsD ys2 g).shown = text
    refine for_it (walk_tup (K := K) (a := nr) (xs := ys2.map V.str)) (fun j σ H9 => ∃ (w8 : Option V) (kvs : List (Key × V)), σ = [some (.ref s0), some (.ref tp), some (.int (0 + (i : Int))), some (.ref ba), some (.ref x1), some (.ref D), some (.str text), some (.ref R), w8, v9, v10, v11, v12, v13, v14, v15, v16, none] ∧ Same H8 H9 ∧ H9 R = some (.dK kvs) ∧ kvs.map (·.1) = (ys2.take j).map Sum.inr ∧ ∀ n ∈ ys2.take j, ∃ y, valV kvs (.inr n) = some y ∧ RnAt g H9 y n)
      ⟨v8, [], rfl, gR, upd_same, rfl, fun n hn => absurd hn (List.not_mem_nil)⟩ (fun i σ H9 _ ⟨_, _, _, g, _⟩ => SqT.of (g _ _ hn)) ?_ ?_
    · rintro j y σ H9 H9' hj ⟨w8, kvs, rfl, g9, hR9, hk9, hv9⟩ ⟨rfl, hy⟩
      obtain ⟨n, hnn, rfl⟩ := map_at hy
      have mn := List.mem_of_getElem? hnn
      have nin : n ∉ ys2.take j := fun m => by
        have nd := nm2.nd
        rw [← List.take_append_drop j ys2] at nd
        have hd : n ∈ ys2.drop j := by
          obtain ⟨hlt, hv⟩ := List.getElem?_eq_some_iff.mp hnn
          rw [List.drop_eq_getElem_cons hlt, hv]
          exact List.mem_cons_self
        exact (List.nodup_append.mp nd).2.2 n m n hd rfl
      have lkv : kvs.length ≤ 6 := by
        have e := congrArg List.length hk9
        rw [List.length_map, List.length_map, List.length_take] at e
        omega
      obtain ⟨a2, dg, gm⟩ := (gs.same g9).get mn
      refine ⟨_, rfl, _, rfl, D, _, rfl, dg, a2, rfl, g n, gm, (good n mn).isG, (good n mn).few, fun HA E rsE gA => ?_⟩
      have hRA := gA _ _ hR9
      refine ⟨_, rfl, _, rfl, R, _, rfl, DPut.k (k := .inr n) hRA (by omega), ?_⟩
      refine ⟨_, putK kvs (.inr n) (.ref E), rfl, same_mut (g9.trans gA) hR, upd_same, ?_, fun m hm => ?_⟩
      · rw [put_new (fun z => by
          rw [hk9] at z
          obtain ⟨m, hm, e⟩ := List.mem_map.mp z
          cases e
          exact nin hm), hk9, take_one hnn, List.map_append]
        rfl
      · rw [valV_put]
        by_cases c : m = n
        · subst c
          rw [if_pos rfl]
          exact ⟨_, rfl, rn_mut hRA ⟨E, rfl, rsE⟩⟩
        · rw [if_neg (fun e => c (Sum.inr.inj e))]
          rw [take_one hnn, List.mem_append, List.mem_singleton] at hm
          obtain ⟨y, e1, E2, e2, e3⟩ := hv9 m (hm.resolve_right c)
          exact ⟨y, e1, rn_mut hRA ⟨E2, e2, e3.same gA⟩⟩
    rintro σ H9 ⟨w8, kvs, rfl, g9, hR9, hk9, hv9⟩
    rw [List.length_map, List.take_length] at hk9 hv9
    have rss : NdAt (RnAt g) H9 R ys2 := ⟨kvs, hR9, hk9, hv9⟩
    have t9 := t8.same g9
    have gs9 := gs.same g9
    have hh9 := hh8.mono (same_keep g9)
    have hb9 := hb8.mono (same_tups g9)
    clear hk9 hv9 hR9 kvs gR hR
    clear hp fb hbb hn cl nB nN
    clear t8 gs hh8 hb8 g9
    obtain ⟨xs, ha, pr⟩ := id hb9
    have el : xs.length = bs.length := paired_len pr
    -- the boards that are won
    refine ⟨_, rfl, ba, _, rfl, .inr (SqT.of ha), xs.length, rfl, by omega, by omega, fun W hW => ?_⟩
    refine lcS (walk_range (lo := 0) (n := ((xs.length : Nat) : Int).toNat)) stays_num (List.range bs.length) (bestI g bs (bs.map (·.2.2))) (fun k => k) (by rw [List.length_range]; omega) (by rw [List.length_range]; omega) (fun _ _ => trivial) hW ?_ ?_
    · rintro j x k HA HA' Nx hk ⟨rfl, hx⟩ sm no yes
      have ek : k = j := by
        obtain ⟨_, e⟩ := List.getElem?_eq_some_iff.mp hk
        rw [← e, List.getElem_range]
      subst ek
      have lk : k < bs.length := by
        have := (List.getElem?_eq_some_iff.mp hk).1
        rw [List.length_range] at this
        exact this
      have hbk : bs[k]? = some bs[k] := List.getElem?_eq_getElem lk
      have hxk : xs[k]? = some (xs[k]'(by omega)) := List.getElem?_eq_getElem (by omega)
      generalize bs[k] = b at hbk
      generalize (xs[k]'(by omega)) = xk at hxk
      obtain ⟨b', hb', c, r0, rfl, hc, hr0⟩ := paired_at pr k _ hxk
      have e : b' = b := Option.some.inj (hb'.symm.trans hbk)
      subst e
      have mb := List.mem_of_getElem? hb'
      have mn : b'.1 ∈ ys2 := (nm2.mem _).mpr (List.mem_map.mpr ⟨b', mb, rfl⟩)
      have mr : b'.2.2 ∈ g b'.1 := (good _ mn).has _ (mem_rowsOf mb)
      obtain ⟨kvs, hR, hkR, hvR⟩ := id rss
      obtain ⟨y1, ey1, E1, rfl, ents, hE, vals⟩ := hvR _ mn
      obtain ⟨yv, hyv, rv, rfl, hrv⟩ := vals _ mr
      have hx2 : x = .int ((k : Nat) : Int) := hx.trans (congrArg V.int (by omega))
      clear hx
      subst hx2
      refine ⟨rfl, ?_⟩
      refine ⟨_, rfl, _, rfl, _, rfl, ba, xs, _, .ref c, rfl, rfl, SqT.of (sm _ _ ha), atI_nat hxk, c, _, 0, .str b'.1, rfl, rfl, SqT.of (sm _ _ hc), rfl, R, _, rfl, ey1 ▸ DGet.k (k := .inr b'.1) (sm _ _ hR), ?_⟩
      refine ⟨_, rfl, _, rfl, ba, xs, _, .ref c, rfl, rfl, SqT.of (sm _ _ ha), atI_nat hxk, c, _, 2, .ref r0, rfl, rfl, SqT.of (sm _ _ hc), rfl, ?_⟩
      refine ⟨E1, .ref rv, rfl, hyv ▸ DGet.t (sm _ _ hE) (kvR (sm _ _ hr0)), rv, _, 0, .int (rc (g b'.1) b'.2.2).1, rfl, rfl, SqT.of (sm _ _ hrv), rfl, ?_⟩
      refine ⟨_, rfl, _, rfl, ba, xs, _, .ref c, rfl, rfl, SqT.of (sm _ _ ha), atI_nat hxk, c, _, 1, .int b'.2.1, rfl, rfl, SqT.of (sm _ _ hc), rfl, rfl, _, rfl, ?_⟩
      have ew : decide (V.int (rc (g b'.1) b'.2.2).1 = V.int b'.2.1) = bestI g bs (bs.map (·.2.2)) k := by
        have eb : bestI g bs (bs.map (·.2.2)) k = bestB g b' b'.2.2 := by
          unfold bestI
          rw [List.getElem?_map, hbk]
          rfl
        have s01 : b'.2.1 = 0 ∨ b'.2.1 = 1 := by
          have h1 := (ok b' mb).1
          unfold boardB at h1
          rw [Bool.and_eq_true, Bool.and_eq_true] at h1
          have h2 := h1.2.1
          unfold within at h2
          rw [Bool.and_eq_true] at h2
          have e1 := of_decide_eq_true h2.1
          have e2 := of_decide_eq_true h2.2
          omega
        rw [decI, eb]
        unfold bestB rc winS
        cases v : (val (g b'.1) b'.2.2).1 with
        | true =>
          rw [if_pos rfl]
          by_cases c : (b'.2.2.length : Int) % 2 = b'.2.1
          · rw [decide_eq_true c]
            rfl
          · rw [decide_eq_false c]
            rfl
        | false =>
          rw [if_neg Bool.false_ne_true]
          by_cases c : (b'.2.2.length : Int) % 2 = b'.2.1
          · rw [decide_eq_true c, decide_eq_false (by omega)]
            rfl
          · rw [decide_eq_false c, decide_eq_true (by omega)]
            rfl
      rw [ew]
      cases cb : bestI g bs (bs.map (·.2.2)) k with
      | false => exact iteF (no cb _ (Same.refl _))
      | true => exact iteT ⟨_, rfl, yes cb _ _ (Same.refl _) rfl⟩
    intro HA gA lA
    obtain ⟨us, hW0, pW⟩ := lA
    rw [List.map_id'] at pW
    have pW : Paired (NumAt HA) us (bestAt g bs (bs.map (·.2.2))) := pW
    rw [nums_vs pW] at hW0
    clear pW
    have tA := t9.same gA
    have gsA := gs9.same gA
    have hhA := hh9.mono (same_keep gA)
    have hbA := hb9.mono (same_tups gA)
    have rsA := rns_keep rss (same_keep gA)
    have nW := t9.new hW
    clear hW
    refine ⟨_, rfl, _, rfl, x1, D, rfl, bs, ys2, g, hhA, ok, by omega, nm2, gsA, good, fun HB pa gB hpa => ?_⟩
    refine ⟨_, rfl, W, _, rfl, .inl ⟨SqL.of (gB _ _ hW0), fun pb hpb => ?_⟩⟩
    have gb := same_new (o := .tup (numsV (bestAt g bs (bs.map (·.2.2))))) hpb
    refine .inr ⟨pa, pb, rfl, _, _, _, _, iteP rfl ⟨gb _ _ hpa, upd_same⟩, paired_atoms _ (atoms_nums _), paired_atoms _ (atoms_nums _), by rw [List.length_map]; unfold bestAt; have := List.length_filter_le (bestI g bs (bs.map (·.2.2))) (List.range bs.length); rw [List.length_range] at this; omega, fun HC gC => ⟨_, rfl, ?_⟩⟩
    rw [decide_eq_true rfl]
    refine iteF ?_
    have gAC := gB.trans (gb.trans gC)
    generalize upd HB pb (.tup (numsV (bestAt g bs (bs.map (·.2.2))))) = HB' at *
    have tC := tA.same gAC
    have gsC := gsA.same gAC
    have hhC := hhA.mono (same_keep gAC)
    have hbC := hbA.mono (same_tups gAC)
    have haC : HC ba = some (.tup xs) := gAC _ _ (gA _ _ ha)
    have prC : Paired (BoardAt HC) xs bs := paired_mono (fun _ _ h => h.mono (same_tups (gA.trans gAC))) pr
    have rsC := rns_keep rsA (same_keep gAC)
    have hWC := gAC _ _ hW0
    clear ha pr
    have pr := prC
    clear prC
    clear gC gb hpb hpa gB gAC hW0 rsA hbA hhA gsA tA gA t9 gs9 hh9 hb9 rss
    refine ⟨6, rfl, by decide, by decide, ?_⟩
    refine for_it (walk_range (lo := 0) (n := (6 : Int).toNat)) (fun j σ H' => ∃ u8 u10 u11 u12 u13, σ = [some (.ref s0), some (.ref tp), some (.int (0 + (i : Int))), some (.ref ba), some (.ref x1), some (.ref D), some (.str text), some (.ref R), u8, some (.ref W), u10, u11, u12, u13, v14, v15, v16, none] ∧ TapeAt H' tp l ∧ Mov tp HC H') ⟨_, _, _, _, _, rfl, tC, Mov.refl _ _⟩ (fun _ _ _ _ _ => trivial) ?_ ?_
    · rintro j y σ HS HS' hj ⟨u8, u10, u11, u12, u13, rfl, tS, mvS⟩ ⟨rfl, hy⟩
      refine ⟨Nat.zero_le _, fun L hL => ?_⟩
      have nL := tS.new hL
      have hL0 : HC L = none := by
        cases e : HC L with
        | none => rfl
        | some o => rw [mvS _ _ e nL.1] at hL; cases hL
      have kS := tC.keep mvS
      have gL := same_new (o := .lst []) hL
      refine ⟨_, rfl, ba, rfl, ⟨_, SqT.of (gL _ _ (kS.tups _ _ haC))⟩, ?_⟩
      refine for_it (walk_tup (K := K) (a := ba) (xs := xs)) (fun j2 σ H' => ∃ u8 u12 u13 us rws, σ = [some (.ref s0), some (.ref tp), some (.int (0 + (i : Int))), some (.ref ba), some (.ref x1), some (.ref D), some (.str text), some (.ref R), u8, some (.ref W), some y, some (.ref L), u12, u13, v14, v15, v16, none] ∧ TapeAt H' tp l ∧ Mov tp HC H' ∧ H' L = some (.lst us) ∧ Paired (RwAt H') us rws ∧ rws.length = j2 ∧ ∀ (i : Nat) b r, bs[i]? = some b → rws[i]? = some r → r ∈ g b.1 ∧ b.2.2 <+: r)
        ⟨u8, u12, u13, [], [], rfl, tS.upd nL, mov_mut mvS hL0, upd_same, .nil, rfl, fun i b r _ h => by cases h⟩ (fun j2 σ H' _ ⟨_, _, _, _, _, _, _, mv, _⟩ => SqT.of ((tC.keep mv).tups _ _ haC)) ?_ ?_
      · rintro j2 x σ H5 H5' hj2 ⟨w8', w12, w13, us, rws, rfl, t5, mv5, hL5, pu5, lr5, ok5⟩ ⟨rfl, hx⟩
        have k5 := tC.keep mv5
        obtain ⟨b, hbj, c, r0, rfl, hc0, hr00⟩ := paired_at pr j2 _ hx
        have hc := k5.tups _ _ hc0
        have hr0 := k5.tups _ _ hr00
        have mb := List.mem_of_getElem? hbj
        have mn : b.1 ∈ ys2 := (nm2.mem _).mpr (List.mem_map.mpr ⟨b, mb, rfl⟩)
        have GG := good _ mn
        have mr := GG.has _ (mem_rowsOf mb)
        obtain ⟨a2, dg, gm⟩ := (gsC.mono k5).get mn
        obtain ⟨zs, ha2, pz⟩ := id gm
        have ez := paired_len pz
        have few := GG.few
        refine ⟨c, _, rfl, SqT.of hc, rfl, _, _, rfl, _, _, rfl, _, _, rfl, rfl, ?_⟩
        refine ⟨_, rfl, .inl ⟨rfl, _, SqL.of hL5⟩, ?_⟩
        refine ⟨_, rfl, _, rfl, _, rfl, D, _, rfl, dg, a2, rfl, ⟨_, SqT.of ha2⟩, fun D2 hD2 => ?_⟩
        refine lcS (walk_tup (K := K) (a := a2) (xs := zs)) stays_rw (g b.1) (fun r => decide (r.take b.2.2.length = b.2.2)) (fun r => r) ez (by omega) (fun H6 g6 => SqT.of (g6 _ _ ha2)) hD2 ?_ ?_
        · rintro j3 x3 row H6 H6' Nx hrow ⟨rfl, hx3⟩ sm no yes
          obtain ⟨row', hr', r, rfl, hrr⟩ := paired_at pz j3 _ hx3
          have e : row' = row := Option.some.inj (hr'.symm.trans hrow)
          subst e
          have okw := GG.isG.ok _ (List.mem_of_getElem? hrow)
          refine ⟨rfl, ?_⟩
          refine ⟨_, rfl, _, rfl, r0, _, rfl, .inr (SqT.of (sm _ _ hr0)), _, rfl, sl_takeE (k := b.2.2.length) (by rw [List.length_map]) (sm _ _ hrr) fun r2 H7 g7 hr2 => ?_⟩
          rw [← List.map_take] at hr2
          refine ⟨_, rfl, rowD (row'.take b.2.2.length), rowD b.2.2, dp_row hr2, dp_row (g7 _ _ (sm _ _ hr0)), shaped_rw fun z hz => okw.2 z (List.mem_of_mem_take hz), shaped_rw (ok_rw (ok b mb)).2, ?_⟩
          rw [eqv_row]
          refine ⟨_, rfl, ?_⟩
          cases cc : decide (row'.take b.2.2.length = b.2.2) with
          | false => exact iteF (no cc _ g7)
          | true => exact iteT ⟨_, rfl, yes cc _ _ g7 ⟨r, rfl, g7 _ _ (sm _ _ hrr)⟩⟩
        intro H6 g6 l6
        obtain ⟨acc, hacc, pacc⟩ := l6
        rw [List.map_id'] at pacc
        have la : acc.length ≤ 64 := by
          rw [paired_len pacc]
          exact Nat.le_trans (List.length_filter_le _ _) (by omega)
        have la1 : 1 ≤ acc.length := by
          rw [paired_len pacc]
          exact List.length_pos_of_mem (List.mem_filter.mpr ⟨mr, decide_eq_true (List.take_length ..)⟩)
        have t6 := t5.same g6
        have nD2 := t5.new hD2
        refine ⟨tp, D2, rfl, l, acc, t6, hacc, nD2.1, la1, by omega, fun x7 H7 mx t7 mv7 => ?_⟩
        obtain ⟨j4, hj4⟩ := List.getElem?_of_mem mx
        obtain ⟨row, hrow, r, rfl, hrr⟩ := paired_at pacc j4 _ hj4
        obtain ⟨mrow, prow⟩ := List.mem_filter.mp (List.mem_of_getElem? hrow)
        have mv57 : Mov tp H5' H7 := (mov_same g6).trans mv7
        have hL7 := mv57 _ _ hL5 nL.1
        have lus : us.length ≤ 6 := by
          rw [paired_len pu5]
          have := (List.getElem?_eq_some_iff.mp hbj).1
          omega
        have kk := (t5.keep mv57).tups
        have hr7 := (t6.keep mv7).tups _ _ hrr
        have tl := tups_lst (vs := us ++ [.ref r]) hL7
        refine ⟨L, us, .ref r, rfl, rfl, hL7, by omega, ?_⟩
        refine ⟨_, _, _, us ++ [.ref r], rws ++ [row], rfl, t7.upd nL, mov_mut (mv5.trans mv57) hL0, upd_same, paired_snoc (paired_mono (fun _ _ z => stays_rw _ _ _ _ tl (stays_rw _ _ _ _ kk z)) pu5) ⟨r, rfl, tl _ _ hr7⟩, by rw [List.length_append, lr5]; rfl, fun i3 b3 r3 h3 h4 => ?_⟩
        rw [List.getElem?_append] at h4
        by_cases lt : i3 < rws.length
        · rw [if_pos lt] at h4
          exact ok5 i3 b3 r3 h3 h4
        · rw [if_neg lt] at h4
          have e0 : i3 - rws.length = 0 := by
            have := (List.getElem?_eq_some_iff.mp h4).1
            simp at this
            omega
          rw [e0] at h4
          have e4 : row = r3 := Option.some.inj h4
          have e5 : i3 = j2 := by omega
          subst e4 e5
          have e6 : b = b3 := Option.some.inj (hbj.symm.trans h3)
          subst e6
          exact ⟨mrow, List.prefix_iff_eq_take.mpr (of_decide_eq_true prow).symm⟩
      rintro σ H5 ⟨w8', w12, w13, us, rws, rfl, t5, mv5, hL5, pu5, lr5, ok5⟩
      have k5 := tC.keep mv5
      have lrw : rws.length = bs.length := by omega
      have R0 : RowsOk g bs rws := ⟨lrw, fun i b r h1 h2 => (ok5 i b r h1 h2).1, fun i b r h1 h2 => (ok5 i b r h1 h2).2⟩
      refine ⟨_, rfl, _, rfl, _, rfl, L, us, rfl, .inl ⟨SqL.of hL5, fun pt hpt => ?_⟩⟩
      have gt := same_new (o := .tup us) hpt
      have k6 := k5.trans (same_keep gt)
      refine ⟨x1, D, pt, rfl, bs, ys2, g, rws, hhC.mono k6, ok, by omega, nm2, gsC.mono k6, good, ⟨us, upd_same, paired_mono (fun _ _ z => stays_rw _ _ _ _ (tups_same gt) z) pu5⟩, R0, fun HM v gm hv => ?_⟩
      have gtm := gt.trans gm
      have k7 := k5.trans (same_keep gtm)
      refine ⟨_, rfl, _, rfl, _, rfl, _, rfl, _, rfl, ba, D, R, W, L, rfl, bs, ys2, g, rws, hbC.mono k7.tups, ok, by omega, nm2, gsC.mono k7, rns_keep rsC k7, good, gtm _ _ (mv5 _ _ hWC nW.1), ⟨us, gtm _ _ hL5, paired_mono (fun _ _ z => stays_rw _ _ _ _ (tups_same gtm) z) pu5⟩, R0, fun HN v2 gn hv2 => ?_⟩
      refine mv_is (o := moveOf g bs rws) (hv.same gn) hv2 fun HP gp => ⟨true, rfl, iteF ?_⟩
      have gall := gtm.trans (gn.trans gp)
      exact ⟨_, _, _, _, _, rfl, t5.same gall, mv5.trans (mov_same gall)⟩
    rintro σ H5 ⟨u8, u10, u11, u12, u13, rfl, t5, mv5⟩
    have k5 := tC.keep mv5
    refine ⟨_, rfl, ba, _, rfl, .inr (SqT.of (k5.tups _ _ haC)), xs.length, rfl, by omega, by omega, ?_⟩
    refine for_it (walk_range (lo := 0) (n := ((xs.length : Nat) : Int).toNat)) (fun j σ H' => ∃ u8 u12 u13 u14 u15 u16, σ = [some (.ref s0), some (.ref tp), some (.int (0 + (i : Int))), some (.ref ba), some (.ref x1), some (.ref D), some (.str text), some (.ref R), u8, some (.ref W), u10, u11, u12, u13, u14, u15, u16, none] ∧ TapeAt H' tp l ∧ Mov tp HC H') ⟨_, _, _, _, _, _, rfl, t5, mv5⟩ (fun _ _ _ _ _ => trivial) ?_ ?_
    · rintro k x σ HS HS' hk ⟨w8', w12, w13, w14, w15, w16, rfl, tS, mvS⟩ ⟨rfl, hx⟩
      have hx2 : x = .int ((k : Nat) : Int) := hx.trans (congrArg V.int (by omega))
      clear hx
      subst hx2
      have lk : k < bs.length := by
        have hk2 : k < ((xs.length : Nat) : Int).toNat := hk
        omega
      have hbk : bs[k]? = some bs[k] := List.getElem?_eq_getElem lk
      have hxk : xs[k]? = some (xs[k]'(by omega)) := List.getElem?_eq_getElem (by omega)
      generalize bs[k] = b at hbk
      generalize (xs[k]'(by omega)) = xk at hxk
      obtain ⟨b', hb', c, r0, rfl, hc0, hr00⟩ := paired_at pr k _ hxk
      have e : b' = b := Option.some.inj (hb'.symm.trans hbk)
      subst e
      have kS := tC.keep mvS
      have hc := kS.tups _ _ hc0
      have mb := List.mem_of_getElem? hb'
      have mn : b'.1 ∈ ys2 := (nm2.mem _).mpr (List.mem_map.mpr ⟨b', mb, rfl⟩)
      have GG := good _ mn
      have few := GG.few
      refine ⟨_, rfl, _, rfl, ba, xs, _, .ref c, rfl, rfl, SqT.of (kS.tups _ _ haC), atI_nat hxk, c, _, rfl, SqT.of hc, rfl, _, _, rfl, _, _, rfl, _, _, rfl, rfl, ?_⟩
      obtain ⟨a2, dg, gm⟩ := (gsC.mono kS).get mn
      obtain ⟨zs, ha2, pz⟩ := id gm
      have ez := paired_len pz
      refine ⟨_, rfl, _, rfl, _, rfl, D, _, rfl, dg, a2, zs, rfl, .inr (SqT.of ha2), fun L2 hL2 => ?_⟩
      have gL2 := same_new (o := .lst zs) hL2
      refine ⟨tp, L2, rfl, l, zs, tS.same gL2, upd_same, by omega, fun rr sh H6 hrr msh lsh t6 mv6 => ?_⟩
      refine ⟨_, rfl, rr, sh, rfl, SqL.of hrr, fun pc hpc => ?_⟩
      have gpc := same_new (o := .lst (cutV sh none (some 8))) hpc
      have t7 := t6.same gpc
      have mv7 : Mov tp HC (upd H6 pc (.lst (cutV sh none (some 8)))) := mvS.trans ((mov_same gL2).trans (mv6.trans (mov_same gpc)))
      have mvz : Mov tp HS' (upd H6 pc (.lst (cutV sh none (some 8)))) := (mov_same gL2).trans (mv6.trans (mov_same gpc))
      have mcut : ∀ z ∈ cutV sh none (some 8), z ∈ zs := fun z hz => msh z (by
        unfold cutV at hz
        exact List.mem_of_mem_drop (List.mem_of_mem_take hz))
      have hpc1 : upd H6 pc (.lst (cutV sh none (some 8))) pc = some (.lst (cutV sh none (some 8))) := upd_same
      generalize upd H6 pc (.lst (cutV sh none (some 8))) = H7 at t7 mv7 mvz hpc1
      generalize cutV sh none (some 8) = cut at mcut hpc1
      refine ⟨pc, rfl, ⟨_, SqL.of hpc1⟩, ?_⟩
      refine for_it (walk_list (K := K) (a := pc) (xs := cut)) (fun j3 σ H' => ∃ u15 u16, σ = [some (.ref s0), some (.ref tp), some (.int (0 + (i : Int))), some (.ref ba), some (.ref x1), some (.ref D), some (.str text), some (.ref R), some (.str b'.1), some (.ref W), u10, u11, some (.int b'.2.1), some (.ref r0), some (.int ((k : Nat) : Int)), u15, u16, none] ∧ Same H7 H') ⟨_, _, rfl, Same.refl _⟩ (fun j3 σ H' _ ⟨_, _, _, g⟩ => SqL.of (g _ _ hpc1)) ?_ ?_
      · rintro j3 x3 σ H8 H8' hj3 ⟨z15, z16, rfl, g8⟩ ⟨rfl, hx3⟩
        obtain ⟨j4, hj4⟩ := List.getElem?_of_mem (mcut _ (List.mem_of_getElem? hx3))
        obtain ⟨row, hrow, r, rfl, hr0'⟩ := paired_at pz j4 _ hj4
        have mr := List.mem_of_getElem? hrow
        have okw := GG.isG.ok _ mr
        have hr7 := (tS.keep mvz).tups _ _ hr0'
        have hr8 := g8 _ _ hr7
        refine ⟨_, rfl, r, _, rfl, .inr (SqT.of hr8), _, 2, rfl, rfl, (by show (0 : Int) < 2; decide), _, rfl, rfl, _, rfl, ?_⟩
        rw [List.length_map, decI]
        refine ite2 (fun z => ?_) (fun _ => ⟨_, _, rfl, g8⟩)
        have nt : (row.length : Int) % 2 ≠ b'.2.1 := fun e => by
          rw [decide_eq_true e] at z
          cases z
        have k8 : Keep HC H8' := (tC.keep mv7).trans (same_keep g8)
        obtain ⟨a3, dg3, gm3⟩ := (gsC.mono k8).get mn
        obtain ⟨kvs, hR, hkR, hvR⟩ := id (rns_keep rsC k8)
        obtain ⟨y1, ey1, E1, rfl, rsE⟩ := hvR _ mn
        refine ⟨_, rfl, _, rfl, D, _, rfl, dg3, _, rfl, _, rfl, R, _, rfl, ey1 ▸ DGet.k (k := .inr b'.1) hR, _, rfl, a3, E1, r, rfl, g b'.1, row, gm3, GG.isG, few, rsE, hr8, mr, fun H9 pg g9 hpg => ?_⟩
        obtain ⟨a4, dg4, gm4⟩ := ((gsC.mono k8).same g9).get mn
        refine ⟨_, rfl, _, rfl, D, _, rfl, dg4, _, rfl, a4, r, rfl, g b'.1, row, gm4, GG.isG, g9 _ _ hr8, okw.2, few, fun pw H10 g10 hpw => ?_⟩
        have lg : (goodOf (g b'.1) row).length ≤ 600 := by
          unfold goodOf
          rw [List.length_map]
          exact Nat.le_trans (List.length_filter_le _ _) (Nat.le_trans (List.length_filter_le _ _) GG.isG.few)
        have lw : (wordsAt (g b'.1) row).length ≤ 600 := by
          have e := congrArg List.length (nexts_words (g b'.1) row)
          rw [List.length_map] at e
          have := List.length_filter_le (isNext row) (g b'.1)
          unfold nexts at e
          omega
        refine ⟨pg, pw, _, _, rfl, rfl, g10 _ _ hpg, hpw, by rw [List.length_map, List.length_map]; omega, fun p1 hp1 => ?_⟩
        refine ⟨by show 1 ≤ PySem.sizeLine; decide, fun p2 hp2 => ?_⟩
        have gp1 := same_new (o := .lst ((goodOf (g b'.1) row).map V.str ++ (wordsAt (g b'.1) row).map V.str)) hp1
        have gp2 := same_new (o := .lst [V.non]) hp2
        refine ⟨p1, p2, _, _, rfl, rfl, gp2 _ _ upd_same, upd_same, by rw [List.length_append, List.length_map, List.length_map]; show _ + 1 ≤ _; omega, fun p3 hp3 => ?_⟩
        have gp3 := same_new (o := .lst ((goodOf (g b'.1) row).map V.str ++ (wordsAt (g b'.1) row).map V.str ++ [V.non])) hp3
        have gA := g9.trans (g10.trans (gp1.trans (gp2.trans gp3)))
        have hd := head_at (goodOf (g b'.1) row ++ wordsAt (g b'.1) row)
        rw [List.map_append] at hd
        have kA := k8.trans (same_keep gA)
        refine ⟨_, rfl, _, rfl, _, rfl, _, rfl, x1, D, _, r, rfl, bs, ys2, g, row, b', k, rfl, hhC.mono kA, ok, by omega, nm2, gsC.mono kA, good, hbk, gA _ _ hr8, mr, nt, fun H11 g11 => ?_⟩
        refine ⟨_, rfl, p3, _, 0, _, rfl, rfl, SqL.of (g11 _ _ upd_same), hd, head_scal _, _, rfl, ?_⟩
        rw [decide_eq_true rfl]
        exact iteF ⟨_, _, rfl, g8.trans (gA.trans g11)⟩
      · rintro σ H8 ⟨z15, z16, rfl, g8⟩
        exact ⟨_, _, _, _, _, _, rfl, t7.same g8, mv7.trans (mov_same g8)⟩
    rintro σ H6 ⟨w8', w12, w13, w14, w15, w16, rfl, t6, mv6⟩
    have k6 := tC.keep mv6
    refine ⟨_, rfl, D, gsD ys2 g, rfl, sh_games (gsC.mono k6) nm2.nd, show_games ys2 g, shown.1, shown.2, _, rfl, rfl, _, rfl, ?_⟩
    rw [htx, decide_eq_true rfl]
    exact iteF ⟨_, _, _, _, _, _, _, _, _, _, _, _, _, _, _, rfl, t6⟩
end
end K06
namespace K06
open PySem L2 Nm
theorem all_mk {l : PySem.W.OpenLaw} {w : World} {K : PySem.W.Frag} {h : Heap} {mg : Str → Option Value} {fa CHall f1 f2 f3 f4 f5 f6 f7 f8 f9 f10 f11 f12 f13 f14 f15 f16 f17 f18 f19 f20 f21 f22 f23 f24 f25 f26 f27 f28 f29 f30 f31 f32 f33 f34 f35 f36 f37 f38 f39 f40 f41 f42 f43 f44 f45 f46 : Addr} (X : K.In h) (G : h.Ns mainGlobals mg) (hfa : mg "law" = some (.ref fa))
    {od1 an1 od2 an2 od3 an3 od4 an4 od5 an5 od6 an6 od7 an7 od8 an8 od9 an9 od10 an10 od11 an11 od12 an12 od13 an13 od14 an14 od15 an15 od16 an16 od17 an17 od18 an18 od19 an19 od20 an20 od21 an21 od22 an22 od23 an23 od24 an24 od25 an25 od26 an26 od27 an27 od28 an28 od29 an29 od30 an30 od31 an31 od32 an32 od33 an33 od34 an34 od35 an35 od36 an36 od37 an37 od38 an38 od39 an39 od40 an40 od41 an41 od42 an42 od43 an43 od44 an44 od45 an45 od46 an46 : Option Addr} {sl1 sl2 sl3 sl4 sl5 sl6 sl7 sl8 sl9 sl10 sl11 sl12 sl13 sl14 sl15 sl16 sl17 sl18 sl19 sl20 sl21 sl22 sl23 sl24 sl25 sl26 sl27 sl28 sl29 sl30 sl31 sl32 sl33 sl34 sl35 sl36 sl37 sl38 sl39 sl40 sl41 sl42 sl43 sl44 sl45 sl46 : Array (Option Value)} {oc1 kV1 dc1 pm1 cd1 ct1 oc2 kV2 dc2 pm2 cd2 ct2 oc3 kV3 dc3 pm3 cd3 ct3 oc4 kV4 dc4 pm4 cd4 ct4 oc5 kV5 dc5 pm5 cd5 ct5 oc6 kV6 dc6 pm6 cd6 ct6 oc7 kV7 dc7 pm7 cd7 ct7 oc8 kV8 dc8 pm8 cd8 ct8 oc9 kV9 dc9 pm9 cd9 ct9 oc10 kV10 dc10 pm10 cd10 ct10 oc11 kV11 dc11 pm11 cd11 ct11 oc12 kV12 dc12 pm12 cd12 ct12 oc13 kV13 dc13 pm13 cd13 ct13 oc14 kV14 dc14 pm14 cd14 ct14 oc15 kV15 dc15 pm15 cd15 ct15 oc16 kV16 dc16 pm16 cd16 ct16 oc17 kV17 dc17 pm17 cd17 ct17 oc18 kV18 dc18 pm18 cd18 ct18 oc19 kV19 dc19 pm19 cd19 ct19 oc20 kV20 dc20 pm20 cd20 ct20 oc21 kV21 dc21 pm21 cd21 ct21 oc22 kV22 dc22 pm22 cd22 ct22 oc23 kV23 dc23 pm23 cd23 ct23 oc24 kV24 dc24 pm24 cd24 ct24 oc25 kV25 dc25 pm25 cd25 ct25 oc26 kV26 dc26 pm26 cd26 ct26 oc27 kV27 dc27 pm27 cd27 ct27 oc28 kV28 dc28 pm28 cd28 ct28 oc29 kV29 dc29 pm29 cd29 ct29 oc30 kV30 dc30 pm30 cd30 ct30 oc31 kV31 dc31 pm31 cd31 ct31 oc32 kV32 dc32 pm32 cd32 ct32 oc33 kV33 dc33 pm33 cd33 ct33 oc34 kV34 dc34 pm34 cd34 ct34 oc35 kV35 dc35 pm35 cd35 ct35 oc36 kV36 dc36 pm36 cd36 ct36 oc37 kV37 dc37 pm37 cd37 ct37 oc38 kV38 dc38 pm38 cd38 ct38 oc39 kV39 dc39 pm39 cd39 ct39 oc40 kV40 dc40 pm40 cd40 ct40 oc41 kV41 dc41 pm41 cd41 ct41 oc42 kV42 dc42 pm42 cd42 ct42 oc43 kV43 dc43 pm43 cd43 ct43 oc44 kV44 dc44 pm44 cd44 ct44 oc45 kV45 dc45 pm45 cd45 ct45 oc46 kV46 dc46 pm46 cd46 ct46 : Value} {tMOST_BEGUN tMOST_BOARDS tMOST_ROWS tMOST_WORDS : Tok}
    (a_Hall : PySem.W.nsIn K mainGlobals "Hall" = some (some (.ref CHall)))
    (a1 : PySem.W.nsIn K mainGlobals "is_integer" = some (some (.ref f1)))
    (l1 : K.lookup f1 = some ⟨oc1, od1, .func (PySem.W.fnOf "is_integer" "is_integer" (defArgs s_is_integer) (defBody s_is_integer) (defScope s_is_integer) .none kV1 dc1 pm1 an1 cd1 ct1), sl1⟩)
    (c1 : PySem.W.codeIn K cd1 "is_integer" = true)
    (k1 : PySem.W.keepIn K (.ref f1) = true)
    (a2 : PySem.W.nsIn K mainGlobals "is_within" = some (some (.ref f2)))
    (l2 : K.lookup f2 = some ⟨oc2, od2, .func (PySem.W.fnOf "is_within" "is_within" (defArgs s_is_within) (defBody s_is_within) (defScope s_is_within) .none kV2 dc2 pm2 an2 cd2 ct2), sl2⟩)
    (c2 : PySem.W.codeIn K cd2 "is_within" = true)
    (k2 : PySem.W.keepIn K (.ref f2) = true)
    (a3 : PySem.W.nsIn K mainGlobals "is_side" = some (some (.ref f3)))
    (l3 : K.lookup f3 = some ⟨oc3, od3, .func (PySem.W.fnOf "is_side" "is_side" (defArgs s_is_side) (defBody s_is_side) (defScope s_is_side) .none kV3 dc3 pm3 an3 cd3 ct3), sl3⟩)
    (c3 : PySem.W.codeIn K cd3 "is_side" = true)
    (k3 : PySem.W.keepIn K (.ref f3) = true)
    (a4 : PySem.W.nsIn K mainGlobals "is_lettered" = some (some (.ref f4)))
    (l4 : K.lookup f4 = some ⟨oc4, od4, .func (PySem.W.fnOf "is_lettered" "is_lettered" (defArgs s_is_lettered) (defBody s_is_lettered) (defScope s_is_lettered) .none kV4 dc4 pm4 an4 cd4 ct4), sl4⟩)
    (c4 : PySem.W.codeIn K cd4 "is_lettered" = true)
    (k4 : PySem.W.keepIn K (.ref f4) = true)
    (a5 : PySem.W.nsIn K mainGlobals "is_word" = some (some (.ref f5)))
    (l5 : K.lookup f5 = some ⟨oc5, od5, .func (PySem.W.fnOf "is_word" "is_word" (defArgs s_is_word) (defBody s_is_word) (defScope s_is_word) .none kV5 dc5 pm5 an5 cd5 ct5), sl5⟩)
    (c5 : PySem.W.codeIn K cd5 "is_word" = true)
    (k5 : PySem.W.keepIn K (.ref f5) = true)
    (a6 : PySem.W.nsIn K mainGlobals "is_words" = some (some (.ref f6)))
    (l6 : K.lookup f6 = some ⟨oc6, od6, .func (PySem.W.fnOf "is_words" "is_words" (defArgs s_is_words) (defBody s_is_words) (defScope s_is_words) .none kV6 dc6 pm6 an6 cd6 ct6), sl6⟩)
    (c6 : PySem.W.codeIn K cd6 "is_words" = true)
    (k6 : PySem.W.keepIn K (.ref f6) = true)
    (a7 : PySem.W.nsIn K mainGlobals "is_name" = some (some (.ref f7)))
    (l7 : K.lookup f7 = some ⟨oc7, od7, .func (PySem.W.fnOf "is_name" "is_name" (defArgs s_is_name) (defBody s_is_name) (defScope s_is_name) .none kV7 dc7 pm7 an7 cd7 ct7), sl7⟩)
    (c7 : PySem.W.codeIn K cd7 "is_name" = true)
    (k7 : PySem.W.keepIn K (.ref f7) = true)
    (a8 : PySem.W.nsIn K mainGlobals "is_board" = some (some (.ref f8)))
    (l8 : K.lookup f8 = some ⟨oc8, od8, .func (PySem.W.fnOf "is_board" "is_board" (defArgs s_is_board) (defBody s_is_board) (defScope s_is_board) .none kV8 dc8 pm8 an8 cd8 ct8), sl8⟩)
    (c8 : PySem.W.codeIn K cd8 "is_board" = true)
    (k8 : PySem.W.keepIn K (.ref f8) = true)
    (a9 : PySem.W.nsIn K mainGlobals "names_of" = some (some (.ref f9)))
    (l9 : K.lookup f9 = some ⟨oc9, od9, .func (PySem.W.fnOf "names_of" "names_of" (defArgs s_names_of) (defBody s_names_of) (defScope s_names_of) .none kV9 dc9 pm9 an9 cd9 ct9), sl9⟩)
    (c9 : PySem.W.codeIn K cd9 "names_of" = true)
    (k9 : PySem.W.keepIn K (.ref f9) = true)
    (a10 : PySem.W.findIn K (.ref CHall) "__init__" = some (some (.ref f10)))
    (i10 : PySem.W.isFn K (.ref f10) = true)
    (l10 : K.lookup f10 = some ⟨oc10, od10, .func (PySem.W.fnOf "__init__" "Hall.__init__" (defArgs s_Hall___init__) (defBody s_Hall___init__) (defScope s_Hall___init__) .none kV10 dc10 pm10 an10 cd10 ct10), sl10⟩)
    (c10 : PySem.W.codeIn K cd10 "Hall.__init__" = true)
    (k10 : PySem.W.keepIn K (.ref f10) = true)
    (a11 : PySem.W.nsIn K mainGlobals "_law_tape" = some (some (.ref f11)))
    (l11 : K.lookup f11 = some ⟨oc11, od11, .func (PySem.W.fnOf "_law_tape" "_law_tape" (defArgs s__law_tape) (defBody s__law_tape) (defScope s__law_tape) .none kV11 dc11 pm11 an11 cd11 ct11), sl11⟩)
    (c11 : PySem.W.codeIn K cd11 "_law_tape" = true)
    (k11 : PySem.W.keepIn K (.ref f11) = true)
    (a12 : PySem.W.nsIn K mainGlobals "_law_pick" = some (some (.ref f12)))
    (l12 : K.lookup f12 = some ⟨oc12, od12, .func (PySem.W.fnOf "_law_pick" "_law_pick" (defArgs s__law_pick) (defBody s__law_pick) (defScope s__law_pick) .none kV12 dc12 pm12 an12 cd12 ct12), sl12⟩)
    (c12 : PySem.W.codeIn K cd12 "_law_pick" = true)
    (k12 : PySem.W.keepIn K (.ref f12) = true)
    (a13 : PySem.W.nsIn K mainGlobals "is_row" = some (some (.ref f13)))
    (l13 : K.lookup f13 = some ⟨oc13, od13, .func (PySem.W.fnOf "is_row" "is_row" (defArgs s_is_row) (defBody s_is_row) (defScope s_is_row) .none kV13 dc13 pm13 an13 cd13 ct13), sl13⟩)
    (c13 : PySem.W.codeIn K cd13 "is_row" = true)
    (k13 : PySem.W.keepIn K (.ref f13) = true)
    (a14 : PySem.W.nsIn K mainGlobals "is_ascending" = some (some (.ref f14)))
    (l14 : K.lookup f14 = some ⟨oc14, od14, .func (PySem.W.fnOf "is_ascending" "is_ascending" (defArgs s_is_ascending) (defBody s_is_ascending) (defScope s_is_ascending) .none kV14 dc14 pm14 an14 cd14 ct14), sl14⟩)
    (c14 : PySem.W.codeIn K cd14 "is_ascending" = true)
    (k14 : PySem.W.keepIn K (.ref f14) = true)
    (a15 : PySem.W.nsIn K mainGlobals "is_game" = some (some (.ref f15)))
    (l15 : K.lookup f15 = some ⟨oc15, od15, .func (PySem.W.fnOf "is_game" "is_game" (defArgs s_is_game) (defBody s_is_game) (defScope s_is_game) .none kV15 dc15 pm15 an15 cd15 ct15), sl15⟩)
    (c15 : PySem.W.codeIn K cd15 "is_game" = true)
    (k15 : PySem.W.keepIn K (.ref f15) = true)
    (a16 : PySem.W.nsIn K mainGlobals "check_game" = some (some (.ref f16)))
    (l16 : K.lookup f16 = some ⟨oc16, od16, .func (PySem.W.fnOf "check_game" "check_game" (defArgs s_check_game) (defBody s_check_game) (defScope s_check_game) .none kV16 dc16 pm16 an16 cd16 ct16), sl16⟩)
    (c16 : PySem.W.codeIn K cd16 "check_game" = true)
    (k16 : PySem.W.keepIn K (.ref f16) = true)
    (a17 : PySem.W.nsIn K mainGlobals "check_place" = some (some (.ref f17)))
    (l17 : K.lookup f17 = some ⟨oc17, od17, .func (PySem.W.fnOf "check_place" "check_place" (defArgs s_check_place) (defBody s_check_place) (defScope s_check_place) .none kV17 dc17 pm17 an17 cd17 ct17), sl17⟩)
    (c17 : PySem.W.codeIn K cd17 "check_place" = true)
    (k17 : PySem.W.keepIn K (.ref f17) = true)
    (a18 : PySem.W.nsIn K mainGlobals "let_words" = some (some (.ref f18)))
    (l18 : K.lookup f18 = some ⟨oc18, od18, .func (PySem.W.fnOf "let_words" "let_words" (defArgs s_let_words) (defBody s_let_words) (defScope s_let_words) .none kV18 dc18 pm18 an18 cd18 ct18), sl18⟩)
    (c18 : PySem.W.codeIn K cd18 "let_words" = true)
    (k18 : PySem.W.keepIn K (.ref f18) = true)
    (a19 : PySem.W.nsIn K mainGlobals "beginnings" = some (some (.ref f19)))
    (l19 : K.lookup f19 = some ⟨oc19, od19, .func (PySem.W.fnOf "beginnings" "beginnings" (defArgs s_beginnings) (defBody s_beginnings) (defScope s_beginnings) .none kV19 dc19 pm19 an19 cd19 ct19), sl19⟩)
    (c19 : PySem.W.codeIn K cd19 "beginnings" = true)
    (k19 : PySem.W.keepIn K (.ref f19) = true)
    (a20 : PySem.W.nsIn K mainGlobals "game_of" = some (some (.ref f20)))
    (l20 : K.lookup f20 = some ⟨oc20, od20, .func (PySem.W.fnOf "game_of" "game_of" (defArgs s_game_of) (defBody s_game_of) (defScope s_game_of) .none kV20 dc20 pm20 an20 cd20 ct20), sl20⟩)
    (c20 : PySem.W.codeIn K cd20 "game_of" = true)
    (k20 : PySem.W.keepIn K (.ref f20) = true)
    (a21 : PySem.W.nsIn K mainGlobals "_law_words" = some (some (.ref f21)))
    (l21 : K.lookup f21 = some ⟨oc21, od21, .func (PySem.W.fnOf "_law_words" "_law_words" (defArgs s__law_words) (defBody s__law_words) (defScope s__law_words) .none kV21 dc21 pm21 an21 cd21 ct21), sl21⟩)
    (c21 : PySem.W.codeIn K cd21 "_law_words" = true)
    (k21 : PySem.W.keepIn K (.ref f21) = true)
    (a22 : PySem.W.nsIn K mainGlobals "next_rows" = some (some (.ref f22)))
    (l22 : K.lookup f22 = some ⟨oc22, od22, .func (PySem.W.fnOf "next_rows" "next_rows" (defArgs s_next_rows) (defBody s_next_rows) (defScope s_next_rows) .none kV22 dc22 pm22 an22 cd22 ct22), sl22⟩)
    (c22 : PySem.W.codeIn K cd22 "next_rows" = true)
    (k22 : PySem.W.keepIn K (.ref f22) = true)
    (a23 : PySem.W.nsIn K mainGlobals "solved" = some (some (.ref f23)))
    (l23 : K.lookup f23 = some ⟨oc23, od23, .func (PySem.W.fnOf "solved" "solved" (defArgs s_solved) (defBody s_solved) (defScope s_solved) .none kV23 dc23 pm23 an23 cd23 ct23), sl23⟩)
    (c23 : PySem.W.codeIn K cd23 "solved" = true)
    (k23 : PySem.W.keepIn K (.ref f23) = true)
    (a24 : PySem.W.nsIn K mainGlobals "good_words" = some (some (.ref f24)))
    (l24 : K.lookup f24 = some ⟨oc24, od24, .func (PySem.W.fnOf "good_words" "good_words" (defArgs s_good_words) (defBody s_good_words) (defScope s_good_words) .none kV24 dc24 pm24 an24 cd24 ct24), sl24⟩)
    (c24 : PySem.W.codeIn K cd24 "good_words" = true)
    (k24 : PySem.W.keepIn K (.ref f24) = true)
    (a25 : PySem.W.nsIn K mainGlobals "_law_results" = some (some (.ref f25)))
    (l25 : K.lookup f25 = some ⟨oc25, od25, .func (PySem.W.fnOf "_law_results" "_law_results" (defArgs s__law_results) (defBody s__law_results) (defScope s__law_results) .none kV25 dc25 pm25 an25 cd25 ct25), sl25⟩)
    (c25 : PySem.W.codeIn K cd25 "_law_results" = true)
    (k25 : PySem.W.keepIn K (.ref f25) = true)
    (a26 : PySem.W.nsIn K mainGlobals "_law_some" = some (some (.ref f26)))
    (l26 : K.lookup f26 = some ⟨oc26, od26, .func (PySem.W.fnOf "_law_some" "_law_some" (defArgs s__law_some) (defBody s__law_some) (defScope s__law_some) .none kV26 dc26 pm26 an26 cd26 ct26), sl26⟩)
    (c26 : PySem.W.codeIn K cd26 "_law_some" = true)
    (k26 : PySem.W.keepIn K (.ref f26) = true)
    (a27 : PySem.W.nsIn K mainGlobals "_law_word" = some (some (.ref f27)))
    (l27 : K.lookup f27 = some ⟨oc27, od27, .func (PySem.W.fnOf "_law_word" "_law_word" (defArgs s__law_word) (defBody s__law_word) (defScope s__law_word) .none kV27 dc27 pm27 an27 cd27 ct27), sl27⟩)
    (c27 : PySem.W.codeIn K cd27 "_law_word" = true)
    (k27 : PySem.W.keepIn K (.ref f27) = true)
    (a28 : PySem.W.nsIn K mainGlobals "_law_line" = some (some (.ref f28)))
    (l28 : K.lookup f28 = some ⟨oc28, od28, .func (PySem.W.fnOf "_law_line" "_law_line" (defArgs s__law_line) (defBody s__law_line) (defScope s__law_line) .none kV28 dc28 pm28 an28 cd28 ct28), sl28⟩)
    (c28 : PySem.W.codeIn K cd28 "_law_line" = true)
    (k28 : PySem.W.keepIn K (.ref f28) = true)
    (a29 : PySem.W.nsIn K mainGlobals "_law_game" = some (some (.ref f29)))
    (l29 : K.lookup f29 = some ⟨oc29, od29, .func (PySem.W.fnOf "_law_game" "_law_game" (defArgs s__law_game) (defBody s__law_game) (defScope s__law_game) .none kV29 dc29 pm29 an29 cd29 ct29), sl29⟩)
    (c29 : PySem.W.codeIn K cd29 "_law_game" = true)
    (k29 : PySem.W.keepIn K (.ref f29) = true)
    (a30 : PySem.W.nsIn K mainGlobals "_law_boards" = some (some (.ref f30)))
    (l30 : K.lookup f30 = some ⟨oc30, od30, .func (PySem.W.fnOf "_law_boards" "_law_boards" (defArgs s__law_boards) (defBody s__law_boards) (defScope s__law_boards) .none kV30 dc30 pm30 an30 cd30 ct30), sl30⟩)
    (c30 : PySem.W.codeIn K cd30 "_law_boards" = true)
    (k30 : PySem.W.keepIn K (.ref f30) = true)
    (a31 : PySem.W.nsIn K mainGlobals "least_games" = some (some (.ref f31)))
    (l31 : K.lookup f31 = some ⟨oc31, od31, .func (PySem.W.fnOf "least_games" "least_games" (defArgs s_least_games) (defBody s_least_games) (defScope s_least_games) .none kV31 dc31 pm31 an31 cd31 ct31), sl31⟩)
    (c31 : PySem.W.codeIn K cd31 "least_games" = true)
    (k31 : PySem.W.keepIn K (.ref f31) = true)
    (a32 : PySem.W.nsIn K mainGlobals "_law_games_for" = some (some (.ref f32)))
    (l32 : K.lookup f32 = some ⟨oc32, od32, .func (PySem.W.fnOf "_law_games_for" "_law_games_for" (defArgs s__law_games_for) (defBody s__law_games_for) (defScope s__law_games_for) .none kV32 dc32 pm32 an32 cd32 ct32), sl32⟩)
    (c32 : PySem.W.codeIn K cd32 "_law_games_for" = true)
    (k32 : PySem.W.keepIn K (.ref f32) = true)
    (a33 : PySem.W.nsIn K mainGlobals "are_games" = some (some (.ref f33)))
    (l33 : K.lookup f33 = some ⟨oc33, od33, .func (PySem.W.fnOf "are_games" "are_games" (defArgs s_are_games) (defBody s_are_games) (defScope s_are_games) .none kV33 dc33 pm33 an33 cd33 ct33), sl33⟩)
    (c33 : PySem.W.codeIn K cd33 "are_games" = true)
    (k33 : PySem.W.keepIn K (.ref f33) = true)
    (a34 : PySem.W.nsIn K mainGlobals "check_games" = some (some (.ref f34)))
    (l34 : K.lookup f34 = some ⟨oc34, od34, .func (PySem.W.fnOf "check_games" "check_games" (defArgs s_check_games) (defBody s_check_games) (defScope s_check_games) .none kV34 dc34 pm34 an34 cd34 ct34), sl34⟩)
    (c34 : PySem.W.codeIn K cd34 "check_games" = true)
    (k34 : PySem.W.keepIn K (.ref f34) = true)
    (a35 : PySem.W.nsIn K mainGlobals "begun_rows" = some (some (.ref f35)))
    (l35 : K.lookup f35 = some ⟨oc35, od35, .func (PySem.W.fnOf "begun_rows" "begun_rows" (defArgs s_begun_rows) (defBody s_begun_rows) (defScope s_begun_rows) .none kV35 dc35 pm35 an35 cd35 ct35), sl35⟩)
    (c35 : PySem.W.codeIn K cd35 "begun_rows" = true)
    (k35 : PySem.W.keepIn K (.ref f35) = true)
    (a36 : PySem.W.nsIn K mainGlobals "is_turn" = some (some (.ref f36)))
    (l36 : K.lookup f36 = some ⟨oc36, od36, .func (PySem.W.fnOf "is_turn" "is_turn" (defArgs s_is_turn) (defBody s_is_turn) (defScope s_is_turn) .none kV36 dc36 pm36 an36 cd36 ct36), sl36⟩)
    (c36 : PySem.W.codeIn K cd36 "is_turn" = true)
    (k36 : PySem.W.keepIn K (.ref f36) = true)
    (a37 : PySem.W.nsIn K mainGlobals "best_at" = some (some (.ref f37)))
    (l37 : K.lookup f37 = some ⟨oc37, od37, .func (PySem.W.fnOf "best_at" "best_at" (defArgs s_best_at) (defBody s_best_at) (defScope s_best_at) .none kV37 dc37 pm37 an37 cd37 ct37), sl37⟩)
    (c37 : PySem.W.codeIn K cd37 "best_at" = true)
    (k37 : PySem.W.keepIn K (.ref f37) = true)
    (a38 : PySem.W.nsIn K mainGlobals "told_won" = some (some (.ref f38)))
    (l38 : K.lookup f38 = some ⟨oc38, od38, .func (PySem.W.fnOf "told_won" "told_won" (defArgs s_told_won) (defBody s_told_won) (defScope s_told_won) .none kV38 dc38 pm38 an38 cd38 ct38), sl38⟩)
    (c38 : PySem.W.codeIn K cd38 "told_won" = true)
    (k38 : PySem.W.keepIn K (.ref f38) = true)
    (a39 : PySem.W.nsIn K mainGlobals "are_rows" = some (some (.ref f39)))
    (l39 : K.lookup f39 = some ⟨oc39, od39, .func (PySem.W.fnOf "are_rows" "are_rows" (defArgs s_are_rows) (defBody s_are_rows) (defScope s_are_rows) .none kV39 dc39 pm39 an39 cd39 ct39), sl39⟩)
    (c39 : PySem.W.codeIn K cd39 "are_rows" = true)
    (k39 : PySem.W.keepIn K (.ref f39) = true)
    (a40 : PySem.W.nsIn K mainGlobals "told_move" = some (some (.ref f40)))
    (l40 : K.lookup f40 = some ⟨oc40, od40, .func (PySem.W.fnOf "told_move" "told_move" (defArgs s_told_move) (defBody s_told_move) (defScope s_told_move) .none kV40 dc40 pm40 an40 cd40 ct40), sl40⟩)
    (c40 : PySem.W.codeIn K cd40 "told_move" = true)
    (k40 : PySem.W.keepIn K (.ref f40) = true)
    (a41 : PySem.W.nsIn K mainGlobals "told_answer" = some (some (.ref f41)))
    (l41 : K.lookup f41 = some ⟨oc41, od41, .func (PySem.W.fnOf "told_answer" "told_answer" (defArgs s_told_answer) (defBody s_told_answer) (defScope s_told_answer) .none kV41 dc41 pm41 an41 cd41 ct41), sl41⟩)
    (c41 : PySem.W.codeIn K cd41 "told_answer" = true)
    (k41 : PySem.W.keepIn K (.ref f41) = true)
    (a42 : PySem.W.nsIn K mainGlobals "_law_shuffled" = some (some (.ref f42)))
    (l42 : K.lookup f42 = some ⟨oc42, od42, .func (PySem.W.fnOf "_law_shuffled" "_law_shuffled" (defArgs s__law_shuffled) (defBody s__law_shuffled) (defScope s__law_shuffled) .none kV42 dc42 pm42 an42 cd42 ct42), sl42⟩)
    (c42 : PySem.W.codeIn K cd42 "_law_shuffled" = true)
    (k42 : PySem.W.keepIn K (.ref f42) = true)
    (a43 : PySem.W.nsIn K mainGlobals "_law_good" = some (some (.ref f43)))
    (l43 : K.lookup f43 = some ⟨oc43, od43, .func (PySem.W.fnOf "_law_good" "_law_good" (defArgs s__law_good) (defBody s__law_good) (defScope s__law_good) .none kV43 dc43 pm43 an43 cd43 ct43), sl43⟩)
    (c43 : PySem.W.codeIn K cd43 "_law_good" = true)
    (k43 : PySem.W.keepIn K (.ref f43) = true)
    (a44 : PySem.W.nsIn K mainGlobals "_law_due_move" = some (some (.ref f44)))
    (l44 : K.lookup f44 = some ⟨oc44, od44, .func (PySem.W.fnOf "_law_due_move" "_law_due_move" (defArgs s__law_due_move) (defBody s__law_due_move) (defScope s__law_due_move) .none kV44 dc44 pm44 an44 cd44 ct44), sl44⟩)
    (c44 : PySem.W.codeIn K cd44 "_law_due_move" = true)
    (k44 : PySem.W.keepIn K (.ref f44) = true)
    (a45 : PySem.W.nsIn K mainGlobals "_law_is" = some (some (.ref f45)))
    (l45 : K.lookup f45 = some ⟨oc45, od45, .func (PySem.W.fnOf "_law_is" "_law_is" (defArgs s__law_is) (defBody s__law_is) (defScope s__law_is) .none kV45 dc45 pm45 an45 cd45 ct45), sl45⟩)
    (c45 : PySem.W.codeIn K cd45 "_law_is" = true)
    (k45 : PySem.W.keepIn K (.ref f45) = true)
    (a46 : PySem.W.nsIn K mainGlobals "law" = some (some (.ref f46)))
    (l46 : K.lookup f46 = some ⟨oc46, od46, .func (PySem.W.fnOf "law" "law" (defArgs s_law) (defBody s_law) (defScope s_law) .none kV46 dc46 pm46 an46 cd46 ct46), sl46⟩)
    (c46 : PySem.W.codeIn K cd46 "law" = true)
    (k46 : PySem.W.keepIn K (.ref f46) = true)
    (pg_Hall : PySem.W.plainGet K CHall Str.empty = true)
    (hd_Hall : PySem.W.hasDictIn K CHall = true)
    (po_Hall : PySem.W.plainOver K CHall = true)
    (sa_Hall : PySem.W.findIn K (.ref CHall) "__setattr__" = some (some (.builtin "object.__setattr__")))
    (mk_Hall : PySem.W.makesIn K CHall = true)
    (kc_Hall : PySem.W.keepIn K (.ref CHall) = true)
    (n_Hall_boards : PySem.W.findIn K (.ref CHall) "boards" = some none)
    (n_Hall_names : PySem.W.findIn K (.ref CHall) "names" = some none)
    (z_all : PySem.W.nsIn K mainGlobals "all" = some none)
    (z_bool : PySem.W.nsIn K mainGlobals "bool" = some none)
    (z_dict : PySem.W.nsIn K mainGlobals "dict" = some none)
    (z_enumerate : PySem.W.nsIn K mainGlobals "enumerate" = some none)
    (z_int : PySem.W.nsIn K mainGlobals "int" = some none)
    (z_isinstance : PySem.W.nsIn K mainGlobals "isinstance" = some none)
    (z_len : PySem.W.nsIn K mainGlobals "len" = some none)
    (z_list : PySem.W.nsIn K mainGlobals "list" = some none)
    (z_max : PySem.W.nsIn K mainGlobals "max" = some none)
    (z_min : PySem.W.nsIn K mainGlobals "min" = some none)
    (z_range : PySem.W.nsIn K mainGlobals "range" = some none)
    (z_repr : PySem.W.nsIn K mainGlobals "repr" = some none)
    (z_sorted : PySem.W.nsIn K mainGlobals "sorted" = some none)
    (z_str : PySem.W.nsIn K mainGlobals "str" = some none)
    (z_tuple : PySem.W.nsIn K mainGlobals "tuple" = some none)
    (z_zip : PySem.W.nsIn K mainGlobals "zip" = some none)
    (g_MOST_BEGUN : PySem.W.nsIn K mainGlobals "MOST_BEGUN" = some (some (.int 20 tMOST_BEGUN)))
    (g_MOST_BOARDS : PySem.W.nsIn K mainGlobals "MOST_BOARDS" = some (some (.int 12 tMOST_BOARDS)))
    (g_MOST_ROWS : PySem.W.nsIn K mainGlobals "MOST_ROWS" = some (some (.int 600 tMOST_ROWS)))
    (g_MOST_WORDS : PySem.W.nsIn K mainGlobals "MOST_WORDS" = some (some (.int 60 tMOST_WORDS))) :
    ∃ fd : FuncData, (∀ (s : Shared) (v : Value), BindsTo s fd ⟨[v], []⟩ [("script", v)]) ∧ ∀ base : Heap, K.In base → base.Ns mainGlobals mg → Nm.FnG l.prog w K mg base 12 fa fd ["script"] (sp_law K) := by
  have e := hfa.symm.trans (PySem.W.mg_of X G a46)
  cases e
  have F1 := fun_mk (st := s_is_integer) l1 c1 k1
  have F2 := fun_mk (st := s_is_within) l2 c2 k2
  have F3 := fun_mk (st := s_is_side) l3 c3 k3
  have F4 := fun_mk (st := s_is_lettered) l4 c4 k4
  have F5 := fun_mk (st := s_is_word) l5 c5 k5
  have F6 := fun_mk (st := s_is_words) l6 c6 k6
  have F7 := fun_mk (st := s_is_name) l7 c7 k7
  have F8 := fun_mk (st := s_is_board) l8 c8 k8
  have F9 := fun_mk (st := s_names_of) l9 c9 k9
  have F10 := fun_mk (st := s_Hall___init__) l10 c10 k10
  have F11 := fun_mk (st := s__law_tape) l11 c11 k11
  have F12 := fun_mk (st := s__law_pick) l12 c12 k12
  have F13 := fun_mk (st := s_is_row) l13 c13 k13
  have F14 := fun_mk (st := s_is_ascending) l14 c14 k14
  have F15 := fun_mk (st := s_is_game) l15 c15 k15
  have F16 := fun_mk (st := s_check_game) l16 c16 k16
  have F17 := fun_mk (st := s_check_place) l17 c17 k17
  have F18 := fun_mk (st := s_let_words) l18 c18 k18
  have F19 := fun_mk (st := s_beginnings) l19 c19 k19
  have F20 := fun_mk (st := s_game_of) l20 c20 k20
  have F21 := fun_mk (st := s__law_words) l21 c21 k21
  have F22 := fun_mk (st := s_next_rows) l22 c22 k22
  have F23 := fun_mk (st := s_solved) l23 c23 k23
  have F24 := fun_mk (st := s_good_words) l24 c24 k24
  have F25 := fun_mk (st := s__law_results) l25 c25 k25
  have F26 := fun_mk (st := s__law_some) l26 c26 k26
  have F27 := fun_mk (st := s__law_word) l27 c27 k27
  have F28 := fun_mk (st := s__law_line) l28 c28 k28
  have F29 := fun_mk (st := s__law_game) l29 c29 k29
  have F30 := fun_mk (st := s__law_boards) l30 c30 k30
  have F31 := fun_mk (st := s_least_games) l31 c31 k31
  have F32 := fun_mk (st := s__law_games_for) l32 c32 k32
  have F33 := fun_mk (st := s_are_games) l33 c33 k33
  have F34 := fun_mk (st := s_check_games) l34 c34 k34
  have F35 := fun_mk (st := s_begun_rows) l35 c35 k35
  have F36 := fun_mk (st := s_is_turn) l36 c36 k36
  have F37 := fun_mk (st := s_best_at) l37 c37 k37
  have F38 := fun_mk (st := s_told_won) l38 c38 k38
  have F39 := fun_mk (st := s_are_rows) l39 c39 k39
  have F40 := fun_mk (st := s_told_move) l40 c40 k40
  have F41 := fun_mk (st := s_told_answer) l41 c41 k41
  have F42 := fun_mk (st := s__law_shuffled) l42 c42 k42
  have F43 := fun_mk (st := s__law_good) l43 c43 k43
  have F44 := fun_mk (st := s__law_due_move) l44 c44 k44
  have F45 := fun_mk (st := s__law_is) l45 c45 k45
  have F46 := fun_mk (st := s_law) l46 c46 k46
  have T : Txt K mg := ⟨⟨_, _, F1, PySem.W.mg_of X G a1⟩,
    ⟨_, _, F2, PySem.W.mg_of X G a2⟩,
    ⟨_, _, F3, PySem.W.mg_of X G a3⟩,
    ⟨_, _, F4, PySem.W.mg_of X G a4⟩,
    ⟨_, _, F5, PySem.W.mg_of X G a5⟩,
    ⟨_, _, F6, PySem.W.mg_of X G a6⟩,
    ⟨_, _, F7, PySem.W.mg_of X G a7⟩,
    ⟨_, _, F8, PySem.W.mg_of X G a8⟩,
    ⟨_, _, F9, PySem.W.mg_of X G a9⟩,
    ⟨_, _, F11, PySem.W.mg_of X G a11⟩,
    ⟨_, _, F12, PySem.W.mg_of X G a12⟩,
    ⟨_, _, F13, PySem.W.mg_of X G a13⟩,
    ⟨_, _, F14, PySem.W.mg_of X G a14⟩,
    ⟨_, _, F15, PySem.W.mg_of X G a15⟩,
    ⟨_, _, F16, PySem.W.mg_of X G a16⟩,
    ⟨_, _, F17, PySem.W.mg_of X G a17⟩,
    ⟨_, _, F18, PySem.W.mg_of X G a18⟩,
    ⟨_, _, F19, PySem.W.mg_of X G a19⟩,
    ⟨_, _, F20, PySem.W.mg_of X G a20⟩,
    ⟨_, _, F21, PySem.W.mg_of X G a21⟩,
    ⟨_, _, F22, PySem.W.mg_of X G a22⟩,
    ⟨_, _, F23, PySem.W.mg_of X G a23⟩,
    ⟨_, _, F24, PySem.W.mg_of X G a24⟩,
    ⟨_, _, F25, PySem.W.mg_of X G a25⟩,
    ⟨_, _, F26, PySem.W.mg_of X G a26⟩,
    ⟨_, _, F27, PySem.W.mg_of X G a27⟩,
    ⟨_, _, F28, PySem.W.mg_of X G a28⟩,
    ⟨_, _, F29, PySem.W.mg_of X G a29⟩,
    ⟨_, _, F30, PySem.W.mg_of X G a30⟩,
    ⟨_, _, F31, PySem.W.mg_of X G a31⟩,
    ⟨_, _, F32, PySem.W.mg_of X G a32⟩,
    ⟨_, _, F33, PySem.W.mg_of X G a33⟩,
    ⟨_, _, F34, PySem.W.mg_of X G a34⟩,
    ⟨_, _, F35, PySem.W.mg_of X G a35⟩,
    ⟨_, _, F36, PySem.W.mg_of X G a36⟩,
    ⟨_, _, F37, PySem.W.mg_of X G a37⟩,
    ⟨_, _, F38, PySem.W.mg_of X G a38⟩,
    ⟨_, _, F39, PySem.W.mg_of X G a39⟩,
    ⟨_, _, F40, PySem.W.mg_of X G a40⟩,
    ⟨_, _, F41, PySem.W.mg_of X G a41⟩,
    ⟨_, _, F42, PySem.W.mg_of X G a42⟩,
    ⟨_, _, F43, PySem.W.mg_of X G a43⟩,
    ⟨_, _, F44, PySem.W.mg_of X G a44⟩,
    ⟨_, _, F45, PySem.W.mg_of X G a45⟩,
    ⟨_, _, F46, PySem.W.mg_of X G a46⟩,
    PySem.W.mg_none_of X G z_all,
    PySem.W.mg_none_of X G z_bool,
    PySem.W.mg_none_of X G z_dict,
    PySem.W.mg_none_of X G z_enumerate,
    PySem.W.mg_none_of X G z_int,
    PySem.W.mg_none_of X G z_isinstance,
    PySem.W.mg_none_of X G z_len,
    PySem.W.mg_none_of X G z_list,
    PySem.W.mg_none_of X G z_max,
    PySem.W.mg_none_of X G z_min,
    PySem.W.mg_none_of X G z_range,
    PySem.W.mg_none_of X G z_repr,
    PySem.W.mg_none_of X G z_sorted,
    PySem.W.mg_none_of X G z_str,
    PySem.W.mg_none_of X G z_tuple,
    PySem.W.mg_none_of X G z_zip,
    ⟨_, PySem.W.mg_of X G g_MOST_BEGUN, ⟨_, rfl⟩⟩,
    ⟨_, PySem.W.mg_of X G g_MOST_BOARDS, ⟨_, rfl⟩⟩,
    ⟨_, PySem.W.mg_of X G g_MOST_ROWS, ⟨_, rfl⟩⟩,
    ⟨_, PySem.W.mg_of X G g_MOST_WORDS, ⟨_, rfl⟩⟩,
    ⟨_, _, _, ⟨pg_Hall, hd_Hall, po_Hall, sa_Hall⟩, ⟨mk_Hall, a10, i10, kc_Hall⟩, PySem.W.mg_of X G a_Hall, F10, n_Hall_boards, n_Hall_names⟩⟩
  exact ⟨PySem.W.fnOf "law" "law" (defArgs s_law) (defBody s_law) (defScope s_law) .none kV46 dc46 pm46 an46 cd46 ct46, fun s v => .of_eq rfl, fun base _ _ => ok_law F46 T⟩
theorem walk {l : PySem.W.OpenLaw} {q : Program} {loose : List Str} {XP : (Str → Option Value) → Heap → Prop} {YP : World → Heap → Prop} {d : DefRec} {K : Params → PySem.W.Frag} (hn : l.most = some 63) (hdf : d.params.defaults = [])
    (hY : ∀ (w : World) (h : Heap), YP w h → (K w.params).In h)
    (F : ∀ (w : World) (mg : Str → Option Value) (fa : Addr) (h : Heap), (K w.params).In h → h.Ns mainGlobals mg → mg d.name = some (.ref fa) →
      ∃ fd : FuncData, (∀ (s : Shared) (u : Value), BindsTo s fd ⟨[u], []⟩ [("script", u)]) ∧ ∀ base : Heap, (K w.params).In base → base.Ns mainGlobals mg → Nm.FnG l.prog w (K w.params) mg base 12 fa fd ["script"] (sp_law (K w.params))) :
    PySem.W.WalkO q loose XP YP l.row.toRowW d [] (fun f vs => PySem.call f vs) :=
  Nm.walk_ofG (n := 63) (k := 12) (x := "script") (sp := fun w => sp_law (K w.params)) hn (by decide) hdf ⟨rfl, by decide, by decide⟩ hY F (fun _ _ a ns hS => ⟨a, ns, rfl, hS, fun _ => rfl⟩)
end K06
open PySem PySem.W PyProof.Rows
set_option maxRecDepth 100000 in
set_option maxHeartbeats 0 in
theorem PySem.Challenge.cw_untoldgames_k06_whole_what_a_knowing_gue_holds : PySem.Challenge.rw_untoldgames_k06_whole_what_a_knowing_gue.Holds := by
  w_on; o_law; k_head; (case hw => w_witness2)
  k_fill
  refine K06.walk (l := PySem.Challenge.rw_untoldgames_k06_whole_what_a_knowing_gue) rfl rfl (fun w h Y => PySem.W.kIn_of Y) ?F
  case F =>
    intro w mg fa h KX G hmg
    refine' K06.all_mk KX G hmg ?a_Hall ?a1 ?l1 ?c1 ?k1 ?a2 ?l2 ?c2 ?k2 ?a3 ?l3 ?c3 ?k3 ?a4 ?l4 ?c4 ?k4 ?a5 ?l5 ?c5 ?k5 ?a6 ?l6 ?c6 ?k6 ?a7 ?l7 ?c7 ?k7 ?a8 ?l8 ?c8 ?k8 ?a9 ?l9 ?c9 ?k9 ?a10 ?i10 ?l10 ?c10 ?k10 ?a11 ?l11 ?c11 ?k11 ?a12 ?l12 ?c12 ?k12 ?a13 ?l13 ?c13 ?k13 ?a14 ?l14 ?c14 ?k14 ?a15 ?l15 ?c15 ?k15 ?a16 ?l16 ?c16 ?k16 ?a17 ?l17 ?c17 ?k17 ?a18 ?l18 ?c18 ?k18 ?a19 ?l19 ?c19 ?k19 ?a20 ?l20 ?c20 ?k20 ?a21 ?l21 ?c21 ?k21 ?a22 ?l22 ?c22 ?k22 ?a23 ?l23 ?c23 ?k23 ?a24 ?l24 ?c24 ?k24 ?a25 ?l25 ?c25 ?k25 ?a26 ?l26 ?c26 ?k26 ?a27 ?l27 ?c27 ?k27 ?a28 ?l28 ?c28 ?k28 ?a29 ?l29 ?c29 ?k29 ?a30 ?l30 ?c30 ?k30 ?a31 ?l31 ?c31 ?k31 ?a32 ?l32 ?c32 ?k32 ?a33 ?l33 ?c33 ?k33 ?a34 ?l34 ?c34 ?k34 ?a35 ?l35 ?c35 ?k35 ?a36 ?l36 ?c36 ?k36 ?a37 ?l37 ?c37 ?k37 ?a38 ?l38 ?c38 ?k38 ?a39 ?l39 ?c39 ?k39 ?a40 ?l40 ?c40 ?k40 ?a41 ?l41 ?c41 ?k41 ?a42 ?l42 ?c42 ?k42 ?a43 ?l43 ?c43 ?k43 ?a44 ?l44 ?c44 ?k44 ?a45 ?l45 ?c45 ?k45 ?a46 ?l46 ?c46 ?k46 ?pg_Hall ?hd_Hall ?po_Hall ?sa_Hall ?mk_Hall ?kc_Hall ?n_Hall_boards ?n_Hall_names ?z_all ?z_bool ?z_dict ?z_enumerate ?z_int ?z_isinstance ?z_len ?z_list ?z_max ?z_min ?z_range ?z_repr ?z_sorted ?z_str ?z_tuple ?z_zip ?g_MOST_BEGUN ?g_MOST_BOARDS ?g_MOST_ROWS ?g_MOST_WORDS
    (case a_Hall => k_is)
    (case a1 => k_is)
    (case l1 => k_is)
    (case c1 => k_is)
    (case k1 => k_is)
    (case a2 => k_is)
    (case l2 => k_is)
    (case c2 => k_is)
    (case k2 => k_is)
    (case a3 => k_is)
    (case l3 => k_is)
    (case c3 => k_is)
    (case k3 => k_is)
    (case a4 => k_is)
    (case l4 => k_is)
    (case c4 => k_is)
    (case k4 => k_is)
    (case a5 => k_is)
    (case l5 => k_is)
    (case c5 => k_is)
    (case k5 => k_is)
    (case a6 => k_is)
    (case l6 => k_is)
    (case c6 => k_is)
    (case k6 => k_is)
    (case a7 => k_is)
    (case l7 => k_is)
    (case c7 => k_is)
    (case k7 => k_is)
    (case a8 => k_is)
    (case l8 => k_is)
    (case c8 => k_is)
    (case k8 => k_is)
    (case a9 => k_is)
    (case l9 => k_is)
    (case c9 => k_is)
    (case k9 => k_is)
    (case a10 => k_is)
    (case i10 => k_is)
    (case l10 => k_is)
    (case c10 => k_is)
    (case k10 => k_is)
    (case a11 => k_is)
    (case l11 => k_is)
    (case c11 => k_is)
    (case k11 => k_is)
    (case a12 => k_is)
    (case l12 => k_is)
    (case c12 => k_is)
    (case k12 => k_is)
    (case a13 => k_is)
    (case l13 => k_is)
    (case c13 => k_is)
    (case k13 => k_is)
    (case a14 => k_is)
    (case l14 => k_is)
    (case c14 => k_is)
    (case k14 => k_is)
    (case a15 => k_is)
    (case l15 => k_is)
    (case c15 => k_is)
    (case k15 => k_is)
    (case a16 => k_is)
    (case l16 => k_is)
    (case c16 => k_is)
    (case k16 => k_is)
    (case a17 => k_is)
    (case l17 => k_is)
    (case c17 => k_is)
    (case k17 => k_is)
    (case a18 => k_is)
    (case l18 => k_is)
    (case c18 => k_is)
    (case k18 => k_is)
    (case a19 => k_is)
    (case l19 => k_is)
    (case c19 => k_is)
    (case k19 => k_is)
    (case a20 => k_is)
    (case l20 => k_is)
    (case c20 => k_is)
    (case k20 => k_is)
    (case a21 => k_is)
    (case l21 => k_is)
    (case c21 => k_is)
    (case k21 => k_is)
    (case a22 => k_is)
    (case l22 => k_is)
    (case c22 => k_is)
    (case k22 => k_is)
    (case a23 => k_is)
    (case l23 => k_is)
    (case c23 => k_is)
    (case k23 => k_is)
    (case a24 => k_is)
    (case l24 => k_is)
    (case c24 => k_is)
    (case k24 => k_is)
    (case a25 => k_is)
    (case l25 => k_is)
    (case c25 => k_is)
    (case k25 => k_is)
    (case a26 => k_is)
    (case l26 => k_is)
    (case c26 => k_is)
    (case k26 => k_is)
    (case a27 => k_is)
    (case l27 => k_is)
    (case c27 => k_is)
    (case k27 => k_is)
    (case a28 => k_is)
    (case l28 => k_is)
    (case c28 => k_is)
    (case k28 => k_is)
    (case a29 => k_is)
    (case l29 => k_is)
    (case c29 => k_is)
    (case k29 => k_is)
    (case a30 => k_is)
    (case l30 => k_is)
    (case c30 => k_is)
    (case k30 => k_is)
    (case a31 => k_is)
    (case l31 => k_is)
    (case c31 => k_is)
    (case k31 => k_is)
    (case a32 => k_is)
    (case l32 => k_is)
    (case c32 => k_is)
    (case k32 => k_is)
    (case a33 => k_is)
    (case l33 => k_is)
    (case c33 => k_is)
    (case k33 => k_is)
    (case a34 => k_is)
    (case l34 => k_is)
    (case c34 => k_is)
    (case k34 => k_is)
    (case a35 => k_is)
    (case l35 => k_is)
    (case c35 => k_is)
    (case k35 => k_is)
    (case a36 => k_is)
    (case l36 => k_is)
    (case c36 => k_is)
    (case k36 => k_is)
    (case a37 => k_is)
    (case l37 => k_is)
    (case c37 => k_is)
    (case k37 => k_is)
    (case a38 => k_is)
    (case l38 => k_is)
    (case c38 => k_is)
    (case k38 => k_is)
    (case a39 => k_is)
    (case l39 => k_is)
    (case c39 => k_is)
    (case k39 => k_is)
    (case a40 => k_is)
    (case l40 => k_is)
    (case c40 => k_is)
    (case k40 => k_is)
    (case a41 => k_is)
    (case l41 => k_is)
    (case c41 => k_is)
    (case k41 => k_is)
    (case a42 => k_is)
    (case l42 => k_is)
    (case c42 => k_is)
    (case k42 => k_is)
    (case a43 => k_is)
    (case l43 => k_is)
    (case c43 => k_is)
    (case k43 => k_is)
    (case a44 => k_is)
    (case l44 => k_is)
    (case c44 => k_is)
    (case k44 => k_is)
    (case a45 => k_is)
    (case l45 => k_is)
    (case c45 => k_is)
    (case k45 => k_is)
    (case a46 => k_is)
    (case l46 => k_is)
    (case c46 => k_is)
    (case k46 => k_is)
    (case pg_Hall => k_is)
    (case hd_Hall => k_is)
    (case po_Hall => k_is)
    (case sa_Hall => k_is)
    (case mk_Hall => k_is)
    (case kc_Hall => k_is)
    (case n_Hall_boards => k_is)
    (case n_Hall_names => k_is)
    (case z_all => k_is)
    (case z_bool => k_is)
    (case z_dict => k_is)
    (case z_enumerate => k_is)
    (case z_int => k_is)
    (case z_isinstance => k_is)
    (case z_len => k_is)
    (case z_list => k_is)
    (case z_max => k_is)
    (case z_min => k_is)
    (case z_range => k_is)
    (case z_repr => k_is)
    (case z_sorted => k_is)
    (case z_str => k_is)
    (case z_tuple => k_is)
    (case z_zip => k_is)
    (case g_MOST_BEGUN => k_is)
    (case g_MOST_BOARDS => k_is)
    (case g_MOST_ROWS => k_is)
    (case g_MOST_WORDS => k_is)
#print axioms PySem.Challenge.cw_untoldgames_k06_whole_what_a_knowing_gue_holds
