import PyProof.Rows.All
import Wide.All
import OpenK.AllK
import Wide.FinOn
import HandS.ForMost
import HandS.SetBool
import PyProof.Rows.SortShellAny
import KE.GoesMore
import KE.GoesEnum
import HandS.Walk
import HandS.TupMul
import HandS.Codes
import HandS.IsInst
import HandS.Zip
import HandS.SortRule
import HandS.Deep
import KE.LtData
import HandS.TupAny
import PyProof.Rows.StrMeet
import PyProof.Rows.SortKeyStr
import HandS.DictComp
import HandS.DictTup
import HandS.Conv
import HandS.Style
import KE.KDictSum
import KE.KDictDisplayH
import HandS.ForExc
import HandS.ExcInit
import HandS.ExcOwn
import HandS.ExcField
import HandS.TryOnly
import HandS.TupLe
import HandS.Steps
import PySem.Challenge.RW_untoldgames_k01_rows_and_games_judged
set_option Elab.async false
set_option linter.all false
set_option maxRecDepth 100000
set_option maxHeartbeats 4000000
/-! Sets of texts: what stands there, a text more, a comprehension that makes one, sorted of it. -/
namespace Nm
open PySem PySem.Spec PyProof.Rows L2
section
variable {P : Program} {w : World} {A : Around} {E : Value → Shared → Prop} {s : Shared} {a : Addr} {o : Obj}
/-- the end of an addition: the set is stored, and laid out anew if it is too full -/
theorem tailG {g : Bool → Sem Unit} (hg : ∀ (b : Bool) (z : Shared) (U : Unit → Shared → Prop), U () z → wpAny (model P w) A (g b) U E z)
    {es fs : Array (Int × Value)} {ep : Nat} {t u : SetTable} {dm : Bool} {R : Option Bool → Shared → Prop}
    (ho : s.heap.get? a = some o) (hd : o.data = .set es ep t) (hb : fs.size < scanBound) (hf : u.fits fs.size = true) (hr : Ris u.place.toList)
    (hR : ∀ h' (es' : Array (Int × Value)) (ep' : Nat) (t' : SetTable), Heap.SameBut a s.heap h' → h'.get? a = some { o with data := .set es' ep' t' } → es'.toList.Perm fs.toList → t'.fits es'.size = true →
      Ris t'.place.toList → t'.led = u.led → R (some true) { s with heap := h' }) :
    wpAny (model P w) A (do
        storeSet a fs u
        if (!dm && u.tooFull) = true then do
            g (relayAll u fs (SetTable.grown fs.size)).2.2
            storeSet a (relayAll u fs (SetTable.grown fs.size)).1 (relayAll u fs (SetTable.grown fs.size)).2.1
            pure (some true)
          else pure (some true)) R E s := by
  have at1 := store_at (es' := fs) (t' := u) ho hd
  have same1 := Heap.SameBut.update s.heap a (Obj.putSet fs u)
  refine wpAny_bind (wpAny_storeSet_of ho hd ?_ (fits_of_scanBound hb))
  split
  · have perm := relayAll_perm u fs (SetTable.grown fs.size)
    have fit3 := relayAll_fits u fs (SetTable.grown fs.size)
    have ris3 := relayAll_ris u fs (SetTable.grown fs.size)
    have led3 := relayAll_led u fs (SetTable.grown fs.size)
    generalize relayAll u fs (SetTable.grown fs.size) = Z at perm fit3 ris3 led3 ⊢
    obtain ⟨gs, v, gave⟩ := Z
    dsimp only at perm fit3 ris3 led3 ⊢
    have size3 : gs.size = fs.size := by
      have q := perm.length_eq
      rwa [Array.length_toList, Array.length_toList] at q
    refine wpAny_bind (hg _ _ _ ?_)
    refine wpAny_bind (wpAny_storeSet_of at1 rfl ?_ (fits_of_scanBound (by rw [size3]; exact hb)))
    have at3 := store_at (es' := gs) (t' := v) at1 rfl
    exact wpAny_pure (hR _ gs _ v (same1.trans (Heap.SameBut.update _ a _)) at3 perm fit3 ris3 led3)
  · exact wpAny_pure (hR _ fs _ u same1 at1 (List.Perm.refl _) hf hr rfl)
/-- a key is added whose hash is known: it is there, or it comes in -/
theorem addG {κ : Type} [DecidableEq κ] {knd : PySem.KeyKind P w κ} {k : κ} {x : Value} {es : Array (Int × Value)} {ep : Nat} {t : SetTable} {Q : Bool → Shared → Prop}
    (hk : knd.is k x = true) (hx : x.scannable = true) (ho : s.heap.get? a = some o) (hd : o.data = .set es ep t) (hel : ElemsOf knd es.toList) (hb : es.size + 1 < scanBound) (hf : t.fits es.size = true) (hr : Ris t.place.toList)
    (old : (∃ e ∈ es.toList, knd.is k e.2 = true) → Q false s)
    (new : (∀ e ∈ es.toList, knd.is k e.2 = false) → ∀ h' (es' : Array (Int × Value)) (ep' : Nat) (t' : SetTable), Heap.SameBut a s.heap h' → h'.get? a = some { o with data := .set es' ep' t' } →
      es'.toList.Perm ((knd.hash k, x) :: es.toList) → t'.fits es'.size = true → Ris t'.place.toList → t'.led = t.led → Q true { s with heap := h' }) :
    wpAny (model P w) A (setAddHashed a x (knd.hash k)) Q E s := by
  unfold setAddHashed setAddHashedIn
  refine wpAny_holding (wpAny_bind (wpAny_setState_of ho hd hf ?_))
  dsimp only
  rw [byScan_of hx (Nat.lt_of_succ_lt hb) hel]
  simp only [↓reduceIte]
  unfold setAddByScan
  refine wpAny_bind (wpAny_bind (wpAny_rule ?_))
  refine wpAny_bind (wpAny_setScan_of hk ho hd hf hel ?_)
  cases met : List.findIdx? (fun e => knd.is k e.2) es.toList with
  | some j =>
    dsimp only
    obtain ⟨hj, pj, _⟩ := List.findIdx?_eq_some_iff_getElem.mp met
    exact wpAny_pure (wpAny_pure (old ⟨_, List.getElem_mem hj, pj⟩))
  | none =>
    dsimp only
    have no : ∀ e ∈ es.toList, knd.is k e.2 = false := fun e he => List.findIdx?_eq_none_iff.mp met e he
    have gw : ∀ (b : Bool) {z : Shared} {U : Unit → Shared → Prop}, U () z → wpAny (model P w) A (match b with | true => rule "set.scan.the-table-gave-way" | false => pure ()) U E z := fun b z U q => by
      cases b
      · exact wpAny_pure q
      · exact wpAny_rule q
    have perm := layNew_perm t es (knd.hash k) x
    have fit1 := layNew_fits t es (knd.hash k) x
    have ris1 := layNew_ris t es (knd.hash k) x hr
    have led1 := layNew_led t es (knd.hash k) x
    generalize layNew t es (knd.hash k) x = Z at perm fit1 ris1 led1 ⊢
    obtain ⟨fs, u, dm, gave⟩ := Z
    dsimp only at perm fit1 ris1 led1 ⊢
    rw [Array.toList_push] at perm
    have pc : fs.toList.Perm ((knd.hash k, x) :: es.toList) := perm.trans (List.perm_append_singleton _ _)
    have size1 : fs.size < scanBound := by
      have q := pc.length_eq
      rw [List.length_cons, Array.length_toList, Array.length_toList] at q
      omega
    have fin : ∀ (u' : SetTable), u'.led = u.led → ∀ h' (es' : Array (Int × Value)) (ep' : Nat) (t' : SetTable), Heap.SameBut a s.heap h' → h'.get? a = some { o with data := .set es' ep' t' } → es'.toList.Perm fs.toList →
        t'.fits es'.size = true → Ris t'.place.toList → t'.led = u'.led → Q true { s with heap := h' } := fun u' e h' es' ep' t' sb g p f r l =>
      new no h' es' ep' t' sb g (p.trans pc) f r (l.trans (e.trans led1))
    refine wpAny_bind (gw _ ?_)
    split
    · refine wpAny_bind ?_
      rw [hashByValue_scannable 8 hx]
      refine wpAny_pure ?_
      refine tailG ?_ ho hd size1 ?_ ?_ ?_
      · intro b z U q
        cases b
        · exact wpAny_pure q
        · exact wpAny_rule q
      · first
          | exact fit1
          | (split <;> first | exact fit1 | exact SetTable.fits_plain_off fit1)
      · first
          | exact ris1
          | (split <;> exact ris1)
      · intro h' es' ep' t' sb g p f r l
        dsimp only
        refine wpAny_pure (fin _ ?_ h' es' ep' t' sb g p f r l)
        first
          | rfl
          | (split <;> rfl)
    · refine wpAny_bind (wpAny_pure ?_)
      simp only [↓reduceIte]
      refine tailG ?_ ho hd size1 fit1 ris1 ?_
      · intro b z U q
        cases b
        · exact wpAny_pure q
        · exact wpAny_rule q
      · intro h' es' ep' t' sb g p f r l
        dsimp only
        exact wpAny_pure (fin u rfl h' es' ep' t' sb g p f r l)
end
/-! ### a set of texts -/
def nm (e : Int × Value) : Str := match e.2 with | .str x _ => x | _ => Str.empty
def Tx (w : World) (e : Int × Value) : Prop := ∃ x t, e.2 = Value.str x t ∧ e.1 = hashStr w x
/-- the set at a has just the texts ks, each once -/
def Has (w : World) (h : Heap) (a : Addr) (ks : List Str) : Prop :=
  ∃ o es ep t, h.get? a = some o ∧ o.ExactSet ∧ o.data = .set es ep t ∧ (∀ e ∈ es.toList, Tx w e) ∧ (es.toList.map nm).Perm ks ∧ ks.Nodup ∧ ks.length < scanBound ∧ t.fits es.size = true ∧ Ris t.place.toList ∧
    (w.params.followText "set-order" = true ∨ t.led = true)
def plus (ks : List Str) (k : Str) : List Str := if k ∈ ks then ks else k :: ks
section
variable {P : Program} {w : World} {A : Around} {E : Value → Shared → Prop} {s : Shared} {a : Addr} {ks : List Str} {h h' : Heap}
theorem Has.at (R : Has w h a ks) (k : ∀ o, h.get? a = some o → h'.get? a = some o) : Has w h' a ks := by
  obtain ⟨o, es, ep, t, ho, r⟩ := R
  exact ⟨o, es, ep, t, k o ho, r⟩
theorem tx_elems {l : List (Int × Value)} (g : ∀ e ∈ l, Tx w e) : ElemsOf (strKind P w) l := fun e he => by
  obtain ⟨x, t, e1, e2⟩ := g e he
  refine ⟨⟨x, ?_, e2⟩, ?_⟩
  · rw [e1]
    exact strKind_is P w x t
  · rw [e1]
    rfl
theorem tx_is {e : Int × Value} (g : Tx w e) (k : Str) : (strKind P w).is k e.2 = true ↔ nm e = k := by
  obtain ⟨x, t, e1, _⟩ := g
  have n : nm e = x := by unfold nm; rw [e1]
  rw [n, e1]
  constructor
  · intro q
    exact (strKind P w).inj _ _ _ (strKind_is P w x t) q
  · intro q
    subst q
    exact strKind_is P w x t
theorem size_of {es : Array (Int × Value)} (p : (es.toList.map nm).Perm ks) : es.size = ks.length := by
  have q := p.length_eq
  rwa [List.length_map, Array.length_toList] at q
/-- one text more -/
theorem add_raw {k : Str} {tk : Tok} {Q : Value → Shared → Prop} (R : Has w s.heap a ks) (room : ks.length + 1 < scanBound)
    (hQ : ∀ h', Heap.SameBut a s.heap h' → Has w h' a (plus ks k) → Q .none { s with heap := h', toks := s.toks + 1 }) :
    wpAny (model P w) A (call (.builtin "set.add") [.ref a, .str k tk]) Q E s := by
  obtain ⟨o, es, ep, t, ho, hex, hd, g, pm, nd, hb, hf, hr, hl⟩ := R
  have hsz := size_of pm
  have hS : s.TypeIs (.ref a) "set" := ⟨o, ho, hex.1⟩
  refine wpAny_call_entry F.slot_set_add hS F.entry_set_add ?_ (F.args_set_add_2 _ _)
  unfold Builtin.«set.add» Builtin.Frozenset.oneOther
  simp only [List.isEmpty_nil, bind_assoc]
  unfold Builtin.Frozenset.addrOf setAdd
  refine wpAny_bind (wpAny_pure ?_)
  try dsimp only
  refine wpAny_bind (wpAny_pure ?_)
  try dsimp only
  refine wpAny_bind (wpAny_holding (wpAny_bind ((strKind P w).pyHash (strKind_is P w k tk) ?_)))
  have mem : (∃ e ∈ es.toList, (strKind P w).is k e.2 = true) ↔ k ∈ ks := by
    rw [← pm.mem_iff, List.mem_map]
    exact ⟨fun ⟨e, he, q⟩ => ⟨e, he, (tx_is (g e he) k).1 q⟩, fun ⟨e, he, q⟩ => ⟨e, he, (tx_is (g e he) k).2 q⟩⟩
  refine addG (knd := strKind P w) (s := { s with toks := s.toks + 1 }) (strKind_is P w k tk) rfl ho hd (tx_elems g) (by rw [hsz]; exact room) hf hr ?_ ?_
  · intro there
    have hk : k ∈ ks := mem.1 there
    have ek : plus ks k = ks := if_pos hk
    refine wpAny_pure ⟨_, rfl, hQ s.heap (Heap.SameBut.refl a s.heap) ?_⟩
    rw [ek]
    exact ⟨o, es, ep, t, ho, hex, hd, g, pm, nd, hb, hf, hr, hl⟩
  · intro no h' es' ep' t' sb ho' p f r l
    have hk : k ∉ ks := fun z => by
      obtain ⟨e, he, q⟩ := mem.2 z
      rw [no e he] at q
      cases q
    have ek : plus ks k = k :: ks := if_neg hk
    refine wpAny_pure ⟨_, rfl, hQ h' sb ?_⟩
    rw [ek]
    refine ⟨_, es', ep', t', ho', hex, rfl, fun e he => ?_, ?_, List.nodup_cons.mpr ⟨hk, nd⟩, room, f, r, hl.imp id fun z => l.trans z⟩
    · rcases List.mem_cons.mp (p.mem_iff.mp he) with z | z
      · rw [z]
        exact ⟨k, tk, rfl, rfl⟩
      · exact g e z
    · exact (p.map nm).trans (pm.cons k)
theorem has_fresh {h : Heap} (w : World) : Has w (h.push { cls := .type "set", dict := none, data := .set #[] 0 (.fresh 0 0 (!w.params.followText "set-order")) }) h.objs.size [] := by
  refine ⟨_, #[], 0, _, Heap.get?_push_size _ rfl, ⟨rfl, rfl, rfl⟩, rfl, (fun e he => by simp at he), List.Perm.refl _, List.nodup_nil, by decide, by rfl, List.Pairwise.nil, ?_⟩
  show _ ∨ (!w.params.followText "set-order") = true
  cases w.params.followText "set-order" with
  | false => exact .inr rfl
  | true => exact .inl rfl
end
/-- a set of texts as a tracked thing -/
def TxO (w : World) (a : Addr) (ks : List Str) : HO := .ext fun h => Has w h a ks
theorem txO_new {w : World} {P : Program} {H : Hp} {h : Heap} {a : Addr} {ks : List Str} (R : Has w h a ks) : ObjOk P w H h a (TxO w a ks) := by
  have ⟨o, _, _, _, ho, _⟩ := R
  exact ⟨R, ⟨o, ho⟩, fun h1 h2 p k => Has.at p k⟩
section
variable {X : Cx}
theorem txO_get {pins : List (Addr × Obj)} {σ : L2.St} {H : Hp} {s : Shared} {a : Addr} {ks : List Str} (I : Inv X pins σ H s) (ha : H a = some (TxO X.w a ks)) : Has X.w s.heap a ks := (I.hok a _ ha).1
theorem add_ok {pins : List (Addr × Obj)} {σ : L2.St} {H : Hp} {s : Shared} {E : Value → Shared → Prop} {D : Addr} {ks : List Str} {k : Str} {tk : Tok} {Q : Value → Shared → Prop} (I : Inv X pins σ H s) (hD : H D = some (TxO X.w D ks)) (room : ks.length + 1 < scanBound)
    (q : ∀ s', Inv X pins σ (upd H D (TxO X.w D (plus ks k))) s' → Q .none s') : wpAny (model X.prog X.w) X.A (call (.builtin "set.add") [.ref D, .str k tk]) Q E s := by
  refine add_raw (txO_get I hD) room fun h' sb new => ?_
  have there : ∃ u, h'.get? D = some u := by
    obtain ⟨o, _, _, _, ho, _⟩ := new
    exact ⟨o, ho⟩
  exact q _ (I.write (e := D) (t' := s.toks + 1) (by rw [hD]; trivial) (.inl rfl) (fun b u hb hu => (sb.2 b hb).trans hu) there (txO_new new))
/-! ### sorted of it -/
def rSortTx (w : World) : List V → Hp → VK → Prop := fun vs H Q => ∃ (a : Addr) (ks : List Str), vs = [V.ref a] ∧ H a = some (TxO w a ks) ∧ ks.length < 64 ∧
  ∀ (ys : List Str) (p : Addr), ys.Perm ks → sortedS ys = true → H p = none → Q (.ref p) (upd H p (.lst (ys.map V.str)))
end
/-- all of them, each once -/
def gathered (xs : List Str) : List Str := xs.foldl plus []
theorem plus_mem {ks : List Str} {k x : Str} : x ∈ plus ks k ↔ x = k ∨ x ∈ ks := by
  unfold plus
  by_cases h : k ∈ ks
  · rw [if_pos h]
    exact ⟨.inr, fun z => z.elim (fun e => e ▸ h) id⟩
  · rw [if_neg h, List.mem_cons]
theorem plus_nd {ks : List Str} {k : Str} (nd : ks.Nodup) : (plus ks k).Nodup := by
  unfold plus
  by_cases h : k ∈ ks
  · rw [if_pos h]
    exact nd
  · rw [if_neg h]
    exact List.nodup_cons.mpr ⟨h, nd⟩
theorem plus_len (ks : List Str) (k : Str) : (plus ks k).length ≤ ks.length + 1 := by
  unfold plus
  by_cases h : k ∈ ks
  · rw [if_pos h]
    exact Nat.le_succ _
  · rw [if_neg h]
    exact Nat.le_refl _
theorem fold_facts : ∀ (xs ks : List Str), ks.Nodup → (xs.foldl plus ks).Nodup ∧ (∀ x, x ∈ xs.foldl plus ks ↔ x ∈ xs ∨ x ∈ ks) ∧ (xs.foldl plus ks).length ≤ ks.length + xs.length
  | [], ks, nd => ⟨nd, fun x => by simp, by simp⟩
  | k :: xs, ks, nd => by
    obtain ⟨h1, h2, h3⟩ := fold_facts xs (plus ks k) (plus_nd nd)
    refine ⟨h1, fun x => ?_, ?_⟩
    · rw [List.foldl_cons, h2 x, plus_mem, List.mem_cons]
      constructor
      · rintro (h | h | h)
        · exact .inl (.inr h)
        · exact .inl (.inl h)
        · exact .inr h
      · rintro ((h | h) | h)
        · exact .inr (.inl h)
        · exact .inl h
        · exact .inr (.inr h)
    · rw [List.foldl_cons, List.length_cons]
      have := plus_len ks k
      omega
theorem gathered_facts (xs : List Str) : (gathered xs).Nodup ∧ (∀ x, x ∈ gathered xs ↔ x ∈ xs) ∧ (gathered xs).length ≤ xs.length := by
  obtain ⟨h1, h2, h3⟩ := fold_facts xs [] List.nodup_nil
  refine ⟨h1, fun x => ?_, ?_⟩
  · show x ∈ xs.foldl plus [] ↔ _
    rw [h2 x]
    simp
  · show (xs.foldl plus []).length ≤ xs.length
    simpa using h3
theorem gathered_snoc (xs : List Str) (k : Str) : gathered (xs ++ [k]) = plus (gathered xs) k := by
  unfold gathered
  rw [List.foldl_append]
  rfl
end Nm
namespace Nm
open PySem PySem.Spec PyProof.Rows L2
section
variable {P : Program} {w : World} {A : Around} {E : Value → Shared → Prop} {s : Shared} {a : Addr}
theorem strs_of : ∀ (l : List Value) (ks : List Str), Paired (fun v k => ∃ t, v = Value.str k t) l ks → StrsAre l ks
  | _, _, .nil => .nil
  | _, _, .cons h r => by
    obtain ⟨t, e⟩ := h
    subst e
    exact .cons _ t (strs_of _ _ r)
def tx (v : Value) : Str := match v with | .str x _ => x | _ => Str.empty
theorem strs_tx : ∀ (l : List Value), (∀ v ∈ l, ∃ x t, v = Value.str x t) → StrsAre l (l.map tx)
  | [], _ => .nil
  | v :: l, h => by
    obtain ⟨x, t, e⟩ := h v List.mem_cons_self
    subst e
    exact .cons x t (strs_tx l fun u hu => h u (List.mem_cons_of_mem _ hu))
theorem sorted_raw {ks : List Str} {Q : Value → Shared → Prop} (R : Has w s.heap a ks) (hh : A.handled = none)
    (hQ : ∀ s' p (out : Array Value) (c : Nat) (ys : List Str), (∀ b o, s.heap.get? b = some o → s'.heap.get? b = some o) → s'.gens = s.gens → s'.os = s.os → s.heap.objs.size ≤ p →
      s'.heap.get? p = some (seqObj "list" out c) → StrsAre out.toList ys → ys.Perm ks → sortedS ys = true → Q (.ref p) s') :
    wpAny (model P w) A (call (.builtin "sorted") [.ref a]) Q E s := by
  obtain ⟨o, es, ep, t, ho, hex, hd, g, pm, nd, hb, hf, hr, hl⟩ := R
  have hsz := size_of pm
  refine Calls.call_function_entry kind_sorted plain_sorted entry_sorted (args_sorted1 _) ?_
  unfold Builtin.«sorted»
  refine wpAny_bind (m := checkCount "sorted" 1 1 _) (wpAny_pure ?_)
  refine wpAny_bind (collect_set (A := A.in1) hh ⟨o, ho, hex.1, hd⟩ hf (by rw [hsz]; exact hb) hr hl fun s1 vs k1 hz g1 o1 q => ?_)
  have len : vs.length ≤ sizeLine := by
    have z : vs.length = es.size := by rw [q.length_eq, List.length_map, Array.length_toList]
    rw [z, hsz]
    exact fits_of_scanBound hb
  have hS : StrsAre vs (vs.map tx) := strs_tx vs fun v hv => by
    obtain ⟨e, he, z⟩ := List.mem_map.mp (q.mem_iff.mp hv)
    obtain ⟨x, tk, h1, _⟩ := g e he
    exact ⟨x, tk, by rw [← z]; exact h1⟩
  have pk : (vs.map tx).Perm ks := by
    have z := q.map tx
    rw [List.map_map] at z
    exact z.trans pm
  refine wpAny_bind (wpAny_newList ?_ len)
  have hoL : (s1.heap.push (seqObj "list" vs.toArray 0)).get? s1.heap.objs.size = some (seqObj "list" vs.toArray 0) := Heap.get?_push_size _ rfl
  refine wpAny_bind (wpAny_holding (wpAny_call_entry slot_list_sort ⟨_, hoL, rfl⟩ entry_list_sort
    (list_sort_treeKAny strKind_oneLt hoL hS.keysOf (fun v₁ v₂ rest e => keyKind_strs (by rw [← e]; exact hS)) len fun st' hp hs => ?_) (args_list_sort _)))
  obtain ⟨ys, b1, b2, b3⟩ := sorted_out_str hS hp hs
  obtain ⟨c, hc⟩ := sortedHeap_at (vs := vs) (out := (arrOf st').map (·.2)) hoL
  refine ⟨_, rfl, wpAny_pure ⟨_, rfl, hQ _ s1.heap.objs.size _ c ys (fun b u e => ?_) g1 o1 hz hc b1 (b2.trans pk) b3⟩⟩
  have z := k1 b u e
  have lt := Heap.lt_size z
  show (sortedHeap (s1.heap.push (seqObj "list" vs.toArray 0)) s1.heap.objs.size vs ((arrOf st').map (·.2))).get? b = some u
  rw [sortedHeap_old (Nat.ne_of_lt lt) (by rw [size_push']; exact Nat.lt_succ_of_lt lt)]
  exact Heap.get?_push_of_some _ z
end
section
variable {X : Cx}
theorem cr_sortTx (hc : X.calm = true) : CallR X (.builtin "sorted") (rSortTx X.w) := by
  intro pins s σ H vs us Q I r h
  obtain ⟨a, ks, rfl, ha, h64, q⟩ := h
  rw [Vals.ref1 r]
  refine sorted_raw (txO_get I ha) (I.ok.hd hc) fun s' p out c ys k g o hp hg hS pm so => ?_
  have len : (ys.map V.str).length ≤ sizeLine := by
    rw [List.length_map, pm.length_eq]
    exact small64 h64
  have hn : H p = none := I.hok.fresh hp
  have J : Inv X pins σ (upd H p (.lst (ys.map V.str))) { s with heap := s'.heap, gens := s'.gens, drawn := s'.drawn, toks := s'.toks } :=
    I.call (ch := []) (Un.laid k hp hn) (I.hok.laid k hp ⟨len, out.toList, c, vals_of_strs hS, hg⟩) (by rw [g]; exact I.bare) (fun _ z => nomatch z)
  have e : s' = { s with heap := s'.heap, gens := s'.gens, drawn := s'.drawn, toks := s'.toks } := by
    cases s'
    cases s
    cases o
    rfl
  rw [e]
  exact ⟨.ref p, _, J, rfl, q ys p pm so hn⟩
end
end Nm
namespace Nm
open PySem PySem.Spec PyProof.Rows L2
section
variable {X : Cx}
/-- what a set display by a walk asks, its element being a text -/
def tNm (w : World) (wi : TI) (g : TG) (te : TE) (vs : List Nat) : TE := fun σ H Q => wi σ H fun J H1 => ∀ D, H1 D = none → ∃ W : Nat → Nat → Hp → Prop,
  (∃ m, W 0 m (upd H1 D (TxO w D []))) ∧ ∀ i m H, W i m H → (J.stop i H ∧ Q (.ref D) H) ∨ (J.go i H ∧ ∃ Nx : Hp → Prop, (∀ H', Nx H' → ∃ m', m' < m ∧ W (i + 1) m' H') ∧
    ∀ x H', J.yld i H x H' → g x (wipe σ vs) H' fun σ2 H2 => wipe σ2 vs = wipe σ vs ∧ te σ2 H2 fun y H4 =>
      ∃ (c : Str) (ks : List Str), y = .str c ∧ H4 D = some (TxO w D ks) ∧ ks.length + 1 < scanBound ∧ Nx (upd H4 D (TxO w D (plus ks c))))
/-- a new set as the model makes it -/
abbrev setObj (X : Cx) : Obj := { cls := .type "set", dict := none, data := .set #[] 0 (.fresh 0 0 (!X.w.params.followText "set-order")) }
theorem pe_nm {elt tg iter : Expr} {scope : Scope} {own : List (PySem.Str × Nat)} {pos : Pos} {wi : TI} {g : TG} {te : TE} (hc : X.calm = true) (hN : X.N.Nodup) (hi : PI X tg iter wi) (ok : BlkOk X.N X.env.scope scope own)
    (hg : ∀ (s : Shared) (H : Hp) (C : Addr) (cl : List (PySem.Str × Addr)) (fp : List Addr), PG (X.blk s H scope (compEnvC scope cl C X.env) fp) tg g)
    (he : ∀ (s : Shared) (H : Hp) (C : Addr) (cl : List (PySem.Str × Addr)) (fp : List Addr), PE (X.blk s H scope (compEnvC scope cl C X.env) fp) elt te)
    (hs : ∀ x, foldedSetIterable iter X.env x = pure x := by intro _; rfl) : PE X (.SetComp elt [⟨tg, iter, [], 0⟩] scope pos) (tNm X.w wi g te (own.map (·.2))) := by
  refine ⟨fun pins s σ H Q I h => ?_⟩
  rw [PpSet.eval_SetComp]
  have closed : ∀ y ∈ scope.names, y.2 = .free → ∃ c, X.env.cells.lookup y.1 = some c := fun y hy e => (ok.free y hy e).elim (fun k => I.ok.has _ (.inl k)) fun k => I.ok.has _ (.inr k)
  refine wpAny_comprehension_free (use := none) rfl hs (closure_ok closed) ok.kind (fun y hy e => by rw [ok.uniq y hy, e]) (thn (hi.run pins s σ H _ I h) fun xv s1 hx => thn hx fun itv s2 h2 => ?_)
  obtain ⟨it, fp, tn, J, H2, e, I2, T, st2, f2, q⟩ := h2
  subst e
  refine PpSet.newSet_ok (newEnv_comp ?_)
  generalize hD : s2.heap.objs.size = D
  have hDn : H2 D = none := I2.hok.fresh (Nat.le_of_eq hD)
  obtain ⟨W, ⟨m0, w0⟩, turn⟩ := q D hDn
  generalize hs3 : ({ s2 with heap := s2.heap.push (setObj X) } : Shared) = s3
  have h3 : s3.heap = s2.heap.push (setObj X) := by rw [← hs3]
  generalize hH3 : upd H2 D (TxO X.w D []) = H3 at w0
  have I3 : Inv X pins σ H3 s3 := by
    rw [← hs3, ← hH3]
    refine I2.laid (t' := s2.toks) (fun b o e => Heap.get?_push_of_some _ e) (Nat.le_of_eq hD) ?_
    rw [← hD]
    exact txO_new (has_fresh X.w)
  have below : ∀ b ∈ fp, b < s2.heap.objs.size := fun b hb => by
    obtain ⟨o, e, _⟩ := T.obj _ _ st2 b hb
    exact Heap.lt_size e
  have f3 : ∀ b ∈ fp, FpOk X pins H3 b ∧ b < s3.heap.objs.size := fun b hb => by
    have lt := below b hb
    have ne : b ≠ D := by rw [← hD]; exact Nat.ne_of_lt lt
    refine ⟨⟨?_, (f2 b hb).2⟩, by rw [h3, Heap.size_push]; exact Nat.lt_succ_of_lt lt⟩
    rw [← hH3, upd_ne ne]
    exact (f2 b hb).1
  have st3 : tn 0 s3.heap := T.keep _ _ _ st2 fun b _ o e => by rw [h3]; exact Heap.get?_push_of_some _ e
  have I4 := block_start I3 ok hN f3
  generalize hcl : cellsFrom (s3.heap.objs.size + 1) scope.names (cloFrom X.env.cells scope.names []) = cl at I4
  have pg := hg s3 H3 s3.heap.objs.size cl fp
  have pe := he s3 H3 s3.heap.objs.size cl fp
  have goal : codeAny (model X.prog X.w) X.A (.compStart (.SetComp elt [⟨tg, iter, [], 0⟩] scope pos) 0 (.ref it) (.ref D) (compEnvC scope cl s3.heap.objs.size X.env))
      (compPost (model X.prog X.w) X.A X.xe none (EP X pins σ Q) (.ref D) s3.heap.objs.size) { s3 with heap := pushCells (s3.heap.push { cls := .type "dict", data := .dict #[] }) scope.names } := by
    have free3 : ∀ b ∈ fp, H3 b = none := fun b hb => (f3 b hb).1.1
    generalize hce : compEnvC scope cl s3.heap.objs.size X.env = ce at I4 pg pe ⊢
    have locals : ce.locals = s3.heap.objs.size := by subst hce; rfl
    generalize hs4 : ({ s3 with heap := pushCells (s3.heap.push { cls := .type "dict", data := .dict #[] }) scope.names } : Shared) = s4 at I4 ⊢
    have st4 : tn 0 s4.heap := T.keep _ _ _ st3 fun b _ o e => by rw [← hs4]; exact pushCells_keeps _ _ _ _ (Heap.get?_push_of_some _ e)
    have stat : ∀ {σ' : L2.St} {H' : Hp} {s' : Shared}, Inv (X.blk s3 H3 scope ce fp) [] σ' H' s' → (∀ b ∈ fp, H' b = none) → ∀ b ∈ fp, FpOk (X.blk s3 H3 scope ce fp) [] H' b := fun {σ' H' s'} I' hn b hb =>
      ⟨hn b hb, (I'.ok.exf b hb).1, I'.ok.exfs b hb, .inl hb, fun x c e => (I'.ok.exf b hb).2 x c e, fun p hp => absurd (show p ∈ ([] : List (Addr × Obj)) ++ [] from hp) (by simp)⟩
    have loop : codeAny (model X.prog X.w) X.A (.compLoop (.SetComp elt [⟨tg, iter, [], 0⟩] scope pos) 0 (.ref it) (.ref D) ce) (compPost (model X.prog X.w) X.A X.xe none (EP X pins σ Q) (.ref D) s3.heap.objs.size) s4 := by
      refine PpSet.compLoopS_any (fun n s' => ∃ i H', Inv (X.blk s3 H3 scope ce fp) [] (wipe σ (own.map (·.2))) H' s' ∧ tn i s'.heap ∧ (∀ b ∈ fp, H' b = none) ∧ W i n H') ?_ m0 ⟨0, H3, I4, st4, free3, w0⟩
      rintro n s5 ⟨i, H5, I5, st5, n5, w5⟩
      rcases turn i n H5 w5 with ⟨stop, qq⟩ | ⟨go, Nx, hNx, step⟩
      · refine thnF (T.done (X.blk s3 H3 scope ce fp) rfl rfl rfl hc i [] s5 _ H5 (fun _ _ => False) I5 (stat I5 n5) st5 stop) fun r s6 ⟨hr, I6⟩ => ?_
        subst hr
        have I7 : Inv X pins σ H5 s6 := I3.call' (ch := fp) I6.os I6.base I6.hok I6.bare fun b hb => by
          have z := (f3 b hb).1
          exact ⟨z.2.2.2.1, z.2.1, z.2.2.2.2.1, z.2.2.2.2.2⟩
        have nC : H5 s3.heap.objs.size = none := by
          rw [← locals]
          exact I6.free
        obtain ⟨m, hn, _⟩ := I6.loc
        have hn' : s6.heap.Ns s3.heap.objs.size m := by
          rw [← locals]
          exact hn
        refine ⟨m, hn', fun h'' sb => ?_⟩
        obtain ⟨z0, z1, z2, z3, z4, z5⟩ := I3.fpOk (Nat.le_refl _) nC
        exact ⟨.ref D, H5, I7.turned (t' := s6.toks) (fun b o hb e => (sb.2 b hb).trans e) z0 z1 z3 z4 z5, rfl, qq⟩
      · refine thnF (T.item (X.blk s3 H3 scope ce fp) rfl rfl rfl hc i [] s5 _ H5 (fun _ _ => False) I5 (stat I5 n5) st5 go) fun r s6 ⟨u, hr, h6⟩ => ?_
        subst hr
        refine thnF h6 fun _ s7 ⟨x, H7, I7, r7, y7, st7, n7⟩ => ?_
        have I7' := I7.pinned (stat I7 n7) (T.obj _ _ st7)
        refine thnF (pg.run _ s7 _ H7 x u _ I7' r7 (step x H7 y7)) fun _ s8 ⟨σ8, H8, I8, hw8, q8⟩ => ?_
        refine wpAny_pure ?_
        rw [if_pos rfl]
        refine thnF (pe.run _ s8 σ8 H8 _ I8 q8) fun z s10 ⟨yv, H10, I10, r10, c, ks, ey, hD10, room, nx⟩ => ?_
        subst ey
        obtain ⟨tk, ez⟩ := (show ∃ t, z = Value.str c t from r10)
        subst ez
        refine add_ok (X := X.blk s3 H3 scope ce fp) I10 hD10 room fun s11 I11 => ?_
        obtain ⟨m', hm, w'⟩ := hNx _ nx
        have pin' : ∀ b ∈ fp, ∀ o, s7.heap.get? b = some o → s11.heap.get? b = some o ∧ upd H10 D (TxO (X.blk s3 H3 scope ce fp).w D (plus ks c)) b = none := fun b hb o e =>
          let z := I11.pin (b, o) (List.mem_append_right _ (List.mem_append_right _ (mem_pinsAt hb e)))
          ⟨z.1, z.2.1⟩
        have len : (wipe σ (own.map (·.2))).length = σ8.length := by rw [← hw8, wipe_length]
        refine ⟨m', hm, i + 1, _, (I11.unpinned (pins := [])).weak len (fun j v e => ?_), T.keep _ _ _ st7 fun b hb o e => (pin' b hb o e).1, fun b hb => ?_, w'⟩
        · rw [← hw8] at e
          exact (wipe_some e).1
        · obtain ⟨o, e, _⟩ := T.obj _ _ st7 b hb
          exact (pin' b hb o e).2
    exact PpSet.codeAny_compStart_set loop (T.self X.A 0 _ _ _ st4 loop)
  exact goal
/-- over a tuple that stands still -/
theorem nm_tup {w : World} {K : PySem.W.Frag} {a : Addr} {xs : List V} {g : TG} {te : TE} {vs : List Nat} {σ : L2.St} {H1 : Hp} {D : Addr} {Qd : Hp → Prop} (Pv : Nat → Hp → Prop) (h0 : Pv 0 (upd H1 D (TxO w D [])))
    (hl : ∀ i H, i ≤ xs.length → Pv i H → SqT K H a xs)
    (hs : ∀ i x H, xs[i]? = some x → Pv i H → g x (wipe σ vs) H fun σ2 H2 => wipe σ2 vs = wipe σ vs ∧ te σ2 H2 fun y H4 =>
      ∃ (c : Str) (ks : List Str), y = .str c ∧ H4 D = some (TxO w D ks) ∧ ks.length + 1 < scanBound ∧ Pv (i + 1) (upd H4 D (TxO w D (plus ks c)))) (hd : ∀ H, Pv xs.length H → Qd H) :
    ∃ W : Nat → Nat → Hp → Prop, (∃ m, W 0 m (upd H1 D (TxO w D []))) ∧ ∀ i m H, W i m H → ((Itt K a).stop i H ∧ Qd H) ∨ ((Itt K a).go i H ∧ ∃ Nx : Hp → Prop, (∀ H', Nx H' → ∃ m', m' < m ∧ W (i + 1) m' H') ∧
      ∀ x H', (Itt K a).yld i H x H' → g x (wipe σ vs) H' fun σ2 H2 => wipe σ2 vs = wipe σ vs ∧ te σ2 H2 fun y H4 =>
        ∃ (c : Str) (ks : List Str), y = .str c ∧ H4 D = some (TxO w D ks) ∧ ks.length + 1 < scanBound ∧ Nx (upd H4 D (TxO w D (plus ks c)))) := by
  refine ⟨fun i m H => m = xs.length - i ∧ i ≤ xs.length ∧ Pv i H, ⟨xs.length, by simp, Nat.zero_le _, h0⟩, ?_⟩
  rintro i m H ⟨rfl, hi, p⟩
  have q := hl i H hi p
  rcases Nat.lt_or_ge i xs.length with lt | ge
  · refine .inr ⟨⟨xs, xs[i], q, by simp [lt]⟩, Pv (i + 1), fun H' p' => ⟨xs.length - (i + 1), by omega, rfl, lt, p'⟩, fun x H' y => ?_⟩
    obtain ⟨e, y⟩ := y
    subst e
    exact hs i x _ (y xs q) p
  · have e : i = xs.length := by omega
    subst e
    exact .inl ⟨⟨xs, q, Nat.le_refl _⟩, hd H p⟩
end
end Nm
namespace Nm
open PySem PySem.Spec PyProof.Rows L2
open Sem (wp)
abbrev enumObj (it : Addr) : Obj := { cls := .type "enumerate", data := .fields #[.none, .bool false, .ref it, rawInt 0, .none, .none] }
theorem meets_enum1 {v : Value} {o : Obj} {G : Heap → Prop} (B : Begins v o G) :
    Meets (Builtin.«enumerate.__new__» ⟨[.type "enumerate", v], []⟩) (fun _ R s => G s.heap ∧ R (.ok (.ret (.ref (s.heap.push o).objs.size))) { s with heap := (s.heap.push o).push (enumObj s.heap.objs.size) }) :=
  .of_wp fun prog w A R s h => by
    obtain ⟨hp, g, d, tk, os⟩ := s
    obtain ⟨h1, h⟩ := h
    have sub := sub_enumerate
    have begins : ∀ {A' : Around} {E : Value → Shared → Prop} {Q : Value → Shared → Prop}, Q (.ref hp.objs.size) ⟨hp.push o, g, d, tk, os⟩ → wpAny (model prog w) A' (pyIter v) Q E ⟨hp, g, d, tk, os⟩ := fun q => B.iter prog w _ _ ⟨hp, g, d, tk, os⟩ _ h1 q
    wp_walk
    refine wpAny_stack_any fun st => wpAny_pure ?_
    split
    · rename_i c _ _ _ _ _
      cases (c == Value.type "enumerate") <;> (wp_walk using begins; exact ⟨_, rfl, h⟩)
    · wp_walk using begins
      exact ⟨_, rfl, h⟩
section
variable {prog : Program} {w : World} {A : Around} {E : Value → Shared → Prop} {s : Shared}
theorem call_enum1 {v : Value} {o : Obj} {G : Heap → Prop} {Q : Value → Shared → Prop} (B : Begins v o G) (h1 : G s.heap)
    (h : ∀ h', IsEnum h' (s.heap.objs.size + 1) s.heap.objs.size 0 .none → h'.get? s.heap.objs.size = some o → h'.objs.size = s.heap.objs.size + 2 → (∀ b u, s.heap.get? b = some u → h'.get? b = some u) →
      Q (.ref (s.heap.objs.size + 1)) { s with heap := h' }) : wpAny (model prog w) A (call (.type "enumerate") [v]) Q E s := by
  have one : (s.heap.push o).objs.size = s.heap.objs.size + 1 := Heap.size_push ..
  have made : IsEnum ((s.heap.push o).push (enumObj s.heap.objs.size)) (s.heap.objs.size + 1) s.heap.objs.size 0 .none := by
    have q := Heap.get?_push_size (s.heap.push o) (o := enumObj s.heap.objs.size) rfl
    rw [one] at q
    exact q
  refine callType_new F.called_enumerate (by decide) (F.typeCall_enumerate_1 _) (F.newCall_enumerate_1 _) (fun obj => F.args_object_init_2 obj _) F.entry_enumerate_new (meets_enum1 B) ⟨h1, ?_⟩
  show _ ∧ _
  rw [one]
  exact ⟨⟨_, made, rfl⟩, h _ made (Heap.get?_push_of_some _ (Heap.get?_push_size _ B.free)) (by rw [Heap.size_push, one]) fun b u x => Heap.get?_push_of_some _ (Heap.get?_push_of_some _ x)⟩
end
/-- enumerate of a tuple that stands still: each item in a new pair -/
def Itu (K : PySem.W.Frag) (a : Addr) : It :=
  ⟨fun i H => ∃ (xs : List V) (x : V), SqT K H a xs ∧ xs[i]? = some x,
   fun i H v H' => ∃ T x, v = .ref T ∧ H T = none ∧ H' = upd H T (.tup [.int (i : Nat), x]) ∧ ∀ xs, SqT K H a xs → xs[i]? = some x,
   fun i H => ∃ xs : List V, SqT K H a xs ∧ xs.length ≤ i⟩
theorem turn_itu {P : Program} {w : World} {K : PySem.W.Frag} {elts : List Expr} {kk : Nat} {tpos : Pos} (a e it : Addr) (hei : e ≠ it) (hea : e ≠ a) (hia : a ≠ it) :
    Turn P w K (.Tuple elts kk tpos) (Itu K a) [e, it] e (fun i h => (∃ old, IsEnum h e it ((i : Nat) : Int) old) ∧ h.IsTupleIter it a i) where
  mem := by simp
  obj := fun i h st b hb => by
    obtain ⟨⟨old, he⟩, ⟨o, ho, hc, hd⟩⟩ := st
    rcases (show b = e ∨ b = it by simpa using hb) with z | z
    · rw [z]
      exact ⟨_, he, fun v q => nomatch q⟩
    · rw [z]
      exact ⟨o, ho, fun v q => by rw [hd] at q; cases q⟩
  keep := fun i h h' st k => ⟨st.1.imp fun old he => k e (by simp) _ he, st.2.at fun o q => k it (by simp) o q⟩
  item := by
    intro X hP hw hK hc i pins s σ H E I hf st hg
    subst hP hw hK
    obtain ⟨⟨old, he⟩, hit⟩ := st
    obtain ⟨xs, x, hq, hx⟩ := hg
    obtain ⟨its, rv, p, hz⟩ := I.tuple hq
    obtain ⟨u, hu, ru⟩ := rv.get hx
    have lte : e < s.heap.objs.size := Heap.lt_size he
    have lti : it < s.heap.objs.size := by
      obtain ⟨_, q, _⟩ := hit
      exact Heap.lt_size q
    have li : i < its.toArray.size := by
      have q := (List.getElem?_eq_some_iff.mp hu).1
      simpa using q
    refine wpAny_pyNext_enum_itemD (Draws.tuple (A := X.A.in1) (I.ok.hd hc) it a hia its.toArray) he ⟨hit, p⟩ li hei (by simp [hei, hea]) fun y h' tk hy ho hst' hT hsz hk => ?_
    have ey : y = u := by
      rw [show its.toArray[i]? = some u by simpa using hu] at hy
      exact (Option.some.inj hy).symm
    subst ey
    refine ⟨_, rfl, wpAny_letOwnedTupleGo_enum (s := { s with heap := h', toks := tk + 1 }) ho fun h'' he' sb => ?_⟩
    have hT2 : h''.get? s.heap.objs.size = some { cls := .type "tuple", data := .seq #[.int i tk, y] } := (sb.2 _ (Nat.ne_of_gt lte)).trans hT
    have new : ObjOk X.prog X.w (upd H s.heap.objs.size (.tup [.int (i : Nat), x])) h'' s.heap.objs.size (.tup [.int (i : Nat), x]) :=
      ⟨by show 2 ≤ sizeLine; decide, [.int i tk, y], .cons ⟨_, rfl⟩ (.cons ru .nil), ⟨_, hT2, rfl, _, rfl⟩⟩
    have I1 : Inv X pins σ (upd H s.heap.objs.size (.tup [.int (i : Nat), x])) { s with heap := h'', toks := tk + 1 } :=
      I.turnedNew (ch := [e, it]) (fun b ob hb q => (sb.2 b (fun z => hb (by simp [z]))).trans (hk b ob (fun z => hb (by simp [z])) (fun z => hb (by simp [z])) q)) hf (Nat.le_refl _) new
    refine ⟨.ref s.heap.objs.size, _, I1, rfl, ⟨_, x, rfl, I.hok.fresh (Nat.le_refl _), rfl, fun ys hys => by rw [I.tuple_inj hys hq]; exact hx⟩, ⟨⟨y, ?_⟩, hst'.1.at fun o q => (sb.2 it (Ne.symm hei)).trans q⟩, fun b hb => ?_⟩
    · rw [show ((i + 1 : Nat) : Int) = (i : Int) + 1 by omega]
      exact he'
    · have lt : b < s.heap.objs.size := by
        rcases (show b = e ∨ b = it by simpa using hb) with z | z
        · rw [z]; exact lte
        · rw [z]; exact lti
      rw [upd_ne (Nat.ne_of_lt lt)]
      exact (hf b hb).1
  done := by
    intro X hP hw hK hc i pins s σ H E I hf st hg
    subst hP hw hK
    obtain ⟨⟨old, he⟩, hit⟩ := st
    obtain ⟨xs, hq, hx⟩ := hg
    obtain ⟨its, rv, p, hz⟩ := I.tuple hq
    obtain ⟨f0, f1, f2, f3, f4, f5⟩ := hf it (by simp)
    have hl := rv.length
    have D : Draws X.prog X.w X.A.in1 it [it, a] i (fun _ _ => True) (fun j h => j = i ∧ h.IsTupleIter it a j ∧ h.IsTuple a its.toArray) := by
      have T := Draws.tuple (prog := X.prog) (w := X.w) (A := X.A.in1) (I.ok.hd hc) it a hia its.toArray
      exact {
        live := fun j h z => T.live j h z.2
        frame := fun j h h' z k => ⟨z.1, T.frame j h h' z.2 k⟩
        item := fun j s Q E hj st hQ => absurd hj (by rw [st.1]; exact Nat.lt_irrefl _)
        done := fun s Q E st hE => wpAny_nextOf_tuple_end (I.ok.hd hc) st.2.1 st.2.2 (by simp; omega) hE }
    exact wpAny_pyNext_enum_endD D he ⟨rfl, hit, p⟩ fun h' eb => ⟨rfl, I.turned (t' := s.toks) (fun b o hb q => eb b o hb q) f0 f1 f3 f4 f5⟩
  self := fun A i s Q E st h => let ⟨⟨_, he⟩, _⟩ := st; wpAny_pyIter_enum he h
/-- for i, x in enumerate(t), t a tuple -/
def iEnuT (K : PySem.W.Frag) (ta : TA) : TI := fun σ H R => ta σ H fun vs H1 => ∃ a xs, vs = [.ref a] ∧ SqT K H1 a xs ∧ R (Itu K a) H1
theorem pi_enuT {X : Cx} {e : Expr} {ta : TA} {p pos tpos : Pos} {elts : List Expr} {kk : Nat} (hg : Gl X "enumerate") (hm : X.mg "enumerate" = none) (ha : PA X [e] ta) (hs : starEach [e] X.env = [(false, eval e X.env)] := by rfl) :
    PI X (.Tuple elts kk tpos) (.Call (.Name "enumerate" p) [e] [] pos) (iEnuT X.K ta) := by
  refine ⟨fun pins s σ H R I h => ?_⟩
  refine Call_ (ld_blt I hg hm boot_enumerate (PyProof.Rows.callWith_type1 (thn (ha.run pos pins s σ H _ I h) fun us s1 ⟨vs, H1, I1, r1, q1⟩ => ?_) hs rfl))
  obtain ⟨a, xs, ex, hq, q⟩ := q1
  subst ex
  cases r1 with
  | cons r rr =>
    cases rr
    cases r
    obtain ⟨its, rv, p', hz⟩ := I1.tuple hq
    have lta : a < s1.heap.objs.size := by
      obtain ⟨o, ho, _⟩ := id p'
      exact Heap.lt_size ho
    refine call_enum1 (begins_tuple a its.toArray) p' fun h' he hit hsz hk => wpAny_pyIter_enum he ?_
    have I2 : Inv X pins σ H1 { s1 with heap := h' } := I1.kept (t' := s1.toks) hk
    refine ⟨s1.heap.objs.size + 1, [s1.heap.objs.size + 1, s1.heap.objs.size], _, _, H1, rfl, I2,
      turn_itu a (s1.heap.objs.size + 1) s1.heap.objs.size (Nat.succ_ne_self _) (Nat.ne_of_gt (Nat.lt_succ_of_lt lta)) (Nat.ne_of_lt lta), ⟨⟨.none, he⟩, ⟨_, hit, rfl, rfl⟩⟩, fun b hb => ?_, q⟩
    have le : s1.heap.objs.size ≤ b := by
      rcases (show b = s1.heap.objs.size + 1 ∨ b = s1.heap.objs.size by simpa using hb) with z | z
      · rw [z]; exact Nat.le_add_right _ _
      · rw [z]; exact Nat.le_refl _
    exact I1.fpOk le (I1.hok.fresh le)
theorem walk_itu {K : PySem.W.Frag} {a : Addr} {xs : List V} : Walk (Itu K a) xs.length (fun H => SqT K H a xs) (YPair (fun i => some (.int (i : Nat))) (fun i => xs[i]?)) := by
  refine ⟨fun i _ hi q => ⟨xs, xs[i], q, by simp [hi]⟩, fun _ q => ⟨xs, q, Nat.le_refl _⟩, fun i H v H' _ q y => ?_⟩
  obtain ⟨T, x, h1, h2, h3, h4⟩ := y
  exact ⟨T, .int (i : Nat), x, h1, h2, h3, rfl, h4 xs q⟩
end Nm
namespace Nm
open PySem PySem.Spec PyProof.Rows L2
/-- t * 1 is t itself -/
theorem tuple_mul1 (l : Addr) (items : Array Value) (n : Nat) (dd : Option Addr) (sl : Array (Option Value)) (u : Tok) :
    Meets (Builtin.«tuple.__mul__» ⟨[.ref l, .int 1 u], []⟩) (fun _ R s => s.heap.get? l = some { cls := .type "tuple", dict := dd, data := .seq items n, slots := sl } ∧ R (.ok (.ret (Value.ref l))) s) :=
  .of_wp fun prog w A R s h => by
    obtain ⟨hp, g, d, tk, os⟩ := s
    obtain ⟨hl, h⟩ := h
    have f1 := AutoSeq1.idx_int
    have c0 : (decide ((1 : Int) < -(2 ^ 63)) || decide ((1 : Int) ≥ 2 ^ 63)) = false := by decide
    have c1 : (items.isEmpty || (1 : Int) == 1) = true := by cases items.isEmpty <;> rfl
    wp_walk using wpAny_loadPart' hl
    exact ⟨_, rfl, h⟩
def rRep1 (K : PySem.W.Frag) : R2 := fun x y H Q => ∃ l xs, x = .ref l ∧ y = .int 1 ∧ SqT K H l xs ∧ Q (.ref l) H
def rBlCount (K : PySem.W.Frag) : V → List V → Hp → VK → Prop := fun x xs H Q => ∃ (p : Addr) (bs : List Bool) (c : Bool), x = .ref p ∧ xs = [.bl c] ∧ SqL K H p (bs.map V.bl) ∧ Q (.int (bs.count c : Nat)) H
section
variable {X : Cx}
theorem op_rep1 : OpR X (binaryOp .Mult) (rRep1 X.K) := by
  intro pins s σ H x y v u Q I rx ry h
  obtain ⟨l, xs, rfl, rfl, hT, q⟩ := h
  cases rx
  obtain ⟨t, rfl⟩ := ry
  obtain ⟨its, r, ⟨⟨cls, dd, data, sl⟩, ho, hc, n, hd⟩, hs⟩ := I.tuple hT
  simp only at hc hd
  subst hc hd
  refine wpAny_binaryOp_repeat_ref (T := "tuple") (U := "int") (by decide) ⟨_, ho, rfl⟩ (fun s' => typeIs_int s' 1 t) noFill_tuple_mul F.fills_int_mul F.slot_int_rmul repeat_tuple F.slot_int_index.lookup
    (call_meets F.slot_int_rmul (typeIs_int s 1 t) F.entry_int_rmul (F.args_int_rmul_2 _ _) (int_rmul_tuple 1 t l its.toArray n dd sl)
      ⟨ho, rfl, ⟨_, ho, rfl⟩, call_meets F.slot_tuple_mul ⟨_, ho, rfl⟩ F.entry_tuple_mul (F.args_tuple_mul_2 _ _) (tuple_mul1 l its.toArray n dd sl t) ⟨ho, ⟨.ref l, H, I, rfl, q⟩⟩⟩)
def isBl (c : Bool) (v : Value) : Bool := match v with | .bool b => b == c | _ => false
theorem mt_blcount : MtR X "list.count" (rBlCount X.K) := by
  intro pins s σ H x xs v us Q I rx rxs h
  obtain ⟨p, bs, c, rfl, rfl, hs, q⟩ := h
  cases rx
  obtain ⟨u, rfl, ru⟩ := rxs.one
  obtain rfl : u = Value.bool c := ru
  obtain ⟨its, rv, ⟨⟨cls, dd, data, sl⟩, n, ho, hc, hdn, hd⟩, hlen⟩ := I.list hs
  simp only at hc hd
  subst hc hd
  have eb := Vals.bls rv
  refine call_meets PySem.F.slot_list_count ⟨_, ho, rfl⟩ PySem.F.entry_list_count (PySem.F.args_list_count_2 _ _) (SeqAt.list_countAt p its.toArray n dd sl (.bool c) (isBl c)) ⟨ho, fun y hy => ?_, ?_⟩
  · have hm : y ∈ its := by simpa using hy
    rw [eb] at hm
    obtain ⟨b, _, rfl⟩ := List.mem_map.mp hm
    exact SeqAt.EqAt.bool_bool b c
  · have ec : its.toArray.toList.countP (isBl c) = bs.count c := by
      show its.countP (isBl c) = _
      rw [eb, List.countP_map]
      rfl
    refine ⟨.int (bs.count c : Nat), H, I.tok _, ⟨s.toks, ?_⟩, q⟩
    show Value.int ((its.toArray.toList.countP (isBl c) : Nat) : Int) s.toks = Value.int ((bs.count c : Nat) : Int) s.toks
    rw [ec]
/-- nothing is asked that could be met: an expression that is never reached -/
theorem pe_never {e : Expr} : PE X e (fun _ _ _ => False) := ⟨fun _ _ _ _ _ _ h => h.elim⟩
end
end Nm
namespace Nm
open PySem PySem.Spec PyProof.Rows L2
open C8 (Cal Mak pe_c pe_mk pe_gc)
open RZ (ItzT pi_zipA)
/-- a def of the text that stands under its name -/
def Top (K : PySem.W.Frag) (mg : Str → Option Value) (x : Str) (st : Stmt) : Prop := ∃ f fd, Fun K x x st f fd ∧ mg x = some (.ref f)
section
variable {P : Program} {w : World} {K : PySem.W.Frag} {mg : Str → Option Value} {base : Heap}
theorem cal_of {x : Str} {st : Stmt} {N ps : List Str} {k : Nat} {sp : Sp} (D : Top K mg x st) (S : FnScope N ps (defScope st))
    (hb : ∀ (kV doc pm : Value) (an : Option Addr) (cdv ct : Value) (us : List Value), us.length = ps.length → bindArgs (PySem.W.fnOf x x (defArgs st) (defBody st) (defScope st) .none kV doc pm an cdv ct) ⟨us, []⟩ = pure (ps.zip us))
    (len : ∀ vs H Q E, sp vs H Q E → vs.length = ps.length)
    (body : ∀ (f : Addr) (cdv : Value) (A : Around) (outer : List Env) (s : Shared) (H : Hp) (vs : List V) (Q : VK) (E : XK), Room k (A.deeper (envOfC x (defScope st) s.heap.objs.size f cdv)) → sp vs H Q E →
      ∃ t, PSs (cxOf CX0 P w K mg base N x (defScope st) f cdv A outer s H E).nox (defBody st) t ∧ t { nx := fun _ H' => Q .non H', rt := Q } (start N vs) H) : Cal P w K mg base (k + 1) x sp [] := by
  obtain ⟨f, fd, F, hm⟩ := D
  exact ⟨f, fd, ps, [], F.ok S len fun cdv A outer s H vs Q E hr h => body f cdv A outer s H vs Q E hr h, hm, F.kp, F.binds hb, .nil⟩
end
theorem cal_mono {P : Program} {w : World} {K : PySem.W.Frag} {mg : Str → Option Value} {base : Heap} {k : Nat} {x : Str} {sp sp' : Sp} (c : Cal P w K mg base k x sp []) (h : ∀ vs H Q E, sp' vs H Q E → sp vs H Q E) : Cal P w K mg base k x sp' [] := by
  obtain ⟨f, fd, ps, ds, F, hm, kp, b, d⟩ := c.ex
  obtain ⟨F1, F2⟩ := F
  exact ⟨f, fd, ps, ds, ⟨fun vs H Q E q => F1 vs H Q E (h vs H Q E q), fun A outer s H args us vs Q E a1 a2 a3 a4 q => F2 A outer s H args us vs Q E a1 a2 a3 a4 (h vs H Q E q)⟩, hm, kp, b, d⟩
/-- laid over something new all stands -/
theorem same_new {H : Hp} {p : Addr} {o : HO} (h : H p = none) : Same H (upd H p o) := fun b u q => by
  rw [upd_ne (ne_of_none q h)]
  exact q
/-- what happens to a new object leaves the rest -/
theorem same_mut {H H' : Hp} {p : Addr} {o : HO} (g : Same H H') (h : H p = none) : Same H (upd H' p o) := fun b u q => by
  rw [upd_ne (ne_of_none q h)]
  exact g b u q
/-- what isinstance says -/
theorem is_int {K : PySem.W.Frag} : PySem.W.kitOne K (.type "int") (.type "int") = some true := kit_ty (by decide +kernel)
theorem is_int_bool {K : PySem.W.Frag} : PySem.W.kitOne K (.type "int") (.type "bool") = some false := kit_ty (by decide +kernel)
theorem is_tup_int {K : PySem.W.Frag} : PySem.W.kitOne K (.type "tuple") (.type "int") = some false := kit_ty (by decide +kernel)
theorem is_tup {K : PySem.W.Frag} : PySem.W.kitOne K (.type "tuple") (.type "tuple") = some true := kit_ty (by decide +kernel)
theorem is_int_tup {K : PySem.W.Frag} : PySem.W.kitOne K (.type "int") (.type "tuple") = some false := kit_ty (by decide +kernel)
theorem is_str {K : PySem.W.Frag} : PySem.W.kitOne K (.type "str") (.type "str") = some true := kit_ty (by decide +kernel)
theorem is_bool {K : PySem.W.Frag} : PySem.W.kitOne K (.type "bool") (.type "bool") = some true := kit_ty (by decide +kernel)
def isInt : V → Bool
  | .int _ => true
  | _ => false
def isStr : V → Bool
  | .str _ => true
  | _ => false
/-- isinstance(x, n) is b -/
def TyC (K : PySem.W.Frag) (H : Hp) (x : V) (n : String) (b : Bool) : Prop := ∃ t, TyX K H x t ∧ PySem.W.kitOne K t (.type n) = some b
/-- what the program's own look for an integer needs -/
def TyI (K : PySem.W.Frag) (H : Hp) (x : V) : Prop := ∃ b c, TyC K H x "int" b ∧ TyC K H x "bool" c ∧ (b && !c) = isInt x
section
variable {K : PySem.W.Frag} {H : Hp}
theorem tyc_int (i : Int) : TyC K H (.int i) "int" true := ⟨_, .base (.int i), kit_ty (by decide +kernel)⟩
theorem tyi_int (i : Int) : TyI K H (.int i) := ⟨true, false, ⟨_, .base (.int i), kit_ty (by decide +kernel)⟩, ⟨_, .base (.int i), kit_ty (by decide +kernel)⟩, rfl⟩
theorem tyi_tup {a : Addr} {xs : List V} (h : H a = some (.tup xs)) : TyI K H (.ref a) := ⟨false, false, ⟨_, .base (.tup h), kit_ty (by decide +kernel)⟩, ⟨_, .base (.tup h), kit_ty (by decide +kernel)⟩, rfl⟩
theorem tyi_str (z : Str) : TyI K H (.str z) := ⟨false, false, ⟨_, .base (.str z), kit_ty (by decide +kernel)⟩, ⟨_, .base (.str z), kit_ty (by decide +kernel)⟩, rfl⟩
theorem tyc_tup {a : Addr} {xs : List V} (h : H a = some (.tup xs)) : TyC K H (.ref a) "tuple" true := ⟨_, .base (.tup h), kit_ty (by decide +kernel)⟩
theorem tyc_int_tup (i : Int) : TyC K H (.int i) "tuple" false := ⟨_, .base (.int i), kit_ty (by decide +kernel)⟩
theorem tyc_str (z : Str) : TyC K H (.str z) "str" true := ⟨_, .base (.str z), kit_ty (by decide +kernel)⟩
theorem tyc_bl (b : Bool) : TyC K H (.bl b) "bool" true := ⟨_, .base (.bl b), kit_ty (by decide +kernel)⟩
end
/-- a text of 1 to most letters a to z -/
def letB (z : Str) (most : Int) : Bool := decide (1 ≤ (z.length : Int)) && decide ((z.length : Int) ≤ most) && z.cps.toList.all (fun c => decide (97 ≤ c) && decide (c ≤ 122))
def letV (x : V) (most : Int) : Bool := match x with | .str z => letB z most | _ => false
def within (x : V) (lo hi : Int) : Bool := match x with | .int n => decide (lo ≤ n) && decide (n ≤ hi) | _ => false
theorem sign_lt (c d : Nat) : decide (([c] : List Nat) < [d]) = decide (c < d) := by
  by_cases h : c < d
  · rw [decide_eq_true h]
    exact decide_eq_true (List.Lex.rel h)
  · rw [decide_eq_false h]
    refine decide_eq_false fun q => ?_
    cases q with
    | rel r => exact h r
    | cons r => cases r
/-! ### boards -/
/-- a board: its name, the side, the row that was played -/
abbrev Bd := Str × Int × List Str
def BoardAt (H : Hp) (v : V) (b : Bd) : Prop := ∃ a r, v = .ref a ∧ H a = some (.tup [.str b.1, .int b.2.1, .ref r]) ∧ H r = some (.tup (b.2.2.map V.str))
def BoardsAt (H : Hp) (a : Addr) (bs : List Bd) : Prop := ∃ xs, H a = some (.tup xs) ∧ Paired (BoardAt H) xs bs
def rowB (ws : List Str) (most : Int) : Bool := decide ((ws.length : Int) ≤ most) && ws.all (fun z => letB z 20)
def boardB (b : Bd) : Bool := letB b.1 8 && (within (.int b.2.1) 0 1 && rowB b.2.2 20)
/-- nothing here is too long for the model -/
def smallBd (b : Bd) : Prop := b.1.length ≤ 1000 ∧ b.2.2.length ≤ 1000 ∧ ∀ z ∈ b.2.2, z.length ≤ 1000
theorem BoardAt.mono {H H' : Hp} (k : ∀ a xs, H a = some (.tup xs) → H' a = some (.tup xs)) {v : V} {b : Bd} (h : BoardAt H v b) : BoardAt H' v b := by
  obtain ⟨a, r, e, h1, h2⟩ := h
  exact ⟨a, r, e, k _ _ h1, k _ _ h2⟩
theorem paired_mono {α β : Type} {R S : α → β → Prop} (h : ∀ a b, R a b → S a b) : ∀ {xs : List α} {ys : List β}, Paired R xs ys → Paired S xs ys
  | _, _, .nil => .nil
  | _, _, .cons r t => .cons (h _ _ r) (paired_mono h t)
theorem paired_at {α β : Type} {R : α → β → Prop} : ∀ {xs : List α} {ys : List β}, Paired R xs ys → ∀ (i : Nat) (x : α), xs[i]? = some x → ∃ y, ys[i]? = some y ∧ R x y
  | _, _, .nil, i, x, h => by simp at h
  | _, _, .cons r t, 0, x, h => by
    simp at h
    subst h
    exact ⟨_, rfl, r⟩
  | _, _, .cons r t, i + 1, x, h => by
    obtain ⟨y, h1, h2⟩ := paired_at t i x (by simpa using h)
    exact ⟨y, by simpa using h1, h2⟩
theorem paired_len {α β : Type} {R : α → β → Prop} : ∀ {xs : List α} {ys : List β}, Paired R xs ys → xs.length = ys.length
  | _, _, .nil => rfl
  | _, _, .cons _ t => by rw [List.length_cons, List.length_cons, paired_len t]
theorem BoardsAt.mono {H H' : Hp} (k : ∀ a xs, H a = some (.tup xs) → H' a = some (.tup xs)) {a : Addr} {bs : List Bd} (h : BoardsAt H a bs) : BoardsAt H' a bs := by
  obtain ⟨xs, h1, h2⟩ := h
  exact ⟨xs, k _ _ h1, paired_mono (fun _ _ => BoardAt.mono k) h2⟩
theorem same_tups {H H' : Hp} (g : Same H H') : ∀ a xs, H a = some (.tup xs) → H' a = some (.tup xs) := fun a xs h => g a _ h
/-! ### texts gathered -/
theorem take_one {α : Type} {l : List α} {i : Nat} {x : α} (h : l[i]? = some x) : l.take (i + 1) = l.take i ++ [x] := by
  rw [List.take_add_one, h]
  rfl
/-- the program's own word for the names: each once, ascending -/
structure Names (xs ys : List Str) : Prop where
  up : PyProof.Rows.sortedS ys = true
  nd : ys.Nodup
  mem : ∀ x, x ∈ ys ↔ x ∈ xs
/-- a hall stands at p, with these boards -/
def HallAt (K : PySem.W.Frag) (H : Hp) (p : Addr) (bs : List Bd) : Prop := ∃ C dx fs a n ys, Cls K C ∧ NoAttr K C "boards" ∧ NoAttr K C "names" ∧ H p = some (.ins C dx fs) ∧ fs.lookup ("boards" : Str) = some (.ref a) ∧ fs.lookup ("names" : Str) = some (.ref n) ∧
  BoardsAt H a bs ∧ H n = some (.tup (ys.map V.str)) ∧ Names (bs.map (·.1)) ys
/-- all that is no list stands -/
def Keep (H H' : Hp) : Prop := ∀ b o, H b = some o → (∀ xs, o ≠ .lst xs) → H' b = some o
theorem same_keep {H H' : Hp} (g : Same H H') : Keep H H' := fun b o h _ => g b o h
theorem Keep.refl (H : Hp) : Keep H H := fun _ _ h _ => h
theorem Keep.trans {H H1 H2 : Hp} (a : Keep H H1) (b : Keep H1 H2) : Keep H H2 := fun c o h n => b c o (a c o h n) n
theorem Keep.tups {H H' : Hp} (g : Keep H H') : ∀ a xs, H a = some (.tup xs) → H' a = some (.tup xs) := fun a xs h => g a _ h fun _ e => nomatch e
theorem HallAt.mono {K : PySem.W.Frag} {H H' : Hp} (g : Keep H H') {p : Addr} {bs : List Bd} (h : HallAt K H p bs) : HallAt K H' p bs := by
  obtain ⟨C, dx, fs, a, n, ys, h1, h2, h3, h4, h5, h6, h7, h8, h9⟩ := h
  exact ⟨C, dx, fs, a, n, ys, h1, h2, h3, g _ _ h4 (fun _ e => nomatch e), h5, h6, h7.mono g.tups, g.tups _ _ h8, h9⟩
theorem nb_ne : ¬ (("boards" : Str) = "names") := by decide +kernel
/-! ### zip of two tuples of any lengths -/
theorem walk_zipT {K : PySem.W.Frag} {a b : Addr} {xs ys : List V} {n : Nat} (hn : n = min xs.length ys.length) : Walk (ItzT K a b) n (fun H => SqT K H a xs ∧ SqT K H b ys) (YPair (fun i => xs[i]?) (fun i => ys[i]?)) := by
  subst hn
  refine ⟨fun i _ hi q => ?_, fun _ q => ⟨xs, ys, q.1, q.2, by omega⟩, fun i H v H' _ q y => ?_⟩
  · have h1 : i < xs.length := by omega
    have h2 : i < ys.length := by omega
    exact ⟨xs, ys, xs[i], ys[i], q.1, q.2, by simp [h1], by simp [h2]⟩
  · obtain ⟨T, x, z, h1, h2, h3, h4, h5⟩ := y
    exact ⟨T, x, z, h1, h2, h3, h4 xs q.1, h5 ys q.2⟩
/-- the ints rise, each pair of neighbours looked at -/
def ascB (ns : List Int) : Bool := (ns.zip (ns.drop 1)).all fun p => decide (p.1 < p.2)
theorem ascB_of {ns : List Int} (h : ns.Pairwise (· < ·)) : ascB ns = true := by
  unfold ascB
  rw [List.all_eq_true]
  intro p hp
  refine decide_eq_true ?_
  induction ns with
  | nil => simp at hp
  | cons a r ih =>
    obtain ⟨h1, h2⟩ := List.pairwise_cons.mp h
    cases r with
    | nil => simp at hp
    | cons b r =>
      rw [List.drop_one, List.tail_cons] at hp
      rcases List.mem_cons.mp (by simpa using hp) with e | e
      · subst e
        exact h1 b List.mem_cons_self
      · refine ih h2 ?_
        rw [List.drop_one, List.tail_cons]
        exact e
theorem map_at {α β : Type} {f : α → β} {l : List α} {i : Nat} {y : β} (h : (l.map f)[i]? = some y) : ∃ x, l[i]? = some x ∧ y = f x := by
  rw [List.getElem?_map] at h
  cases e : l[i]? with
  | none =>
    rw [e] at h
    cases h
  | some x =>
    rw [e] at h
    exact ⟨x, rfl, (Option.some.inj h).symm⟩
/-- a def that nobody can ask anything of -/
theorem cal_void {P : Program} {w : World} {K : PySem.W.Frag} {mg : Str → Option Value} {base : Heap} {x : Str} {st : Stmt} {ps : List Str} {k : Nat} {sp : Sp} (D : Top K mg x st)
    (hb : ∀ (kV doc pm : Value) (an : Option Addr) (cdv ct : Value) (us : List Value), us.length = ps.length → PySem.bindArgs (PySem.W.fnOf x x (defArgs st) (defBody st) (defScope st) .none kV doc pm an cdv ct) ⟨us, []⟩ = pure (ps.zip us))
    (no : ∀ vs H Q E, ¬ sp vs H Q E) : Cal P w K mg base k x sp [] := by
  obtain ⟨f, fd, F, hm⟩ := D
  exact ⟨f, fd, ps, [], ⟨fun vs H Q E h => absurd h (no vs H Q E), fun A outer s H args us vs Q E _ _ _ _ h => absurd h (no vs H Q E)⟩, hm, F.kp, F.binds hb, .nil⟩
/-! ### aims -/
inductive AKind where
  | all | some | least (k : Int)
def AKind.head : AKind → List V
  | .all => [.str "all"]
  | .some => [.str "some"]
  | .least k => [.str "least", .int k]
def AKind.ok : AKind → Prop
  | .least k => 0 ≤ k ∧ k ≤ 25
  | _ => True
def AKind.val : AKind → List Bool → Bool
  | .all, bs => bs.all id
  | .some, bs => bs.any id
  | .least k, bs => decide (k ≤ (bs.count true : Nat))
def AKind.need : AKind → Nat → Int
  | .all, n => n
  | .some, _ => 1
  | .least k, _ => k
/-- what an aim says of the boards that are won -/
abbrev ASem := (Int → Bool) → Bool
/-- at v stands an aim of boards below many, at most d deep, of s aims, that says φ -/
def AimV (H : Hp) (many : Int) : Nat → V → Nat → ASem → Prop
  | 0, _, _, _ => False
  | d + 1, v, s, φ => (∃ n : Int, v = .int n ∧ 0 ≤ n ∧ n < many ∧ s = 1 ∧ φ = fun w => w n) ∨
    (∃ (a p : Addr) (xs : List V) (kd : AKind) (ys : List (Nat × ASem)), v = .ref a ∧ H a = some (.tup (kd.head ++ [.ref p])) ∧ H p = some (.tup xs) ∧ kd.ok ∧ xs.length ≤ 24 ∧ Paired (fun x y => AimV H many d x y.1 y.2) xs ys ∧
      s = 1 + (ys.map (·.1)).sum ∧ φ = fun w => kd.val (ys.map fun y => y.2 w))
theorem AimV.mono {H H' : Hp} {many : Int} (k : ∀ a xs, H a = some (.tup xs) → H' a = some (.tup xs)) : ∀ {d : Nat} {v : V} {s : Nat} {φ : ASem}, AimV H many d v s φ → AimV H' many d v s φ
  | 0, _, _, _, h => h.elim
  | d + 1, v, s, φ, h => by
    rcases h with h | ⟨a, p, xs, kd, ys, h1, h2, h3, h4, h5, h6, h7, h8⟩
    · exact .inl h
    · exact .inr ⟨a, p, xs, kd, ys, h1, k _ _ h2, k _ _ h3, h4, h5, paired_mono (fun _ _ h => AimV.mono k h) h6, h7, h8⟩
theorem AimV.deeper {H : Hp} {many : Int} : ∀ {d e : Nat} {v : V} {s : Nat} {φ : ASem}, d ≤ e → AimV H many d v s φ → AimV H many e v s φ
  | 0, _, _, _, _, _, h => h.elim
  | d + 1, 0, _, _, _, l, _ => absurd l (Nat.not_succ_le_zero d)
  | d + 1, e + 1, v, s, φ, l, h => by
    rcases h with h | ⟨a, p, xs, kd, ys, h1, h2, h3, h4, h5, h6, h7, h8⟩
    · exact .inl h
    · exact .inr ⟨a, p, xs, kd, ys, h1, h2, h3, h4, h5, paired_mono (fun _ _ h => AimV.deeper (Nat.le_of_succ_le_succ l) h) h6, h7, h8⟩
theorem AimV.pos {H : Hp} {many : Int} : ∀ {d : Nat} {v : V} {s : Nat} {φ : ASem}, AimV H many d v s φ → 1 ≤ s
  | 0, _, _, _, h => h.elim
  | d + 1, v, s, φ, h => by
    rcases h with ⟨n, _, _, _, e, _⟩ | ⟨a, p, xs, kd, ys, h1, h2, h3, h4, h5, h6, h7, h8⟩ <;> omega
theorem head_len (kd : AKind) : (kd.head ++ [V.ref p]).length = 2 ∨ (kd.head ++ [V.ref p]).length = 3 := by
  cases kd
  · exact .inl rfl
  · exact .inl rfl
  · exact .inr rfl
def b2 (b : Bool) : Int := if b then 1 else 0
theorem iteP {c A B : Prop} [Decidable c] (hc : c) (h : A) : if c then A else B := by
  rw [if_pos hc]
  exact h
theorem iteN {c A B : Prop} [Decidable c] (hc : ¬ c) (h : B) : if c then A else B := by
  rw [if_neg hc]
  exact h
theorem nt {b : Bool} (h : b = false) : ¬ b = true := by rw [h]; exact Bool.false_ne_true
theorem l2 : 2 ≤ PySem.sizeLine := by decide
theorem sum_take_le : ∀ (l : List Nat) (i : Nat), (l.take i).sum ≤ l.sum
  | [], i => by simp
  | x :: l, 0 => by simp
  | x :: l, i + 1 => by
    have := sum_take_le l i
    simp only [List.take_succ_cons, List.sum_cons]
    omega
theorem sum_take_one {l : List Nat} {i x : Nat} (h : l[i]? = some x) : (l.take (i + 1)).sum = (l.take i).sum + x := by
  rw [take_one h, List.sum_append]
  simp
theorem int_ne {i j : Int} (h : i ≠ j) : decide (V.int i = V.int j) = false := decide_eq_false fun e => h (V.int.inj e)
theorem int_eq {i j : Int} (h : i = j) : decide (V.int i = V.int j) = true := decide_eq_true (congrArg V.int h)
/-! ### the tape from which a law draws -/
def TapeAt (H : Hp) (tp l : Addr) : Prop := ∃ (ns : List Int) (i c m n : Int), H tp = some (.lst [.ref l, .int i, .int c, .int m, .int n]) ∧ H l = some (.lst (ns.map V.int)) ∧ 0 ≤ i
/-- all but the tape stands -/
def Mov (tp : Addr) (H H' : Hp) : Prop := ∀ b o, H b = some o → b ≠ tp → H' b = some o
theorem Mov.refl (tp : Addr) (H : Hp) : Mov tp H H := fun _ _ h _ => h
theorem Mov.trans {tp : Addr} {H H1 H2 : Hp} (a : Mov tp H H1) (b : Mov tp H1 H2) : Mov tp H H2 := fun c o h n => b c o (a c o h n) n
theorem mov_same {tp : Addr} {H H' : Hp} (g : Same H H') : Mov tp H H' := fun b o h _ => g b o h
theorem mov_upd {tp : Addr} {H : Hp} {o : HO} : Mov tp H (upd H tp o) := fun b u h n => by
  rw [upd_ne n]
  exact h
theorem mov_mut {tp : Addr} {H H' : Hp} {p : Addr} {o : HO} (g : Mov tp H H') (h : H p = none) : Mov tp H (upd H' p o) := fun b u q n => by
  rw [upd_ne (ne_of_none q h)]
  exact g b u q n
theorem TapeAt.keep {H H' : Hp} {tp l : Addr} (t : TapeAt H tp l) (m : Mov tp H H') : Keep H H' := fun b o h n => m b o h fun e => by
  obtain ⟨ns, i, c, k, j, h1, _⟩ := t
  rw [e, h1] at h
  exact n _ (Option.some.inj h).symm
theorem TapeAt.same {H H' : Hp} {tp l : Addr} (t : TapeAt H tp l) (g : Same H H') : TapeAt H' tp l := by
  obtain ⟨ns, i, c, k, j, h1, h2, h3⟩ := t
  exact ⟨ns, i, c, k, j, g _ _ h1, g _ _ h2, h3⟩
theorem TapeAt.new {H : Hp} {tp l p : Addr} (t : TapeAt H tp l) (h : H p = none) : p ≠ tp ∧ p ≠ l := by
  obtain ⟨ns, i, c, k, j, h1, h2, h3⟩ := t
  exact ⟨(ne_of_none h1 h).symm, (ne_of_none h2 h).symm⟩
theorem TapeAt.upd {H : Hp} {tp l p : Addr} {o : HO} (t : TapeAt H tp l) (n : p ≠ tp ∧ p ≠ l) : TapeAt (L2.upd H p o) tp l := by
  obtain ⟨ns, i, c, k, j, h1, h2, h3⟩ := t
  exact ⟨ns, i, c, k, j, by rw [upd_ne n.1.symm]; exact h1, by rw [upd_ne n.2.symm]; exact h2, h3⟩
theorem keep_lst {H : Hp} {p : Addr} {xs ys : List V} (h : H p = some (.lst xs)) : Keep H (upd H p (.lst ys)) := fun b o hb n => by
  rw [upd_ne (fun e => by rw [e, h] at hb; exact n _ (Option.some.inj hb).symm)]
  exact hb
theorem paired_snoc {α β : Type} {R : α → β → Prop} : ∀ {xs : List α} {ys : List β} {x : α} {y : β}, Paired R xs ys → R x y → Paired R (xs ++ [x]) (ys ++ [y])
  | _, _, _, _, .nil, h => .cons h .nil
  | _, _, _, _, .cons r t, h => .cons r (paired_snoc t h)
theorem sum_bound {B : Nat} : ∀ (l : List Nat), (∀ x ∈ l, x ≤ B) → l.sum ≤ B * l.length
  | [], _ => by simp
  | x :: l, h => by
    have h1 := h x List.mem_cons_self
    have h2 := sum_bound l fun y hy => h y (List.mem_cons_of_mem _ hy)
    rw [List.sum_cons, List.length_cons, Nat.mul_succ]
    omega
theorem tape_ne {H : Hp} {tp l : Addr} {ns : List Int} {i c m n : Int} (h1 : H tp = some (.lst [.ref l, .int i, .int c, .int m, .int n])) (h2 : H l = some (.lst (ns.map V.int))) : l ≠ tp := fun e => by
  rw [e, h1] at h2
  cases ns with
  | nil => cases h2
  | cons a r => cases h2
theorem at_getD {L : List Int} {k : Nat} (h : k < L.length) : atI (L.map V.int) (k : Int) = some (V.int (L.getD k 0)) := by
  refine atI_nat ?_
  rw [List.getElem?_map, List.getD_eq_getElem?_getD, List.getElem?_eq_getElem h]
  rfl
theorem ixN_nat {n k : Nat} (h : k < n) : ixN n (k : Int) = some k := by
  unfold ixN
  rw [if_pos (by omega), if_pos (by omega)]
  rfl
theorem in_ints (n : Int) : ∀ ns : List Int, inV (.int n) (ns.map V.int) = decide (n ∈ ns)
  | [] => rfl
  | m :: ns => by
    have ih := in_ints n ns
    unfold inV at ih ⊢
    rw [List.map_cons, List.any_cons, ih]
    have e : eqV (V.int m) (V.int n) = decide (m = n) := by
      show (m == n) = decide (m = n)
      by_cases h : m = n
      · rw [decide_eq_true h, h]
        exact beq_self_eq_true n
      · rw [decide_eq_false h]
        exact beq_eq_false_iff_ne.mpr h
    rw [e]
    by_cases h : m = n
    · subst h
      simp
    · have h' : ¬ n = m := fun z => h z.symm
      simp [h, h']
theorem flat_ints (ns : List Int) : (ns.map V.int).all flatV = true := by
  rw [List.all_map]
  exact List.all_eq_true.mpr fun _ _ => rfl
end Nm
namespace NmD
open PySem PySem.Spec PyProof.Rows L2 PySem.W PySem.SeqAt
mutual
/-- no list and no dict in it -/
def pureD : PyData → Bool
  | .none => true
  | .bool _ => true
  | .int _ => true
  | .str _ => true
  | .list _ => false
  | .tuple xs => pureAll xs
  | .dict _ => false
def pureAll : List PyData → Bool
  | [] => true
  | x :: xs => pureD x && pureAll xs
end
def Tups (h h' : Heap) : Prop := ∀ b o, h.get? b = some o → o.cls = .type "tuple" → h'.get? b = some o
mutual
theorem reads_keep {h h' : Heap} (kp : Tups h h') : ∀ (d : PyData) (v : Value) (as : List Addr), pureD d = true → Reads h v d as → ∃ bs, Reads h' v d bs
  | .none, _, _, _, r => by
    cases r
    exact ⟨_, .none⟩
  | .bool b, _, _, _, r => by
    cases r
    exact ⟨_, .bool b⟩
  | .int i, _, _, _, r => by
    cases r
    exact ⟨_, .int i _⟩
  | .str x, _, _, _, r => by
    cases r
    exact ⟨_, .str x _⟩
  | .list xs, _, _, p, _ => by
    unfold pureD at p
    cases p
  | .dict xs, _, _, p, _ => by
    unfold pureD at p
    cases p
  | .tuple xs, _, _, p, r => by
    cases r with
    | tuple h1 h2 h3 h4 =>
      obtain ⟨bs, q⟩ := reads_keepA kp xs _ _ (by unfold pureD at p; exact p) h4
      exact ⟨bs, .tuple (kp _ _ h1 h2) h2 h3 q⟩
theorem reads_keepA {h h' : Heap} (kp : Tups h h') : ∀ (ds : List PyData) (vs : List Value) (as : List Addr), pureAll ds = true → ReadsAll h vs ds as → ∃ bs, ReadsAll h' vs ds bs
  | [], _, _, _, r => by
    cases r
    exact ⟨_, .nil⟩
  | d :: ds, _, _, p, r => by
    cases r with
    | cons r1 r2 =>
      unfold pureAll at p
      rw [Bool.and_eq_true] at p
      obtain ⟨b1, q1⟩ := reads_keep kp d _ _ p.1 r1
      obtain ⟨b2, q2⟩ := reads_keepA kp ds _ _ p.2 r2
      exact ⟨_, .cons q1 q2⟩
end
/-- the first item of each -/
def Firsts (h : Heap) : List Value → List (Option Value) → Prop
  | [], [] => True
  | v :: vs, f :: fs => (∃ a o xs n, v = .ref a ∧ h.get? a = some o ∧ o.cls = .type "tuple" ∧ o.data = .seq xs n ∧ xs[0]? = f) ∧ Firsts h vs fs
  | _, _ => False
section
variable {M : Model} {A : Around} {E : Value → Shared → Prop} {s : Shared}
theorem firsts_run : ∀ (vs : List Value) (fs : List (Option Value)) {Q : List (Option Value) → Shared → Prop}, Firsts s.heap vs fs → Q fs s → wpAny M A (vs.mapM firstOfTuple') Q E s
  | [], [], _, _, h => by rw [List.mapM_nil]; exact wpAny_pure h
  | [], _ :: _, _, t, _ => t.elim
  | _ :: _, [], _, t, _ => t.elim
  | v :: vs, f :: fs, Q, t, h => by
    obtain ⟨⟨a, o, xs, n, rfl, ho, hc, hd, hf⟩, t⟩ := t
    rw [List.mapM_cons]
    refine wpAny_bind ?_
    rw [kas_first_eq]
    refine wpAny_bind (Looks.here (show Looks M s.heap (typeOf (.ref a)) o.cls from (Looks.ld ho).andThen .now) ?_)
    rw [hc, if_neg (by first | decide | simp)]
    refine wpAny_bind (listItems_at ho hd (wpAny_pure ?_))
    rw [hf]
    exact wpAny_bind (firsts_run vs fs (Q := fun bs s' => wpAny M A (pure (f :: bs)) Q E s') t (wpAny_pure h))
theorem firsts_typ : ∀ {vs : List Value} {fs : List (Option Value)}, Firsts s.heap vs fs → ∀ v ∈ vs, Looks M s.heap (typeOf v) (.type "tuple")
  | [], _, _, v, hv => absurd hv (List.not_mem_nil)
  | _ :: _, [], t, _, _ => t.elim
  | u :: us, f :: fs, t, v, hv => by
    obtain ⟨⟨a, o, xs, n, rfl, ho, hc, hd, hf⟩, t⟩ := t
    rcases List.mem_cons.mp hv with rfl | hv
    · have L : Looks M s.heap (typeOf (.ref a)) o.cls := (Looks.ld ho).andThen .now
      rw [hc] at L
      exact L
    · exact firsts_typ t v hv
/-- an empty one among them -/
theorem kind_mix {vs : List Value} {fs : List (Option Value)} {Q : SortKind → Shared → Prop} (t : Firsts s.heap vs fs) (hn : (fs.toArray.all fun x => x.isSome) = false) (h : ∀ κ, κ = general' ∨ κ = oneType' → Q κ s) :
    wpAny M A (keyKind' vs.toArray) Q E s := by
  rw [kat_kind_eq, List.mapM_toArray, map_eq_pure_bind]
  refine wpAny_bind (wpAny_bind (firsts_run vs _ t (wpAny_pure ?_)))
  rw [if_neg (by rw [hn]; exact Bool.false_ne_true)]
  refine wpAny_ite ?_
  split
  · exact wpAny_pure (h _ (.inl rfl))
  · rw [oneTypeOnly'_eq, List.mapM_toArray, map_eq_pure_bind]
    refine wpAny_bind (wpAny_bind (wpAny_bind (kas_mapM (r := Value.type "tuple") _ (fun v hv Q' hq => (firsts_typ t v hv).here hq) (wpAny_pure ?_))))
    split
    · split
      · exact wpAny_pure (wpAny_pure (h _ (.inr rfl)))
      · exact wpAny_pure (wpAny_pure (h _ (.inl rfl)))
    · exact wpAny_pure (wpAny_pure (h _ (.inl rfl)))
theorem kat_of : ∀ {vs : List Value} {fs : List (Option Value)}, Firsts s.heap vs fs → (fs.toArray.all fun x => x.isSome) = true → ∃ gs, fs = gs.map some ∧ KatTups s.heap vs gs
  | [], [], _, _ => ⟨[], rfl, KatTups.nil⟩
  | [], _ :: _, t, _ => t.elim
  | _ :: _, [], t, _ => t.elim
  | v :: vs, f :: fs, t, e => by
    obtain ⟨⟨a, o, xs, n, rfl, ho, hc, hd, hf⟩, t⟩ := t
    have e' : f.isSome = true ∧ (fs.all fun x => x.isSome) = true := by simpa using e
    obtain ⟨gs, rfl, kt⟩ := kat_of t (by simpa using e'.2)
    obtain ⟨g, rfl⟩ := Option.isSome_iff_exists.mp e'.1
    exact ⟨g :: gs, rfl, ⟨a, o, xs, n, rfl, ho, hc, hd, hf⟩, kt⟩
end
def tyD : PyData → String
  | .int _ => "int"
  | .str _ => "str"
  | .tuple _ => "tuple"
  | .bool _ => "bool"
  | .none => "NoneType"
  | .list _ => "list"
  | .dict _ => "dict"
section
variable {prog : Program} {w : World} {A : Around} {E : Value → Shared → Prop} {s : Shared}
theorem look_ty {M : Model} {h : Heap} {z : PyData} {v : Value} {as : List Addr} (p : pureD z = true) (r : Reads h v z as) : Looks M h (typeOf v) (.type (tyD z)) := by
  cases r with
  | none => exact Looks.now
  | bool b => exact Looks.now
  | int i t => exact Looks.now
  | str x t => exact Looks.now
  | list _ _ _ _ =>
    unfold pureD at p
    cases p
  | dict _ _ _ _ _ =>
    unfold pureD at p
    cases p
  | @tuple a o vs n xs as h1 h2 h3 h4 =>
    have L : Looks M h (typeOf (.ref a)) o.cls := (Looks.ld h1).andThen .now
    rw [h2] at L
    exact L
theorem alike_ty {x y : PyData} (h : alike x y = true) : tyD x = tyD y := by
  cases x <;> cases y <;> first | rfl | exact absurd h (by simp [alike])
/-- what is known of the items: tuples, as k tells, of such data, any two of them alike -/
structure Rows (h : Heap) (vs : List Value) (k : Value → List PyData) : Prop where
  rd : ∀ v ∈ vs, ∃ as, Reads h v (.tuple (k v)) as
  pu : ∀ v ∈ vs, pureAll (k v) = true
  al : ∀ v ∈ vs, ∀ u ∈ vs, alikeAll (k v) (k u) = true
  dp : ∀ v ∈ vs, PyData.depthAll (k v) ≤ 40
abbrev ltD (k : Value → List PyData) (v u : Value) : Bool := PyProof.Rows.lexLt itemOrd (keyToksAll (k v)) (keyToksAll (k u))
theorem ltD_swo (k : Value → List PyData) : SrtO.Swo (ltD k) := by
  refine ⟨fun x y h => ?_, fun x y z h1 h2 => ?_⟩
  · cases e : ltD k y x with
    | false => rfl
    | true =>
      have z := (listOrd itemOrd).trans _ _ _ h e
      rw [(listOrd itemOrd).irrefl] at z
      cases z
  · cases e : ltD k z x with
    | false => rfl
    | true =>
      rcases (listOrd itemOrd).negTrans _ (keyToksAll (k y)) _ e with q | q
      · rw [show ltD k z y = true from q] at h2
        cases h2
      · rw [show ltD k y x = true from q] at h1
        cases h1
theorem Rows.keep {h h' : Heap} {vs : List Value} {k : Value → List PyData} (R : Rows h vs k) (kp : Tups h h') : Rows h' vs k :=
  ⟨fun v hv => by
    obtain ⟨as, r⟩ := R.rd v hv
    exact reads_keep kp _ _ _ (by unfold pureD; exact R.pu v hv) r, R.pu, R.al, R.dp⟩
theorem rows_firsts {h : Heap} : ∀ {vs : List Value} {k : Value → List PyData}, Rows h vs k → ∃ fs, Firsts h vs fs ∧ ∀ f ∈ fs, ∀ g, f = some g → ∃ v ∈ vs, ∃ z r as, k v = z :: r ∧ Reads h g z as
  | [], _, _ => ⟨[], trivial, fun f hf => absurd hf (List.not_mem_nil)⟩
  | v :: vs, k, R => by
    obtain ⟨fs, t, q⟩ := rows_firsts (vs := vs) (k := k) ⟨fun u hu => R.rd u (List.mem_cons_of_mem _ hu), fun u hu => R.pu u (List.mem_cons_of_mem _ hu), fun u hu x hx => R.al u (List.mem_cons_of_mem _ hu) x (List.mem_cons_of_mem _ hx), fun u hu => R.dp u (List.mem_cons_of_mem _ hu)⟩
    obtain ⟨as, r⟩ := R.rd v List.mem_cons_self
    generalize hd : k v = d at r
    cases r with
    | @tuple a o xs n ds as h1 h2 h3 h4 =>
      refine ⟨xs[0]? :: fs, ⟨⟨a, o, xs, n, rfl, h1, h2, h3, rfl⟩, t⟩, fun f hf g e => ?_⟩
      rcases List.mem_cons.mp hf with rfl | hf
      · obtain ⟨xl⟩ := xs
        cases h4 with
        | nil => simp at e
        | @cons v0 vs0 d0 ds0 a0 b0 r1 r2 =>
          have e' : v0 = g := by simpa using e
          subst e'
          exact ⟨.ref a, List.mem_cons_self, _, _, _, hd, r1⟩
      · obtain ⟨u, hu, z⟩ := q f hf g e
        exact ⟨u, List.mem_cons_of_mem _ hu, z⟩
theorem call_tuple_lt {Q : Value → Shared → Prop} {l b : Addr} {items items2 : Array Value} {e r : Nat → Bool} (hl : s.heap.IsTuple l items) (hb : s.heap.IsTuple b items2)
    (he : ∀ j (h1 : j < items.size) (h2 : j < items2.size), EqAt A.in1 s items[j] items2[j] (e j)) (hr : ∀ j (h1 : j < items.size) (h2 : j < items2.size), e j = false → RcLt A.in1 s items[j] items2[j] (r j))
    (h : Q (.bool (firstLt e r (decide (items.size < items2.size)) (List.range (min items.size items2.size)))) s) : wpAny (model prog w) A (call (.builtin "tuple.__lt__") [.ref l, .ref b]) Q E s := by
  obtain ⟨⟨cls, dd, data, sl⟩, ho, hc, n, hd⟩ := id hl
  obtain ⟨⟨cls2, dd2, data2, sl2⟩, ho2, hc2, n2, hd2⟩ := id hb
  simp only at hc hd hc2 hd2
  subst hc hd hc2 hd2
  exact call_meets F.slot_tuple_lt ⟨_, ho, rfl⟩ F.entry_tuple_lt (F.args_tuple_lt_2 _ _) (PySem.SeqAt.tuple_ltAt l b items items2 n n2 dd dd2 sl sl2 e r) ⟨ho, ho2, he, hr, h⟩
theorem one_tup {xs ys : List PyData} {a b : Value} {as bs : List Addr} {Q : Bool → Shared → Prop} (f : Bool) (ra : Reads s.heap a (.tuple xs) as) (rb : Reads s.heap b (.tuple ys) bs) (hal : alikeAll xs ys = true)
    (hu : A.units + min (PyData.tuple xs).depth (PyData.tuple ys).depth < cLine) (hq : Q (PyProof.Rows.lexLt itemOrd (keyToksAll xs) (keyToksAll ys)) s) : wpAny (model prog w) A (oneLt' f a b) Q E s := by
  cases f with
  | false => exact oneLt_alike (fun z => absurd z Bool.false_ne_true) ra rb (by simpa [alike] using hal) (fun z => nomatch z) hu (by rw [dataLt_tuple]; exact hq)
  | true =>
    cases ra with
    | @tuple l o vs n _ as₁ h1 h2 h3 h4 =>
      cases rb with
      | @tuple l' o' vs' n' _ bs₁ k1 k2 k3 k4 =>
        have n1 : vs.size = xs.length := by simpa using ReadsAll.length _ _ _ h4
        have n2 : vs'.size = ys.length := by simpa using ReadsAll.length _ _ _ k4
        rw [← firstLt_toks xs ys hal, ← n1, ← n2] at hq
        rw [oneLt'_eq]
        simp only [if_true]
        refine wpAny_bind (wpAny_cRoomFor (room_here hu) ?_)
        refine wpAny_bind (wpAny_callSpecialIfBound?_slot (T := "tuple") ⟨_, h1, h2⟩ F.slot_tuple_lt (call_tuple_lt (e := pairEq xs ys) (r := fun j => dataLt (xs.getD j .none) (ys.getD j .none)) ⟨_, h1, h2, _, h3⟩ ⟨_, k1, k2, _, k3⟩ (fun j j1 j2 => ?_) (fun j j1 j2 hj => ?_) ?_))
        · have := eqAt_alikeAll xs ys A.in1 s vs.toList vs'.toList _ _ h4 k4 hal (room_in hu) j (by simpa using j1) (by simpa using j2)
          simpa using this
        · have := rcLt_alikeAll xs ys A.in1 s vs.toList vs'.toList _ _ h4 k4 hal (room_in hu) j (by simpa using j1) (by simpa using j2) hj
          simpa using this
        · exact wpAny_truthy_bool hq
theorem dep (xs ys : List PyData) (h : PyData.depthAll xs ≤ 40) : min (PyData.tuple xs).depth (PyData.tuple ys).depth ≤ 41 := by
  have e : (PyData.tuple xs).depth = PyData.depthAll xs + 1 := by first | rfl | simp [PyData.depth]
  omega
theorem cmp_rows {vs : List Value} {k : Value → List PyData} {κ : SortKind} (R : Rows s.heap vs k) (hu : A.units + 64 < cLine) (hk : κ = general' ∨ κ = oneType' ∨ ∃ b, κ = tuples' b ∧ (b = true → ∀ v ∈ vs, ∀ z r t, k v = z :: r → z ≠ .tuple t)) :
    SrtO.Cmp prog w A s κ (fun p => p.1 ∈ vs) (SrtO.lt2 (ltD k)) := by
  intro p q hp hq
  obtain ⟨as, ra⟩ := R.rd _ hp
  obtain ⟨bs, rb⟩ := R.rd _ hq
  have al := R.al _ hp _ hq
  have d := dep (k p.1) (k q.1) (R.dp _ hp)
  rcases hk with rfl | rfl | ⟨b, rfl, hb⟩
  · exact one_tup false ra rb al (by omega) ⟨rfl, rfl⟩
  · exact one_tup true ra rb al (by omega) ⟨rfl, rfl⟩
  · have hf := hb
    generalize hx : k p.1 = xs at ra
    generalize hy : k q.1 = ys at rb
    have dx := R.dp _ hp
    have dl : ltD k p.1 q.1 = PyProof.Rows.lexLt itemOrd (keyToksAll xs) (keyToksAll ys) := by rw [← hx, ← hy]
    rw [hx] at dx al
    rw [hy] at al
    show wpAny (model prog w) A (keyLt' (tuples' b) p.1 q.1) (fun r s' => s' = s ∧ r = ltD k p.1 q.1) (fun _ _ => False) s
    rw [dl]
    have hfp := fun (z : b = true) => hf z p.1 hp
    generalize p.1 = pv at ra hfp hx
    generalize q.1 = qv at rb hy
    cases ra with
    | @tuple l o vs n _ as₁ h1 h2 h3 h4 =>
      cases rb with
      | @tuple l' o' vs' n' _ bs₁ k1 k2 k3 k4 =>
        have n1 : vs.size = xs.length := by simpa using ReadsAll.length _ _ _ h4
        have n2 : vs'.size = ys.length := by simpa using ReadsAll.length _ _ _ k4
        refine kat_lt h1 h3 k1 k3 ?_
        refine katLex_alike xs ys 0 _ _ _ _ h4 k4 al (by omega) (fun z _ x r t e => hfp z x r t (by rw [hx, e])) (by rw [n1, n2]) ⟨rfl, rfl⟩
theorem rows_sortable {a : Addr} {vs : List Value} {k : Value → List PyData} (R : Rows s.heap vs k) (hu : A.units + 64 < cLine) (h0 : 0 < vs.length) (ha : ∀ o, s.heap.get? a = some o → o.cls ≠ .type "tuple") : SrtO.SortableO prog w A s a vs (ltD k) := by
  intro h' keep
  have R' : Rows h' vs k := R.keep fun b o e c => keep b o (fun z => by subst z; exact ha o e c) e
  obtain ⟨fs, t, q⟩ := rows_firsts R'
  cases e : (fs.toArray.all fun x => x.isSome) with
  | false =>
    have hne : ∃ κ, (κ = general' ∨ κ = oneType') ∧ ∀ (Q : SortKind → Shared → Prop) (E : Value → Shared → Prop), Q κ { s with heap := h' } → wpAny (model prog w) A (keyKind' vs.toArray) Q E { s with heap := h' } := by
      by_cases c : (fs.toArray[0]?.bind id).isSome = true
      · refine ⟨general', .inl rfl, fun Q E hq => ?_⟩
        rw [kat_kind_eq, List.mapM_toArray, map_eq_pure_bind]
        refine wpAny_bind (wpAny_bind (firsts_run vs _ t (wpAny_pure ?_)))
        rw [if_neg (by rw [e]; exact Bool.false_ne_true), if_pos c]
        exact wpAny_pure hq
      · refine ⟨oneType', .inr rfl, fun Q E hq => ?_⟩
        rw [kat_kind_eq, List.mapM_toArray, map_eq_pure_bind]
        refine wpAny_bind (wpAny_bind (firsts_run vs _ t (wpAny_pure ?_)))
        rw [if_neg (by rw [e]; exact Bool.false_ne_true), if_neg c]
        rw [oneTypeOnly'_eq, List.mapM_toArray, map_eq_pure_bind]
        refine wpAny_bind (wpAny_bind (wpAny_bind (kas_mapM (r := Value.type "tuple") _ (fun v hv Q' hq => (firsts_typ (s := { s with heap := h' }) t v hv).here hq) (wpAny_pure ?_))))
        obtain ⟨v1, vr, rfl⟩ : ∃ v1 vr, vs = v1 :: vr := by
          match vs, h0 with
          | v1 :: vr, _ => exact ⟨v1, vr, rfl⟩
        have hall : ((List.map (fun _ => Value.type "tuple") (v1 :: vr)).toArray.all fun x => x == Value.type "tuple") = true := by
          simp only [List.all_toArray, List.all_map, List.all_eq_true]
          intro _ _
          exact (by rfl : (Value.type "tuple" == Value.type "tuple") = true)
        have hz : (List.map (fun _ => Value.type "tuple") (v1 :: vr)).toArray[0]? = some (Value.type "tuple") := by simp
        rw [hz]
        simp only [hall, if_true]
        exact wpAny_pure (wpAny_pure hq)
    obtain ⟨κ, hκ, run⟩ := hne
    exact ⟨κ, run, cmp_rows (s := { s with heap := h' }) R' hu (by rcases hκ with z | z; exact .inl z; exact .inr (.inl z))⟩
  | true =>
    obtain ⟨gs, rfl, kt⟩ := kat_of (s := { s with heap := h' }) t e
    have lg : gs.length = vs.length := by
      have l : ∀ {us : List Value} {gs : List Value}, KatTups h' us gs → gs.length = us.length := by
        intro us
        induction us with
        | nil =>
          intro gs t
          cases gs with
          | nil => rfl
          | cons _ _ => exact t.elim
        | cons u us ih =>
          intro gs t
          cases gs with
          | nil => exact t.elim
          | cons g gs => rw [List.length_cons, List.length_cons, ih t.2]
      exact l kt
    obtain ⟨g1, gr, rfl⟩ : ∃ g1 gr, gs = g1 :: gr := by
      match gs, (show 0 < gs.length by omega) with
      | g1 :: gr, _ => exact ⟨g1, gr, rfl⟩
    obtain ⟨v1, hv1, z1, r1, as1, e1, rd1⟩ := q (some g1) (by simp) g1 rfl
    have same : ∀ v ∈ vs, ∀ z r, k v = z :: r → tyD z = tyD z1 := fun v hv z r ez => by
      have a := R.al v hv v1 hv1
      rw [ez, e1] at a
      exact alike_ty (alike_all_cons a).1
    refine ⟨tuples' (Value.type (tyD z1) != Value.type "tuple"), fun Q E hq => ?_, cmp_rows (s := { s with heap := h' }) R' hu (.inr (.inr ⟨_, rfl, fun hb v hv z r t ez c => ?_⟩))⟩
    · refine kat_kind (T := .type (tyD z1)) kt (by simp) (fun f hf => ?_) (by simp) hq
      obtain ⟨v, hv, z, r, as, ez, rz⟩ := q (some f) (List.mem_map.mpr ⟨f, hf, rfl⟩) f rfl
      rw [← same v hv z r ez]
      refine look_ty ?_ rz
      have p := R.pu v hv
      rw [ez] at p
      unfold pureAll at p
      exact (Bool.and_eq_true _ _ ▸ p).1
    · have w := same v hv z r ez
      rw [c] at w
      rw [← w] at hb
      exact absurd hb (show ¬ ((Value.type "tuple" != Value.type "tuple") = true) by decide)
end
/-- x before y, as Python orders these tuples -/
abbrev ltV (k : V → List PyData) (x y : V) : Bool := PyProof.Rows.lexLt itemOrd (keyToksAll (k x)) (keyToksAll (k y))
theorem ltV_swo (k : V → List PyData) : SrtO.Swo (ltV k) := by
  refine ⟨fun x y h => ?_, fun x y z h1 h2 => ?_⟩
  · cases e : ltV k y x with
    | false => rfl
    | true =>
      have z := (listOrd itemOrd).trans _ _ _ h e
      rw [(listOrd itemOrd).irrefl] at z
      cases z
  · cases e : ltV k z x with
    | false => rfl
    | true =>
      rcases (listOrd itemOrd).negTrans _ (keyToksAll (k y)) _ e with q | q
      · rw [show ltV k z y = true from q] at h2
        cases h2
      · rw [show ltV k y x = true from q] at h1
        cases h1
/-- sorted(xs), xs a list of tuples (k tells them) of numbers, texts, tuples of these, any two of them alike: a new list, sorted, equal ones in their order -/
def rSortD (K : PySem.W.Frag) : List V → Hp → VK → Prop := fun vs H Q => ∃ (a : Addr) (xs : List V) (k : V → List PyData), vs = [V.ref a] ∧ SqL K H a xs ∧ (∀ x ∈ xs, (∃ t, x = V.ref t) ∧ Dp K H x (.tuple (k x)) ∧ pureAll (k x) = true ∧ PyData.depthAll (k x) ≤ 40) ∧
  (∀ x ∈ xs, ∀ y ∈ xs, alikeAll (k x) (k y) = true) ∧ ∀ ys p, SrtO.Srtd (ltV k) ys → SrtO.Stb (ltV k) ys xs → H p = none → Q (.ref p) (upd H p (.lst ys))
section
variable {X : Cx}
theorem cr_sortD (hu : X.A.units + 66 < cLine) : CallR X (.builtin "sorted") (rSortD X.K) := by
  intro pins s σ H vs us Q I r h
  obtain ⟨a, xs, k, rfl, hs, hx, al, q⟩ := h
  obtain ⟨its, rv, hl, hz⟩ := I.list hs
  obtain ⟨u, rfl, ru⟩ := vals1 r
  obtain rfl : u = Value.ref a := ru
  obtain ⟨e1, e2⟩ := refs_back rv fun x m => (hx x m).1
  have back : ∀ v ∈ its, backV v ∈ xs := fun v hv => by
    rw [e1]
    exact List.mem_map.mpr ⟨_, hv, rfl⟩
  have R : Rows s.heap its (fun u => k (backV u)) := ⟨fun v hv => by
      obtain ⟨t, rfl⟩ := e2 v hv
      exact Dp.reads I _ (backV (.ref t)) (.ref t) (hx _ (back _ hv)).2.1 rfl, fun v hv => (hx _ (back v hv)).2.2.1, fun v hv u hu => al _ (back v hv) _ (back u hu), fun v hv => (hx _ (back v hv)).2.2.2⟩
  refine SrtO.sorted_ord (ltv := ltD fun u => k (backV u)) (ltD_swo _) hl.isList (by rw [← rv.length]; exact hz) (fun h2 h₁ b hb kk => ?_) fun out h1 h2 => ?_
  · refine rows_sortable (s := { s with heap := h₁ }) (R.keep fun c o e _ => (kk c o e).2) (by show X.A.units + 1 + 1 + 64 < cLine; omega) (by omega) fun o e => ?_
    have e' : some o = some (seqObj "list" its.toArray 0) := e.symm.trans hb
    cases e'
    intro c
    exact absurd (Value.type.inj c) (by decide)
  · have h3 : ∀ u ∈ out, ∃ a, u = Value.ref a := fun u hu => e2 u (h2.perm.mem_iff.mp hu)
    obtain ⟨n, hn⟩ := PyProof.Rows.sortedAll_at s.heap its out.toArray
    have hb : SrtO.Stb (ltV k) (out.map backV) xs := by
      rw [e1]
      exact SrtO.Stb.map (ltV_swo k) backV h2
    refine ⟨.ref (s.heap.objs.size + 1), upd H (s.heap.objs.size + 1) (.lst (out.map backV)), I.laid (t' := s.toks) (fun b o e => PyProof.Rows.sortedAll_old e) (Nat.le_succ _) ⟨?_, out, n, vals_back h3, hn⟩, rfl, q _ _ (SrtO.srtd_map h1) hb (I.hok.fresh (Nat.le_succ _))⟩
    rw [hb.len]
    exact hz
end
end NmD
namespace Nm
open PySem PySem.Spec PyProof.Rows L2 NmD
/-! ### rows of words as data -/
abbrev rowL (ws : List Str) : List PyData := ws.map PyData.str
theorem rowL_nil : rowL [] = [] := rfl
theorem rowL_cons (w : Str) (ws : List Str) : rowL (w :: ws) = PyData.str w :: rowL ws := rfl
abbrev rowD (ws : List Str) : PyData := .tuple (rowL ws)
theorem dpAll_row {K : PySem.W.Frag} {H : Hp} : ∀ ws : List Str, DpAll K H (ws.map V.str) (rowL ws)
  | [] => .nil
  | w :: ws => .cons (.str w) (dpAll_row ws)
theorem dp_row {K : PySem.W.Frag} {H : Hp} {a : Addr} {ws : List Str} (h : H a = some (.tup (ws.map V.str))) : Dp K H (.ref a) (rowD ws) := .tup (SqT.of h) (dpAll_row ws)
theorem eqv_rowL : ∀ a b : List Str, PyData.eqvAll (rowL a) (rowL b) = decide (a = b)
  | [], [] => by simp [PyData.eqvAll]
  | [], _ :: _ => by simp [PyData.eqvAll]
  | _ :: _, [] => by simp [PyData.eqvAll]
  | x :: a, y :: b => by
    have ih := eqv_rowL a b
    rw [rowL_cons, rowL_cons, PyData.eqvAll, ih, PyData.eqv]
    by_cases h : x = y
    · subst h
      simp
    · simp [h]
theorem eqv_row (a b : List Str) : PyData.eqv (rowD a) (rowD b) = decide (a = b) := by rw [PyData.eqv, eqv_rowL]
theorem depth_rowL : ∀ ws : List Str, PyData.depthAll (rowL ws) = 0
  | [] => by simp [PyData.depthAll]
  | w :: ws => by
    rw [rowL_cons, PyData.depthAll, depth_rowL ws, PyData.depth]
    rfl
theorem lay_rowL : ∀ ws : List Str, (∀ z ∈ ws, PyData.canLay0 (.str z) = true) → PyData.canLayAll0 (rowL ws) = true
  | [], _ => by simp [PyData.canLayAll0]
  | w :: ws, h => by
    rw [rowL_cons, PyData.canLayAll0, h w List.mem_cons_self, lay_rowL ws fun z hz => h z (List.mem_cons_of_mem _ hz)]
    rfl
theorem shaped_row {ws : List Str} (h : ∀ z ∈ ws, PyData.canLay0 (.str z) = true) : SeqAt.shaped (rowD ws) = true := by
  unfold SeqAt.shaped
  rw [PyData.canLay0, lay_rowL ws h, PyData.depth, depth_rowL]
  decide
theorem pure_rowL : ∀ ws : List Str, pureAll (rowL ws) = true
  | [] => by simp [pureAll]
  | w :: ws => by
    rw [rowL_cons, pureAll, pure_rowL ws, pureD]
    rfl
theorem alike_rowL : ∀ a b : List Str, PySem.W.alikeAll (rowL a) (rowL b) = true
  | [], [] => by simp [PySem.W.alikeAll]
  | [], _ :: _ => by simp [PySem.W.alikeAll]
  | _ :: _, [] => by simp [PySem.W.alikeAll]
  | x :: a, y :: b => by
    rw [rowL_cons, rowL_cons, PySem.W.alikeAll, alike_rowL a b, PySem.W.alike]
    rfl
abbrev rowLt (a b : List Str) : Bool := PyProof.Rows.lexLt itemOrd (PySem.W.keyToksAll (rowL a)) (PySem.W.keyToksAll (rowL b))
theorem row_pre : ∀ (p a b : List Str), rowLt (p ++ a) (p ++ b) = rowLt a b
  | [], a, b => rfl
  | w :: p, a, b => by
    have ih := row_pre p a b
    unfold rowLt at ih ⊢
    rw [List.cons_append, List.cons_append, rowL_cons, rowL_cons, PySem.W.toks_all_cons, PySem.W.toks_all_cons, lex_self, PySem.W.lex_pre]
    exact ih
/-- a row comes before each that begins with it -/
theorem row_more (a : List Str) (w : Str) : rowLt a (a ++ [w]) = true := by
  have h := row_pre a [] [w]
  rw [List.append_nil] at h
  rw [h]
  unfold rowLt
  rw [rowL_nil, rowL_cons, PySem.W.toks_all_cons]
  simp only [PySem.W.keyToksAll]
  rw [lex_diff (O := itemOrd) (by simp)]
  rfl
/-! ### pieces of tuples -/
theorem sl_last {K : PySem.W.Frag} {H : Hp} {a : Addr} {xs : List V} {Q : VK} (h : H a = some (.tup xs)) (q : ∀ r H', Same H H' → H' r = some (.tup xs.dropLast) → Q (.ref r) H') : rSlA K (.ref a) none (some (-1)) H Q := by
  have s1 : HT.sIx xs.length xs.length (some (-1)) = xs.length - 1 := by
    show (if (-1 : Int) < 0 then ((-1 : Int) + (xs.length : Int)).toNat else min (-1 : Int).toNat xs.length) = xs.length - 1
    rw [if_pos (by decide)]
    omega
  refine ⟨a, xs, rfl, SqT.of h, fun z => ?_, fun z p hp => ?_⟩
  · have e := z.2
    rw [s1] at e
    have : xs = [] := List.eq_nil_of_length_eq_zero (by omega)
    subst this
    exact q a H (Same.refl H) h
  · refine q p _ (same_new hp) ?_
    rw [upd_same]
    unfold cutV
    rw [s1, HT.sIx_none, List.drop_zero, Nat.sub_zero, List.dropLast_eq_take]
theorem sl_take {K : PySem.W.Frag} {H : Hp} {a : Addr} {xs : List V} {k : Nat} {Q : VK} (h : H a = some (.tup xs)) (q : ∀ r H', Same H H' → H' r = some (.tup (xs.take k)) → Q (.ref r) H') : rSlA K (.ref a) none (some (k : Int)) H Q := by
  refine ⟨a, xs, rfl, SqT.of h, fun z => ?_, fun z p hp => ?_⟩
  · have e := z.2
    rw [HT.sIx_nat] at e
    refine q a H (Same.refl H) ?_
    rw [List.take_of_length_le (by omega)]
    exact h
  · refine q p _ (same_new hp) ?_
    rw [upd_same]
    unfold cutV
    rw [HT.sIx_nat, HT.sIx_none, List.drop_zero, Nat.sub_zero]
    by_cases c : k ≤ xs.length
    · rw [Nat.min_eq_left c]
    · rw [Nat.min_eq_right (by omega), List.take_of_length_le (Nat.le_refl _), List.take_of_length_le (by omega)]
theorem cat_tups {K : PySem.W.Frag} {H : Hp} {a b : Addr} {xs ys : List V} {Q : VK} (ha : H a = some (.tup xs)) (hb : H b = some (.tup ys)) (l : xs.length + ys.length ≤ 4000) (q : ∀ r H', Same H H' → H' r = some (.tup (xs ++ ys)) → Q (.ref r) H') : rCatA K (.ref a) (.ref b) H Q := by
  have b4 : (4000 : Nat) ≤ PySem.sizeLine := by decide
  refine ⟨a, b, xs, ys, rfl, rfl, SqT.of ha, SqT.of hb, by omega, fun e => ?_, fun _ e => ?_, fun _ _ p hp => q p _ (same_new hp) upd_same⟩
  · subst e
    exact q b H (Same.refl H) hb
  · subst e
    refine q a H (Same.refl H) ?_
    rw [List.append_nil]
    exact ha
/-! ### pairs of numbers -/
abbrev Pr := Int × Int
abbrev prD (p : Pr) : PyData := .tuple [.int p.1, .int p.2]
abbrev prsD (ps : List Pr) : PyData := .list (ps.map prD)
def PrAt (H : Hp) (x : V) (p : Pr) : Prop := ∃ t, x = .ref t ∧ H t = some (.tup [.int p.1, .int p.2])
theorem PrAt.mono {H H' : Hp} (k : ∀ a xs, H a = some (.tup xs) → H' a = some (.tup xs)) {x : V} {p : Pr} (h : PrAt H x p) : PrAt H' x p := by
  obtain ⟨t, e, h1⟩ := h
  exact ⟨t, e, k _ _ h1⟩
/-- a list of pairs -/
def PrsAt (H : Hp) (a : Addr) (ps : List Pr) : Prop := ∃ xs, H a = some (.lst xs) ∧ Paired (PrAt H) xs ps
theorem PrsAt.same {H H' : Hp} (g : Same H H') {a : Addr} {ps : List Pr} (h : PrsAt H a ps) : PrsAt H' a ps := by
  obtain ⟨xs, h1, h2⟩ := h
  exact ⟨xs, g _ _ h1, paired_mono (fun _ _ => PrAt.mono (same_tups g)) h2⟩
theorem dp_pr {K : PySem.W.Frag} {H : Hp} {x : V} {p : Pr} (h : PrAt H x p) : Dp K H x (prD p) := by
  obtain ⟨t, rfl, h1⟩ := h
  exact .tup (SqT.of h1) (.cons (.int _) (.cons (.int _) .nil))
theorem dp_prsL {K : PySem.W.Frag} {H : Hp} : ∀ {xs : List V} {ps : List Pr}, Paired (PrAt H) xs ps → DpAll K H xs (ps.map prD)
  | _, _, .nil => .nil
  | _, _, .cons h t => .cons (dp_pr h) (dp_prsL t)
theorem dp_prs {K : PySem.W.Frag} {H : Hp} {a : Addr} {ps : List Pr} (h : PrsAt H a ps) : Dp K H (.ref a) (prsD ps) := by
  obtain ⟨xs, h1, h2⟩ := h
  exact .lst (SqL.of h1) (dp_prsL h2)
theorem eqv_pr (p q : Pr) : PyData.eqv (prD p) (prD q) = decide (p = q) := by
  obtain ⟨a, b⟩ := p
  obtain ⟨c, d⟩ := q
  simp only [PyData.eqv, PyData.eqvAll]
  by_cases h1 : a = c <;> by_cases h2 : b = d <;> simp [h1, h2]
theorem eqv_prsL : ∀ ps qs : List Pr, PyData.eqvAll (ps.map prD) (qs.map prD) = decide (ps = qs)
  | [], [] => by simp [PyData.eqvAll]
  | [], _ :: _ => by simp [PyData.eqvAll]
  | _ :: _, [] => by simp [PyData.eqvAll]
  | p :: ps, q :: qs => by
    rw [List.map_cons, List.map_cons, PyData.eqvAll, eqv_prsL ps qs, eqv_pr]
    by_cases h1 : p = q <;> by_cases h2 : ps = qs <;> simp [h1, h2]
theorem eqv_prs (ps qs : List Pr) : PyData.eqv (prsD ps) (prsD qs) = decide (ps = qs) := by rw [PyData.eqv, eqv_prsL]
theorem any_pr (q : Pr) : ∀ ps : List Pr, ((ps.map prD).any fun z => PyData.eqv z (prD q)) = decide (q ∈ ps)
  | [] => by simp
  | p :: ps => by
    rw [List.map_cons, List.any_cons, any_pr q ps, eqv_pr]
    by_cases h : p = q
    · subst h
      simp
    · have h' : ¬ q = p := fun z => h z.symm
      simp [h, h']
theorem shaped_pr (p : Pr) : SeqAt.shaped (prD p) = true := by
  unfold SeqAt.shaped
  simp [PyData.canLay0, PyData.canLayAll0, PyData.depth, PyData.depthAll]
theorem lay_prsL : ∀ ps : List Pr, PyData.canLayAll0 (ps.map prD) = true ∧ PyData.depthAll (ps.map prD) ≤ 1
  | [] => by simp [PyData.canLayAll0, PyData.depthAll]
  | p :: ps => by
    obtain ⟨h1, h2⟩ := lay_prsL ps
    rw [List.map_cons, PyData.canLayAll0, h1, PyData.depthAll]
    refine ⟨by simp [PyData.canLay0, PyData.canLayAll0], ?_⟩
    have e : PyData.depth (prD p) ≤ 1 := by simp [PyData.depth, PyData.depthAll]
    omega
theorem shaped_prs (ps : List Pr) : SeqAt.shaped (prsD ps) = true := by
  unfold SeqAt.shaped
  obtain ⟨h1, h2⟩ := lay_prsL ps
  rw [PyData.canLay0, h1, PyData.depth, Bool.true_and]
  exact decide_eq_true (by omega)
end Nm
namespace Nm
open PySem PySem.Spec PyProof.Rows L2
theorem u65 {k : Nat} {A : Around} (r : Room k A) : A.units + 65 < cLine := by
  have := r.un
  omega
theorem u66 {k : Nat} {A : Around} (r : Room k A) : A.units + 66 < cLine := by
  have := r.un
  omega
/-! ### all pairs i < j with f, row by row -/
def rowUp (f : Nat → Nat → Bool) (i k : Nat) : List Pr := (((List.range k).map fun d => i + 1 + d).filter (f i)).map fun (j : Nat) => ((i : Int), (j : Int))
def pairsUp (f : Nat → Nat → Bool) (n m : Nat) : List Pr := (List.range m).flatMap fun i => rowUp f i (n - (i + 1))
abbrev pairsOf (f : Nat → Nat → Bool) (n : Nat) : List Pr := pairsUp f n n
theorem rowUp_one (f : Nat → Nat → Bool) (i k : Nat) : rowUp f i (k + 1) = rowUp f i k ++ (if f i (i + 1 + k) = true then [((i : Int), ((i + 1 + k : Nat) : Int))] else []) := by
  unfold rowUp
  rw [List.range_succ, List.map_append, List.filter_append, List.map_append]
  congr 1
  by_cases h : f i (i + 1 + k) = true
  · rw [if_pos h, List.map_singleton, List.filter_cons_of_pos h]
    rfl
  · rw [if_neg h, List.map_singleton, List.filter_cons_of_neg h]
    rfl
theorem pairsUp_one (f : Nat → Nat → Bool) (n m : Nat) : pairsUp f n (m + 1) = pairsUp f n m ++ rowUp f m (n - (m + 1)) := by
  unfold pairsUp
  rw [List.range_succ, List.flatMap_append]
  simp
theorem mem_rowUp {f : Nat → Nat → Bool} {i k : Nat} {p : Pr} : p ∈ rowUp f i k ↔ ∃ j : Nat, p = ((i : Int), (j : Int)) ∧ i < j ∧ j < i + 1 + k ∧ f i j = true := by
  unfold rowUp
  rw [List.mem_map]
  constructor
  · rintro ⟨j, hj, rfl⟩
    obtain ⟨h1, h2⟩ := List.mem_filter.mp hj
    obtain ⟨d, hd, rfl⟩ := List.mem_map.mp h1
    have := List.mem_range.mp hd
    exact ⟨_, rfl, by omega, by omega, h2⟩
  · rintro ⟨j, rfl, h1, h2, h3⟩
    exact ⟨j, List.mem_filter.mpr ⟨List.mem_map.mpr ⟨j - (i + 1), List.mem_range.mpr (by omega), by omega⟩, h3⟩, rfl⟩
theorem mem_pairsUp {f : Nat → Nat → Bool} {n m : Nat} {p : Pr} : p ∈ pairsUp f n m ↔ ∃ i j : Nat, p = ((i : Int), (j : Int)) ∧ i < j ∧ j < n ∧ i < m ∧ f i j = true := by
  unfold pairsUp
  rw [List.mem_flatMap]
  constructor
  · rintro ⟨i, hi, hp⟩
    obtain ⟨j, e, h1, h2, h3⟩ := mem_rowUp.mp hp
    exact ⟨i, j, e, h1, by omega, List.mem_range.mp hi, h3⟩
  · rintro ⟨i, j, rfl, h1, h2, h3, h4⟩
    exact ⟨i, List.mem_range.mpr h3, mem_rowUp.mpr ⟨j, rfl, h1, by omega, h4⟩⟩
theorem rowUp_congr {f g : Nat → Nat → Bool} {i k : Nat} (h : ∀ j, i < j → j < i + 1 + k → f i j = g i j) : rowUp f i k = rowUp g i k := by
  unfold rowUp
  congr 1
  refine List.filter_congr fun j hj => ?_
  obtain ⟨d, hd, rfl⟩ := List.mem_map.mp hj
  have := List.mem_range.mp hd
  exact h _ (by omega) (by omega)
theorem flat_congr {α β : Type} {f g : α → List β} : ∀ {l : List α}, (∀ x ∈ l, f x = g x) → l.flatMap f = l.flatMap g
  | [], _ => rfl
  | x :: l, h => by rw [List.flatMap_cons, List.flatMap_cons, h x List.mem_cons_self, flat_congr fun y hy => h y (List.mem_cons_of_mem _ hy)]
theorem pairsOf_congr {f g : Nat → Nat → Bool} {n : Nat} (h : ∀ i j, i < j → j < n → f i j = g i j) : pairsOf f n = pairsOf g n := by
  refine flat_congr fun i hi => rowUp_congr fun j h1 h2 => ?_
  exact h i j h1 (by omega)
theorem filter_rowUp (f : Nat → Nat → Bool) (c : Pr → Bool) (i k : Nat) : (rowUp f i k).filter c = rowUp (fun (i j : Nat) => f i j && c ((i : Int), (j : Int))) i k := by
  unfold rowUp
  rw [List.filter_map, List.filter_filter]
  congr 1
  refine List.filter_congr fun j _ => ?_
  show (c ((i : Int), (j : Int)) && f i j) = (f i j && c ((i : Int), (j : Int)))
  exact Bool.and_comm _ _
theorem filter_flat {α β : Type} (c : β → Bool) (f : α → List β) : ∀ l : List α, (l.flatMap f).filter c = l.flatMap fun x => (f x).filter c
  | [] => rfl
  | x :: l => by rw [List.flatMap_cons, List.flatMap_cons, List.filter_append, filter_flat c f l]
theorem filter_pairsOf (f : Nat → Nat → Bool) (c : Pr → Bool) (n : Nat) : (pairsOf f n).filter c = pairsOf (fun (i j : Nat) => f i j && c ((i : Int), (j : Int))) n := by
  unfold pairsOf pairsUp
  rw [filter_flat]
  exact flat_congr fun i _ => filter_rowUp f c i _
theorem rowUp_none {f : Nat → Nat → Bool} {i k : Nat} (h : ∀ j, i < j → j < i + 1 + k → f i j = false) : rowUp f i k = [] := by
  refine List.eq_nil_iff_forall_not_mem.mpr fun p hp => ?_
  obtain ⟨j, _, h1, h2, h3⟩ := mem_rowUp.mp hp
  rw [h j h1 h2] at h3
  cases h3
theorem rowUp_less {f : Nat → Nat → Bool} {i : Nat} : ∀ {k l : Nat}, l ≤ k → (∀ j, i + 1 + l ≤ j → j < i + 1 + k → f i j = false) → rowUp f i k = rowUp f i l
  | 0, l, h, _ => by
    have : l = 0 := by omega
    subst this
    rfl
  | k + 1, l, h, hf => by
    by_cases e : l = k + 1
    · rw [e]
    · rw [rowUp_one, rowUp_less (k := k) (l := l) (by omega) fun j h1 h2 => hf j h1 (by omega), hf (i + 1 + k) (by omega) (by omega)]
      simp
/-- of a joined hall: the first ones -/
theorem first_pairs (f : Nat → Nat → Bool) (n m : Nat) : (pairsOf f (n + m)).filter (fun p => decide (p.2 < (n : Int))) = pairsOf f n := by
  rw [filter_pairsOf]
  unfold pairsOf pairsUp
  rw [List.range_add, List.flatMap_append]
  have z : (List.map (fun x => n + x) (List.range m)).flatMap (fun i => rowUp (fun (i j : Nat) => f i j && decide (((i : Int), (j : Int)).2 < (n : Int))) i (n + m - (i + 1))) = [] := by
    refine List.eq_nil_iff_forall_not_mem.mpr fun p hp => ?_
    obtain ⟨i, hi, hp⟩ := List.mem_flatMap.mp hp
    obtain ⟨x, _, rfl⟩ := List.mem_map.mp hi
    obtain ⟨j, _, h1, h2, h3⟩ := mem_rowUp.mp hp
    rw [Bool.and_eq_true] at h3
    have := of_decide_eq_true h3.2
    have : (j : Int) < (n : Int) := this
    omega
  rw [z, List.append_nil]
  refine flat_congr fun i hi => ?_
  have hi' := List.mem_range.mp hi
  rw [rowUp_less (k := n + m - (i + 1)) (l := n - (i + 1)) (by omega) fun j h1 h2 => by
    rw [decide_eq_false (show ¬ ((j : Int) < (n : Int)) by omega), Bool.and_false]]
  refine rowUp_congr fun j h1 h2 => ?_
  rw [decide_eq_true (show ((j : Int) < (n : Int)) by omega), Bool.and_true]
/-- of a joined hall: the last ones, numbered anew -/
theorem last_pairs (f g : Nat → Nat → Bool) (n m : Nat) (h : ∀ i j, f (n + i) (n + j) = g i j) : ((pairsOf f (n + m)).filter (fun p => decide ((n : Int) ≤ p.1))).map (fun p => (p.1 - (n : Int), p.2 - (n : Int))) = pairsOf g m := by
  rw [filter_pairsOf]
  unfold pairsOf pairsUp
  rw [List.range_add, List.flatMap_append]
  have z : (List.range n).flatMap (fun i => rowUp (fun (i j : Nat) => f i j && decide ((n : Int) ≤ ((i : Int), (j : Int)).1)) i (n + m - (i + 1))) = [] := by
    refine List.eq_nil_iff_forall_not_mem.mpr fun p hp => ?_
    obtain ⟨i, hi, hp⟩ := List.mem_flatMap.mp hp
    obtain ⟨j, _, h1, h2, h3⟩ := mem_rowUp.mp hp
    rw [Bool.and_eq_true] at h3
    have := of_decide_eq_true h3.2
    have : (n : Int) ≤ (i : Int) := this
    have := List.mem_range.mp hi
    omega
  rw [z, List.nil_append, List.map_flatMap, List.flatMap_map]
  refine flat_congr fun i hi => ?_
  have e : n + m - (n + i + 1) = m - (i + 1) := by omega
  rw [e]
  unfold rowUp
  rw [List.map_map]
  have r : (List.range (m - (i + 1))).map (fun d => n + i + 1 + d) = ((List.range (m - (i + 1))).map (fun d => i + 1 + d)).map (fun j => n + j) := by
    rw [List.map_map]
    refine List.map_congr_left fun d _ => ?_
    show n + i + 1 + d = n + (i + 1 + d)
    omega
  rw [r, List.filter_map, List.map_map]
  have c : List.filter ((fun (j : Nat) => f (n + i) j && decide ((n : Int) ≤ (((n + i : Nat) : Int), (j : Int)).1)) ∘ fun j => n + j) ((List.range (m - (i + 1))).map fun d => i + 1 + d) = List.filter (g i) ((List.range (m - (i + 1))).map fun d => i + 1 + d) := by
    refine List.filter_congr fun j _ => ?_
    show (f (n + i) (n + j) && decide ((n : Int) ≤ ((n + i : Nat) : Int))) = g i j
    rw [decide_eq_true (show (n : Int) ≤ ((n + i : Nat) : Int) by omega), Bool.and_true, h]
  rw [c]
  refine List.map_congr_left fun j _ => ?_
  show ((((n + i : Nat) : Int) - (n : Int)), (((n + j : Nat) : Int) - (n : Int))) = ((i : Int), (j : Int))
  rw [show (((n + i : Nat) : Int) - (n : Int)) = (i : Int) by omega, show (((n + j : Nat) : Int) - (n : Int)) = (j : Int) by omega]
/-! ### boards that are pairs -/
def rowExt (a b : List Str) : Bool := decide (b.dropLast = a) && decide (b.length = a.length + 1)
/-- one longer by a word that the longer one's master has played -/
def extOk (b c : Bd) : Bool := rowExt b.2.2 c.2.2 && !decide ((b.2.2.length : Int) % 2 = c.2.1)
def arePair (b c : Bd) : Bool := decide (b.1 = c.1) && (!decide (b.2.1 = c.2.1) && (decide (b.2.2 = c.2.2) || (extOk b c || extOk c b)))
def areApart (b c : Bd) : Bool := decide (b.1 = c.1) && (!decide (b.2.1 = c.2.1) && (rowExt b.2.2 c.2.2 || rowExt c.2.2 b.2.2))
def onB (f : Bd → Bd → Bool) (bs : List Bd) (i j : Nat) : Bool := match bs[i]?, bs[j]? with
  | some b, some c => f b c
  | _, _ => false
theorem onB_at {f : Bd → Bd → Bool} {bs : List Bd} {i j : Nat} {b c : Bd} (h1 : bs[i]? = some b) (h2 : bs[j]? = some c) : onB f bs i j = f b c := by
  unfold onB
  rw [h1, h2]
def turnB (b : Bd) : Bd := (b.1, 1 - b.2.1, b.2.2)
def sideOk (b : Bd) : Prop := b.2.1 = 0 ∨ b.2.1 = 1
theorem ext_ne {a b : List Str} (h : rowExt a b = true) : ¬ a = b := by
  unfold rowExt at h
  rw [Bool.and_eq_true] at h
  intro e
  subst e
  have := of_decide_eq_true h.2
  omega
theorem ext_one {a b : List Str} (h : rowExt a b = true) : rowExt b a = false := by
  unfold rowExt at h ⊢
  rw [Bool.and_eq_true] at h
  have := of_decide_eq_true h.2
  rw [decide_eq_false (show ¬ (a.length = b.length + 1) by omega), Bool.and_false]
theorem sideB {x : Int} {l : Nat} (h : x = 0 ∨ x = 1) : (decide ((l : Int) % 2 = 1 - x)) = !decide ((l : Int) % 2 = x) := by
  by_cases e : (l : Int) % 2 = x
  · rw [decide_eq_true e, decide_eq_false (show ¬ ((l : Int) % 2 = 1 - x) by omega)]
    rfl
  · rw [decide_eq_false e, decide_eq_true (show ((l : Int) % 2 = 1 - x) by omega)]
    rfl
theorem unlike_turn {b c : Bd} : decide ((turnB b).2.1 = (turnB c).2.1) = decide (b.2.1 = c.2.1) := by
  show decide (1 - b.2.1 = 1 - c.2.1) = decide (b.2.1 = c.2.1)
  by_cases e : b.2.1 = c.2.1
  · rw [decide_eq_true e, decide_eq_true (by omega)]
  · rw [decide_eq_false e, decide_eq_false (by omega)]
/-- turned about: those that begin alike are the same, of those one word apart just the others -/
theorem turn_pair {b c : Bd} (hb : sideOk b) (hc : sideOk c) : (areApart b c = false → arePair (turnB b) (turnB c) = arePair b c) ∧ (areApart b c = true → arePair (turnB b) (turnB c) = !arePair b c) := by
  have ub := unlike_turn (b := b) (c := c)
  have e1 : extOk (turnB b) (turnB c) = (rowExt b.2.2 c.2.2 && decide ((b.2.2.length : Int) % 2 = c.2.1)) := by
    show (rowExt b.2.2 c.2.2 && !decide ((b.2.2.length : Int) % 2 = 1 - c.2.1)) = _
    rw [sideB hc, Bool.not_not]
  have e2 : extOk (turnB c) (turnB b) = (rowExt c.2.2 b.2.2 && decide ((c.2.2.length : Int) % 2 = b.2.1)) := by
    show (rowExt c.2.2 b.2.2 && !decide ((c.2.2.length : Int) % 2 = 1 - b.2.1)) = _
    rw [sideB hb, Bool.not_not]
  unfold arePair areApart
  rw [ub, e1, e2]
  unfold extOk
  show (_ → (decide (b.1 = c.1) && _) = _) ∧ (_ → (decide (b.1 = c.1) && _) = _)
  cases n : decide (b.1 = c.1)
  · simp
  · cases s : decide (b.2.1 = c.2.1)
    · simp only [Bool.true_and, Bool.not_false]
      show (_ → (decide (b.2.2 = c.2.2) || _) = _) ∧ (_ → (decide (b.2.2 = c.2.2) || _) = _)
      cases x : rowExt b.2.2 c.2.2
      · cases y : rowExt c.2.2 b.2.2
        · simp
        · rw [decide_eq_false (fun e => ext_ne y e.symm)]
          simp
      · rw [ext_one x, decide_eq_false (ext_ne x)]
        simp
    · simp
/-! ### boards that are in order -/
def okB (b : Bd) : Prop := boardB b = true ∧ smallBd b
theorem lay_let {z : Str} {m : Int} (h : letB z m = true) : PyData.canLay0 (.str z) = true := by
  unfold letB at h
  rw [Bool.and_eq_true] at h
  have a := List.all_eq_true.mp h.2
  rw [PyData.canLay0]
  show z.cps.all (· < 0x110000) = true
  rw [Array.all_eq_true']
  intro c hc
  have := a c (by simpa using hc)
  rw [Bool.and_eq_true] at this
  have := of_decide_eq_true this.2
  exact decide_eq_true (by omega)
theorem okB.row {b : Bd} (h : okB b) : rowB b.2.2 20 = true := by
  have h1 := h.1
  unfold boardB at h1
  rw [Bool.and_eq_true, Bool.and_eq_true] at h1
  exact h1.2.2
theorem okB.lay {b : Bd} (h : okB b) : ∀ z ∈ b.2.2, PyData.canLay0 (.str z) = true := fun z hz => by
  have r := h.row
  unfold rowB at r
  rw [Bool.and_eq_true] at r
  exact lay_let (List.all_eq_true.mp r.2 z hz)
theorem okB.len {b : Bd} (h : okB b) : b.2.2.length ≤ 20 := by
  have r := h.row
  unfold rowB at r
  rw [Bool.and_eq_true] at r
  have := of_decide_eq_true r.1
  omega
theorem okB.side {b : Bd} (h : okB b) : sideOk b := by
  have h1 := h.1
  unfold boardB at h1
  rw [Bool.and_eq_true, Bool.and_eq_true] at h1
  have h2 : (decide (0 ≤ b.2.1) && decide (b.2.1 ≤ 1)) = true := h1.2.1
  rw [Bool.and_eq_true] at h2
  have a := of_decide_eq_true h2.1
  have c := of_decide_eq_true h2.2
  unfold sideOk
  omega
theorem okB.turn {b : Bd} (h : okB b) : okB (turnB b) := by
  have s := h.side
  have h1 := h.1
  unfold boardB at h1
  rw [Bool.and_eq_true, Bool.and_eq_true] at h1
  refine ⟨?_, h.2⟩
  show (letB b.1 8 && ((decide (0 ≤ 1 - b.2.1) && decide (1 - b.2.1 ≤ 1)) && rowB b.2.2 20)) = true
  unfold sideOk at s
  rw [h1.1, h1.2.2, decide_eq_true (show (0 : Int) ≤ 1 - b.2.1 by omega), decide_eq_true (show (1 : Int) - b.2.1 ≤ 1 by omega)]
  rfl
theorem decS {x y : Str} : decide (V.str x = V.str y) = decide (x = y) := by
  by_cases e : x = y
  · rw [e, decide_eq_true rfl, decide_eq_true rfl]
  · rw [decide_eq_false e, decide_eq_false fun z => e (V.str.inj z)]
theorem decI {x y : Int} : decide (V.int x = V.int y) = decide (x = y) := by
  by_cases e : x = y
  · rw [e, decide_eq_true rfl, decide_eq_true rfl]
  · rw [decide_eq_false e, decide_eq_false fun z => e (V.int.inj z)]
/-- what the program's own look at two boards comes to -/
theorem pair_short {b c : Bd} (n : b.1 = c.1) (s : ¬ b.2.1 = c.2.1) (l : b.2.2.length ≤ c.2.2.length) :
    arePair b c = (decide (b.2.2 = c.2.2) || (decide (c.2.2.dropLast = b.2.2) && !decide ((b.2.2.length : Int) % 2 = c.2.1))) := by
  unfold arePair extOk
  rw [decide_eq_true n, decide_eq_false s, Bool.true_and, Bool.not_false, Bool.true_and]
  by_cases e : b.2.2 = c.2.2
  · rw [decide_eq_true e, Bool.true_or, Bool.true_or]
  · rw [decide_eq_false e, Bool.false_or, Bool.false_or]
    have x2 : rowExt c.2.2 b.2.2 = false := by
      unfold rowExt
      rw [decide_eq_false (show ¬ (b.2.2.length = c.2.2.length + 1) by omega), Bool.and_false]
    have x1 : rowExt b.2.2 c.2.2 = decide (c.2.2.dropLast = b.2.2) := by
      unfold rowExt
      by_cases d : c.2.2.dropLast = b.2.2
      · rw [decide_eq_true d, Bool.true_and]
        refine decide_eq_true ?_
        have ld := congrArg List.length d
        rw [List.length_dropLast] at ld
        by_cases z : c.2.2.length = 0
        · exfalso
          have c0 : c.2.2 = [] := List.eq_nil_of_length_eq_zero z
          rw [c0] at d
          exact e (by rw [c0]; exact d.symm)
        · omega
      · rw [decide_eq_false d, Bool.false_and]
    rw [x1, x2, Bool.false_and, Bool.or_false]
theorem pair_swap (b c : Bd) : arePair b c = arePair c b := by
  unfold arePair
  rw [show decide (b.1 = c.1) = decide (c.1 = b.1) from decide_eq_decide.mpr eq_comm, show decide (b.2.1 = c.2.1) = decide (c.2.1 = b.2.1) from decide_eq_decide.mpr eq_comm, show decide (b.2.2 = c.2.2) = decide (c.2.2 = b.2.2) from decide_eq_decide.mpr eq_comm,
    Bool.or_comm (extOk b c) (extOk c b)]
theorem paired_take {α β : Type} {R : α → β → Prop} : ∀ {xs : List α} {ys : List β}, Paired R xs ys → ∀ n, Paired R (xs.take n) (ys.take n)
  | _, _, .nil, n => by
    rw [List.take_nil, List.take_nil]
    exact .nil
  | _, _, .cons r t, 0 => .nil
  | _, _, .cons r t, n + 1 => .cons r (paired_take t n)
theorem paired_app {α β : Type} {R : α → β → Prop} : ∀ {xs : List α} {ys : List β} {us : List α} {ws : List β}, Paired R xs ys → Paired R us ws → Paired R (xs ++ us) (ys ++ ws)
  | _, _, _, _, .nil, h => h
  | _, _, _, _, .cons r t, h => .cons r (paired_app t h)
theorem putF_len (f : Str) (y : V) : ∀ fs : List (Str × V), (putF f y fs).length ≤ fs.length + 1
  | [] => by simp [putF]
  | (g, z) :: fs => by
    have ih := putF_len f y fs
    unfold putF
    split
    · simp
    · rw [List.length_cons, List.length_cons]
      omega
theorem cutV_take (xs : List V) (k : Nat) : cutV xs none (some (k : Int)) = xs.take k := by
  unfold cutV
  rw [HT.sIx_nat, HT.sIx_none, List.drop_zero, Nat.sub_zero]
  by_cases c : k ≤ xs.length
  · rw [Nat.min_eq_left c]
  · rw [Nat.min_eq_right (by omega), List.take_of_length_le (Nat.le_refl _), List.take_of_length_le (by omega)]
end Nm
namespace Nm
open PySem PySem.Spec PyProof.Rows L2
abbrev sK := PyProof.Rows.strKind
/-- a text before another one -/
abbrev before (a b : Str) : Prop := sK.blt a.cps.toList b.cps.toList = true
theorem lt_blt (a b : Str) : ltCps a.cps.toList b.cps.toList = sK.blt a.cps.toList b.cps.toList := PyProof.Rows.ltCps_eq _ _
theorem before_not {a b : Str} (h : before a b) : ¬ before b a := fun h2 => by
  have z := sK.trans _ _ _ h h2
  rw [sK.irrefl] at z
  cases z
theorem before_tr {a b c : Str} (h : before a b) (h2 : before b c) : before a c := sK.trans a.cps.toList b.cps.toList c.cps.toList h h2
theorem before_tot {a b : Str} (h : ¬ before b a) (n : a ≠ b) : before a b := by
  cases e : sK.blt a.cps.toList b.cps.toList with
  | true => exact e
  | false =>
    have z := sK.total a.cps.toList b.cps.toList e (by
      cases e2 : sK.blt b.cps.toList a.cps.toList with
      | true => exact absurd e2 h
      | false => rfl)
    refine absurd ?_ n
    obtain ⟨⟨x⟩⟩ := a
    obtain ⟨⟨y⟩⟩ := b
    have z' : x = y := z
    rw [z']
/-- two ascending lists of the same texts are one -/
theorem rise_one : ∀ {xs ys : List Str}, xs.Pairwise before → ys.Pairwise before → (∀ z, z ∈ xs ↔ z ∈ ys) → xs = ys
  | [], [], _, _, _ => rfl
  | [], y :: ys, _, _, h => absurd ((h y).mpr List.mem_cons_self) (List.not_mem_nil)
  | x :: xs, [], _, _, h => absurd ((h x).mp List.mem_cons_self) (List.not_mem_nil)
  | x :: xs, y :: ys, p, q, h => by
    obtain ⟨p1, p2⟩ := List.pairwise_cons.mp p
    obtain ⟨q1, q2⟩ := List.pairwise_cons.mp q
    have e : x = y := by
      rcases List.mem_cons.mp ((h x).mp List.mem_cons_self) with e | m
      · exact e
      · rcases List.mem_cons.mp ((h y).mpr List.mem_cons_self) with e | m2
        · exact e.symm
        · exact absurd (p1 y m2) (before_not (q1 x m))
    subst e
    rw [rise_one p2 q2 fun z => ?_]
    have hz := h z
    constructor
    · intro m
      rcases List.mem_cons.mp (hz.mp (List.mem_cons_of_mem _ m)) with rfl | m2
      · exact absurd (p1 z m) (fun w => before_not w w)
      · exact m2
    · intro m
      rcases List.mem_cons.mp (hz.mpr (List.mem_cons_of_mem _ m)) with rfl | m2
      · exact absurd (q1 z m) (fun w => before_not w w)
      · exact m2
theorem rising_pw : ∀ (r : List Str) (p : Str), risingS p r = true → (p :: r).Pairwise fun a b => ¬ before b a
  | [], p, _ => List.pairwise_singleton _ _
  | x :: r, p, h => by
    have h' : (!ltCps x.cps.toList p.cps.toList && risingS x r) = true := h
    rw [Bool.and_eq_true, lt_blt] at h'
    have ih := rising_pw r x h'.2
    have px : ¬ before x p := fun z => by
      have w := h'.1
      rw [show sK.blt x.cps.toList p.cps.toList = true from z] at w
      cases w
    refine List.pairwise_cons.mpr ⟨fun b hb => ?_, ih⟩
    rcases List.mem_cons.mp hb with rfl | hb
    · exact px
    · intro z
      have xb := (List.pairwise_cons.mp ih).1 b hb
      rcases sK.negTrans b.cps.toList x.cps.toList p.cps.toList z with w | w
      · exact xb w
      · exact px w
theorem sorted_pw {xs : List Str} (h : sortedS xs = true) : xs.Pairwise fun a b => ¬ before b a := by
  cases xs with
  | nil => exact List.Pairwise.nil
  | cons x r => exact rising_pw r x h
theorem Names.rise {xs ys : List Str} (h : Names xs ys) : ys.Pairwise before :=
  (List.Pairwise.and (sorted_pw h.up) h.nd).imp fun ⟨a, b⟩ => before_tot a b
/-- each once, as the neighbours tell -/
def onceUp (zs : List Str) : Nat → List Str
  | 0 => []
  | i + 1 => onceUp zs i ++ (if i = 0 ∨ zs.getD i Str.empty ≠ zs.getD (i - 1) Str.empty then [zs.getD i Str.empty] else [])
theorem once_mem {zs : List Str} (h : zs.Pairwise fun a b => ¬ before b a) : ∀ i, i ≤ zs.length → (onceUp zs i).Pairwise before ∧ (∀ z, z ∈ onceUp zs i ↔ z ∈ zs.take i)
  | 0, _ => ⟨List.Pairwise.nil, fun z => by simp [onceUp]⟩
  | i + 1, hi => by
    obtain ⟨p, m⟩ := once_mem h i (by omega)
    have hx : zs[i]? = some (zs.getD i Str.empty) := by
      rw [List.getD_eq_getElem?_getD, List.getElem?_eq_getElem (by omega)]
      rfl
    have tk := take_one hx
    unfold onceUp
    by_cases c : i = 0 ∨ zs.getD i Str.empty ≠ zs.getD (i - 1) Str.empty
    · rw [if_pos c, tk]
      refine ⟨?_, fun z => by rw [List.mem_append, List.mem_append, m z]⟩
      rw [List.pairwise_append]
      refine ⟨p, List.pairwise_singleton _ _, fun u hu v hv => ?_⟩
      rw [List.mem_singleton.mp hv]
      have hu' := (m u).mp hu
      obtain ⟨j, hj⟩ := List.mem_iff_getElem?.mp hu'
      rw [List.getElem?_take] at hj
      by_cases ji : j < i
      rotate_left
      · rw [if_neg ji] at hj
        cases hj
      rw [if_pos ji] at hj
      have pw := List.pairwise_iff_getElem.mp h
      have ej : zs[j]'(by omega) = u := by
        rw [List.getElem?_eq_getElem (by omega)] at hj
        exact Option.some.inj hj
      have ei : zs[i]'(by omega) = zs.getD i Str.empty := by
        rw [List.getElem?_eq_getElem (by omega)] at hx
        exact Option.some.inj hx
      have vu : ¬ before (zs.getD i Str.empty) u := by
        have z := pw j i (by omega) (by omega) ji
        rw [ej, ei] at z
        exact z
      refine before_tot vu fun e => ?_
      have cc : zs.getD i Str.empty ≠ zs.getD (i - 1) Str.empty := c.elim (fun z => by omega) id
      have el : zs[i - 1]'(by omega) = zs.getD (i - 1) Str.empty := by
        rw [List.getD_eq_getElem?_getD, List.getElem?_eq_getElem (by omega)]
        rfl
      by_cases jl : j = i - 1
      · subst jl
        exact cc (by rw [← e, ← ej, el])
      · have z1 := pw j (i - 1) (by omega) (by omega) (by omega)
        have z2 := pw (i - 1) i (by omega) (by omega) (by omega)
        rw [ej, el] at z1
        rw [el, ei] at z2
        have z3 := before_tot z2 (fun q => cc q.symm)
        rw [← e] at z3
        exact z1 z3
    · rw [if_neg c, List.append_nil, tk]
      refine ⟨p, fun z => ?_⟩
      rw [m z, List.mem_append]
      refine ⟨.inl, fun w => w.elim id fun w => ?_⟩
      rw [List.mem_singleton.mp w]
      have e : zs.getD i Str.empty = zs.getD (i - 1) Str.empty := Classical.not_not.mp fun q => c (.inr q)
      have i0 : i ≠ 0 := fun q => c (.inl q)
      rw [e, List.mem_iff_getElem?]
      refine ⟨i - 1, ?_⟩
      rw [List.getElem?_take, if_pos (by omega), List.getD_eq_getElem?_getD, List.getElem?_eq_getElem (by omega)]
      rfl
/-- the names once each are the hall's names -/
theorem once_names {zs ns ys : List Str} (h : sortedS zs = true) (pm : zs.Perm ns) (nm : Names ns ys) : onceUp zs zs.length = ys := by
  obtain ⟨p, m⟩ := once_mem (sorted_pw h) zs.length (Nat.le_refl _)
  refine rise_one p nm.rise fun z => ?_
  rw [m z, List.take_length, pm.mem_iff, nm.mem]
end Nm
namespace Nm
open PySem PySem.Spec PyProof.Rows L2 NmD
/-! ### the order of rows -/
theorem rowToks_inj {a b : List Str} (h : PySem.W.keyToksAll (rowL a) = PySem.W.keyToksAll (rowL b)) : a = b := by
  cases e : PyData.eqvAll (rowL a) (rowL b) with
  | true =>
    rw [eqv_rowL] at e
    exact of_decide_eq_true e
  | false =>
    have k := (PySem.W.toksAll_eqv (rowL a) (rowL b) (alike_rowL a b)).2 e [Sum.inl 0] [Sum.inl 1]
    rw [h, PySem.W.lex_pre, lex_irrefl] at k
    exact absurd k (by decide)
theorem rowLt_irr (a : List Str) : rowLt a a = false := lex_irrefl (O := itemOrd) _
theorem rowLt_tr {a b c : List Str} (h1 : rowLt a b = true) (h2 : rowLt b c = true) : rowLt a c = true := lex_trans (O := itemOrd) _ _ _ h1 h2
theorem rowLt_tot {a b : List Str} (h1 : rowLt a b = false) (h2 : rowLt b a = false) : a = b := rowToks_inj (lex_total (O := itemOrd) _ _ h1 h2)
abbrev bef (a b : List Str) : Prop := rowLt a b = true
theorem bef_not {a b : List Str} (h : bef a b) : ¬ bef b a := fun h2 => by
  have z := rowLt_tr h h2
  rw [rowLt_irr] at z
  cases z
theorem rows_one : ∀ {xs ys : List (List Str)}, xs.Pairwise bef → ys.Pairwise bef → (∀ z, z ∈ xs ↔ z ∈ ys) → xs = ys
  | [], [], _, _, _ => rfl
  | [], y :: ys, _, _, h => absurd ((h y).mpr List.mem_cons_self) (List.not_mem_nil)
  | x :: xs, [], _, _, h => absurd ((h x).mp List.mem_cons_self) (List.not_mem_nil)
  | x :: xs, y :: ys, p, q, h => by
    obtain ⟨p1, p2⟩ := List.pairwise_cons.mp p
    obtain ⟨q1, q2⟩ := List.pairwise_cons.mp q
    have e : x = y := by
      rcases List.mem_cons.mp ((h x).mp List.mem_cons_self) with e | m
      · exact e
      · rcases List.mem_cons.mp ((h y).mpr List.mem_cons_self) with e | m2
        · exact e.symm
        · exact absurd (p1 y m2) (bef_not (q1 x m))
    subst e
    rw [rows_one p2 q2 fun z => ?_]
    have hz := h z
    constructor
    · intro m
      rcases List.mem_cons.mp (hz.mp (List.mem_cons_of_mem _ m)) with rfl | m2
      · exact absurd (p1 z m) (fun w => bef_not w w)
      · exact m2
    · intro m
      rcases List.mem_cons.mp (hz.mpr (List.mem_cons_of_mem _ m)) with rfl | m2
      · exact absurd (q1 z m) (fun w => bef_not w w)
      · exact m2
theorem bef_nodup {xs : List (List Str)} (h : xs.Pairwise bef) : xs.Nodup := h.imp fun {a b} h e => by
  subst e
  exact bef_not h h
theorem srt_bef {xs : List (List Str)} (h : xs.Pairwise fun a b => rowLt b a = false) (n : xs.Nodup) : xs.Pairwise bef := by
  induction xs with
  | nil => exact .nil
  | cons x xs ih =>
    obtain ⟨h1, h2⟩ := List.pairwise_cons.mp h
    obtain ⟨n1, n2⟩ := List.nodup_cons.mp n
    refine List.pairwise_cons.mpr ⟨fun y hy => ?_, ih h2 n2⟩
    cases e : rowLt x y with
    | true => exact e
    | false => exact absurd (rowLt_tot e (h1 y hy)) (fun z => n1 (z ▸ hy))
theorem nil_bef (w : Str) (r : List Str) : bef [] (w :: r) := by
  show rowLt [] (w :: r) = true
  unfold rowLt
  rw [rowL_nil, rowL_cons, PySem.W.toks_all_cons]
  simp only [PySem.W.keyToksAll]
  rw [lex_diff (O := itemOrd) (by simp)]
  rfl
theorem bef_pre {a b : List Str} (h : a <+: b) (n : a ≠ b) : bef a b := by
  obtain ⟨t, rfl⟩ := h
  cases t with
  | nil => exact absurd (List.append_nil a).symm n
  | cons w r =>
    have e := row_pre a [] (w :: r)
    rw [List.append_nil] at e
    show rowLt a (a ++ w :: r) = true
    rw [e]
    exact nil_bef w r
theorem one_lt (a b : Str) : rowLt [a] [b] = true ↔ before a b := by
  have e : rowLt [a] [b] = decide (a.cps.toList < b.cps.toList) := by
    show PyProof.Rows.lexLt itemOrd (PySem.W.keyToksAll (rowL [a])) (PySem.W.keyToksAll (rowL [b])) = _
    by_cases c : a = b
    · subst c
      rw [lex_irrefl]
      exact (decide_eq_false (List.lt_irrefl _)).symm
    · rw [show rowL [a] = [PyData.str a] from rfl, show rowL [b] = [PyData.str b] from rfl, PySem.W.dataLt_all_no (by simp [PySem.W.alike]) (by rw [PyData.eqv]; simp [c]), PySem.W.dataLt_str]
  rw [e]
theorem snoc_lt (r : List Str) (a b : Str) : bef (r ++ [a]) (r ++ [b]) ↔ before a b := by
  show rowLt (r ++ [a]) (r ++ [b]) = true ↔ _
  rw [row_pre]
  exact one_lt a b
/-! ### games -/
/-- a word that is one and that is not too long for the model -/
def wordOk (z : Str) : Prop := letB z 20 = true ∧ z.length ≤ 1000
def rwOk (r : List Str) : Prop := r.length ≤ 60 ∧ ∀ z ∈ r, wordOk z
structure IsG (rs : List (List Str)) : Prop where
  up : rs.Pairwise bef
  nil : [] ∈ rs
  pre : ∀ r ∈ rs, r.dropLast ∈ rs
  ok : ∀ r ∈ rs, rwOk r
  few : rs.length ≤ 600
theorem IsG.take {rs : List (List Str)} (g : IsG rs) {r : List Str} (h : r ∈ rs) (k : Nat) : r.take k ∈ rs := by
  obtain ⟨n, hn⟩ : ∃ n, r.length - k = n := ⟨_, rfl⟩
  induction n generalizing k with
  | zero =>
    rw [List.take_of_length_le (by omega)]
    exact h
  | succ n ih =>
    have m := g.pre _ (ih (k + 1) (by omega))
    rw [List.dropLast_eq_take, List.length_take, List.take_take, show min (min (k + 1) r.length - 1) (k + 1) = k by omega] at m
    exact m
theorem IsG.pfx {rs : List (List Str)} (g : IsG rs) {r a : List Str} (h : r ∈ rs) (p : a <+: r) : a ∈ rs := by
  rw [List.prefix_iff_eq_take.mp p]
  exact g.take h _
def lastW (r : List Str) : Str := r.getLast?.getD Str.empty
theorem lastW_snoc (r : List Str) (w : Str) : lastW (r ++ [w]) = w := by
  unfold lastW
  rw [List.getLast?_append]
  rfl
def isNext (row l : List Str) : Bool := decide (l.length = row.length + 1) && decide (l.dropLast = row)
theorem isNext_iff {row l : List Str} : isNext row l = true ↔ ∃ w, l = row ++ [w] := by
  unfold isNext
  rw [Bool.and_eq_true]
  constructor
  · rintro ⟨h1, h2⟩
    have h1 := of_decide_eq_true h1
    have h2 := of_decide_eq_true h2
    have n : l ≠ [] := fun z => by
      rw [z] at h1
      simp at h1
    exact ⟨l.getLast n, by rw [← h2]; exact (List.dropLast_concat_getLast n).symm⟩
  · rintro ⟨w, rfl⟩
    exact ⟨decide_eq_true (by simp), decide_eq_true (by simp)⟩
/-- the words that are let at a row -/
def wordsAt (rs : List (List Str)) (row : List Str) : List Str := (rs.filter (isNext row)).map lastW
theorem mem_words {rs : List (List Str)} {row : List Str} {w : Str} : w ∈ wordsAt rs row ↔ row ++ [w] ∈ rs := by
  unfold wordsAt
  rw [List.mem_map]
  constructor
  · rintro ⟨l, hl, rfl⟩
    obtain ⟨h1, h2⟩ := List.mem_filter.mp hl
    obtain ⟨w, rfl⟩ := isNext_iff.mp h2
    rw [lastW_snoc]
    exact h1
  · intro h
    exact ⟨_, List.mem_filter.mpr ⟨h, isNext_iff.mpr ⟨w, rfl⟩⟩, lastW_snoc _ _⟩
theorem words_up {rs : List (List Str)} (g : rs.Pairwise bef) (row : List Str) : (wordsAt rs row).Pairwise before := by
  unfold wordsAt
  rw [List.pairwise_map]
  refine List.Pairwise.imp_of_mem ?_ (g.filter (isNext row))
  intro a b ha hb h
  obtain ⟨v, rfl⟩ := isNext_iff.mp (List.mem_filter.mp ha).2
  obtain ⟨w, rfl⟩ := isNext_iff.mp (List.mem_filter.mp hb).2
  rw [lastW_snoc, lastW_snoc]
  exact (snoc_lt row v w).mp h
theorem before_nodup {xs : List Str} (h : xs.Pairwise before) : xs.Nodup := h.imp fun {a b} h e => by
  subst e
  exact before_not h h
/-- what is left behind a row -/
def behindOf (rs : List (List Str)) (row : List Str) : List (List Str) := (rs.filter fun l => decide (l.take row.length = row)).map (List.drop row.length)
theorem mem_behind {rs : List (List Str)} {row x : List Str} : x ∈ behindOf rs row ↔ row ++ x ∈ rs := by
  unfold behindOf
  rw [List.mem_map]
  constructor
  · rintro ⟨l, hl, rfl⟩
    obtain ⟨h1, h2⟩ := List.mem_filter.mp hl
    have h2 : l.take row.length = row := of_decide_eq_true h2
    have e : row ++ l.drop row.length = l := by
      conv => lhs; arg 1; rw [← h2]
      exact List.take_append_drop _ _
    rw [e]
    exact h1
  · intro h
    exact ⟨_, List.mem_filter.mpr ⟨h, decide_eq_true (by simp)⟩, by simp⟩
theorem isG_behind {rs : List (List Str)} (g : IsG rs) {row : List Str} (h : row ∈ rs) : IsG (behindOf rs row) := by
  refine ⟨?_, ?_, fun r hr => ?_, fun r hr => ?_, ?_⟩
  · unfold behindOf
    rw [List.pairwise_map]
    refine List.Pairwise.imp_of_mem ?_ (g.up.filter _)
    intro a b ha hb hab
    have ha' : a.take row.length = row := of_decide_eq_true (List.mem_filter.mp ha).2
    have hb' : b.take row.length = row := of_decide_eq_true (List.mem_filter.mp hb).2
    have ea : a = row ++ a.drop row.length := by
      conv => rhs; arg 1; rw [← ha']
      exact (List.take_append_drop _ _).symm
    have eb : b = row ++ b.drop row.length := by
      conv => rhs; arg 1; rw [← hb']
      exact (List.take_append_drop _ _).symm
    have q : rowLt (row ++ a.drop row.length) (row ++ b.drop row.length) = true := by
      rw [← ea, ← eb]
      exact hab
    rw [row_pre] at q
    exact q
  · rw [mem_behind, List.append_nil]
    exact h
  · rw [mem_behind] at hr ⊢
    cases List.eq_nil_or_concat r with
    | inl e =>
      subst e
      exact hr
    | inr e =>
      obtain ⟨r', w, rfl⟩ := e
      have z := g.pre _ hr
      rw [List.concat_eq_append] at z ⊢
      rw [← List.append_assoc, List.dropLast_concat] at z
      rw [List.dropLast_concat]
      exact z
  · rw [mem_behind] at hr
    obtain ⟨h1, h2⟩ := g.ok _ hr
    rw [List.length_append] at h1
    exact ⟨by omega, fun z hz => h2 z (List.mem_append_right _ hz)⟩
  · unfold behindOf
    rw [List.length_map]
    exact Nat.le_trans (List.length_filter_le _ _) g.few
theorem words_behind {rs : List (List Str)} (g : IsG rs) {row more : List Str} (h : row ∈ rs) : wordsAt (behindOf rs row) more = wordsAt rs (row ++ more) :=
  rise_one (words_up (isG_behind g h).up more) (words_up g.up _) fun z => by rw [mem_words, mem_words, mem_behind, List.append_assoc]
theorem behind_behind {rs : List (List Str)} (g : IsG rs) {row more : List Str} (h : row ∈ rs) (h2 : row ++ more ∈ rs) : behindOf (behindOf rs row) more = behindOf rs (row ++ more) :=
  rows_one (isG_behind (isG_behind g h) (mem_behind.mpr h2)).up (isG_behind g h2).up fun z => by rw [mem_behind, mem_behind, mem_behind, List.append_assoc]
theorem behind_nil {rs : List (List Str)} (g : IsG rs) : behindOf rs [] = rs := rows_one (isG_behind g g.nil).up g.up fun z => by rw [mem_behind, List.nil_append]
/-- the rows that are in both -/
def bothOf (rs qs : List (List Str)) : List (List Str) := rs.filter fun r => decide (r ∈ qs)
theorem mem_both {rs qs : List (List Str)} {r : List Str} : r ∈ bothOf rs qs ↔ r ∈ rs ∧ r ∈ qs := by
  unfold bothOf
  rw [List.mem_filter, decide_eq_true_eq]
theorem isG_both {rs qs : List (List Str)} (g : IsG rs) (k : IsG qs) : IsG (bothOf rs qs) :=
  ⟨g.up.filter _, mem_both.mpr ⟨g.nil, k.nil⟩, fun r hr => mem_both.mpr ⟨g.pre _ (mem_both.mp hr).1, k.pre _ (mem_both.mp hr).2⟩, fun r hr => g.ok _ (mem_both.mp hr).1, Nat.le_trans (List.length_filter_le _ _) g.few⟩
theorem both_swap {rs qs : List (List Str)} (g : IsG rs) (k : IsG qs) : bothOf rs qs = bothOf qs rs := rows_one (isG_both g k).up (isG_both k g).up fun z => by rw [mem_both, mem_both, and_comm]
theorem both_self {rs : List (List Str)} (g : IsG rs) : bothOf rs rs = rs := rows_one (isG_both g g).up g.up fun z => by rw [mem_both, and_self]
/-- the rows and their beginnings -/
structure Begs (rs gs : List (List Str)) : Prop where
  up : gs.Pairwise bef
  mem : ∀ x, x ∈ gs ↔ x = [] ∨ ∃ r ∈ rs, x <+: r
theorem Begs.one {rs gs hs : List (List Str)} (a : Begs rs gs) (b : Begs rs hs) : gs = hs := rows_one a.up b.up fun z => by rw [a.mem, b.mem]
theorem Begs.same {rs qs gs : List (List Str)} (a : Begs rs gs) (h : ∀ z, z ∈ rs ↔ z ∈ qs) : Begs qs gs := ⟨a.up, fun x => by
  rw [a.mem]
  constructor
  · rintro (e | ⟨r, h1, h2⟩)
    · exact .inl e
    · exact .inr ⟨r, (h r).mp h1, h2⟩
  · rintro (e | ⟨r, h1, h2⟩)
    · exact .inl e
    · exact .inr ⟨r, (h r).mpr h1, h2⟩⟩
theorem Begs.isG {rs gs : List (List Str)} (a : Begs rs gs) (ok : ∀ r ∈ rs, rwOk r) (few : gs.length ≤ 600) : IsG gs := by
  refine ⟨a.up, (a.mem _).mpr (.inl rfl), fun r hr => ?_, fun r hr => ?_, few⟩
  · rcases (a.mem r).mp hr with rfl | ⟨q, h1, h2⟩
    · exact hr
    · exact (a.mem _).mpr (.inr ⟨q, h1, (List.dropLast_prefix r).trans h2⟩)
  · rcases (a.mem r).mp hr with rfl | ⟨q, h1, h2⟩
    · exact ⟨Nat.zero_le _, fun z hz => absurd hz (List.not_mem_nil)⟩
    · obtain ⟨k1, k2⟩ := ok q h1
      exact ⟨Nat.le_trans h2.length_le k1, fun z hz => k2 z (h2.subset hz)⟩
theorem begs_game {rs : List (List Str)} (g : IsG rs) : Begs rs rs := ⟨g.up, fun x => ⟨fun h => .inr ⟨x, h, List.prefix_refl _⟩, fun h => by
  rcases h with rfl | ⟨r, h1, h2⟩
  · exact g.nil
  · exact g.pfx h1 h2⟩⟩
/-- at most so many: each row has no more beginnings than words, but for () -/
theorem begs_len {rs gs : List (List Str)} (a : Begs rs gs) : gs.length ≤ 1 + (rs.map List.length).sum := by
  have sub : ∀ (rs : List (List Str)) (gs : List (List Str)), gs.Nodup → (∀ x ∈ gs, x ≠ [] ∧ ∃ r ∈ rs, x <+: r) → gs.length ≤ (rs.map List.length).sum := by
    intro rs
    induction rs with
    | nil =>
      intro gs _ h
      cases gs with
      | nil => exact Nat.le_refl _
      | cons x _ =>
        obtain ⟨_, r, hr, _⟩ := h x List.mem_cons_self
        exact absurd hr (List.not_mem_nil)
    | cons r rs ih =>
      intro gs nd h
      have one : (gs.filter fun x => decide (x <+: r)).length ≤ r.length := by
        have s := List.Nodup.length_le_of_subset (l₂ := (List.range r.length).map fun k => r.take (k + 1)) (List.Pairwise.filter (fun x => decide (x <+: r)) nd) (fun x hx => by
          have px : x <+: r := of_decide_eq_true (List.mem_filter.mp hx).2
          have ne := (h x (List.mem_filter.mp hx).1).1
          have l := px.length_le
          have p : 0 < x.length := List.length_pos_iff.mpr ne
          refine List.mem_map.mpr ⟨x.length - 1, List.mem_range.mpr (by omega), ?_⟩
          rw [show x.length - 1 + 1 = x.length by omega]
          exact (List.prefix_iff_eq_take.mp px).symm)
        rw [List.length_map, List.length_range] at s
        exact s
      have two := ih (gs.filter fun x => !decide (x <+: r)) (List.Pairwise.filter _ nd) fun x hx => by
        obtain ⟨h1, h2⟩ := List.mem_filter.mp hx
        obtain ⟨n, q, hq, p⟩ := h x h1
        rcases List.mem_cons.mp hq with rfl | hq
        · rw [decide_eq_true p] at h2
          cases h2
        · exact ⟨n, q, hq, p⟩
      have all := (List.filter_append_perm (fun x => decide (x <+: r)) gs).length_eq
      rw [List.length_append] at all
      rw [List.map_cons, List.sum_cons]
      omega
  have nd := bef_nodup a.up
  have l2 := sub rs (gs.filter fun x => decide (x ≠ [])) (List.Pairwise.filter _ nd) fun x hx => by
    obtain ⟨h1, h2⟩ := List.mem_filter.mp hx
    have n : x ≠ [] := of_decide_eq_true h2
    rcases (a.mem x).mp h1 with e | z
    · exact absurd e n
    · exact ⟨n, z⟩
  have all := (List.filter_append_perm (fun x => decide (x ≠ [])) gs).length_eq
  rw [List.length_append] at all
  have rest : (gs.filter fun x => !decide (x ≠ [])).length ≤ 1 := by
    exact List.Nodup.length_le_of_subset (l₂ := [[]]) (List.Pairwise.filter (fun x => !decide (x ≠ [])) nd) fun x hx => by
      have h2 := (List.mem_filter.mp hx).2
      have : x = [] := by
        by_cases e : x = []
        · exact e
        · rw [decide_eq_true e] at h2
          cases h2
      rw [this]
      exact List.mem_singleton.mpr rfl
  omega
end Nm
namespace Nm
open PySem PySem.Spec PyProof.Rows L2 NmD PySem.SeqAt
section
variable {X : Cx}
/-! ### x in t, t a tuple of data -/
def rInT (K : PySem.W.Frag) (neg : Bool) : R2 := fun x y H Q => ∃ d ds, Dp K H x d ∧ Dp K H y (.tuple ds) ∧ shaped d = true ∧ shaped (.tuple ds) = true ∧ Q (.bl (xor neg (ds.any fun z => PyData.eqv z d))) H
theorem op_inT (hu : X.A.units + 65 < cLine) : OpR X (compareOp .In) (rInT X.K false) := by
  intro pins s σ H x y v u Q I rx ry ⟨d, ds, d1, d2, s1, s2, q⟩
  obtain ⟨as, r1⟩ := Dp.reads I d x v d1 rx
  obtain ⟨bs, r2⟩ := Dp.reads I (.tuple ds) y u d2 ry
  rw [Bool.false_xor] at q
  exact in_tuple_reads r2 r1 (canLay_of_shaped s2) (canLay_of_shaped s1) (room_in_shaped s1 hu) ⟨.bl _, H, I, rfl, q⟩
theorem op_notInT (hu : X.A.units + 65 < cLine) : OpR X (compareOp .NotIn) (rInT X.K true) := by
  intro pins s σ H x y v u Q I rx ry ⟨d, ds, d1, d2, s1, s2, q⟩
  obtain ⟨as, r1⟩ := Dp.reads I d x v d1 rx
  obtain ⟨bs, r2⟩ := Dp.reads I (.tuple ds) y u d2 ry
  rw [Bool.true_xor] at q
  exact notIn_tuple_reads r2 r1 (canLay_of_shaped s2) (canLay_of_shaped s1) (room_in_shaped s1 hu) ⟨.bl _, H, I, rfl, q⟩
/-! ### t < u of tuples that are alike -/
def rLtDt (K : PySem.W.Frag) : R2 := fun x y H Q => ∃ xs ys, Dp K H x (.tuple xs) ∧ Dp K H y (.tuple ys) ∧ PySem.W.alikeAll xs ys = true ∧ PyData.depthAll xs ≤ 40 ∧ Q (.bl (PyProof.Rows.lexLt itemOrd (PySem.W.keyToksAll xs) (PySem.W.keyToksAll ys))) H
theorem op_ltDt (hu : X.A.units + 65 < cLine) : OpR X (compareOp .Lt) (rLtDt X.K) := by
  intro pins s σ H x y v u Q I rx ry ⟨xs, ys, d1, d2, al, dp, q⟩
  obtain ⟨as, r1⟩ := Dp.reads I (.tuple xs) x v d1 rx
  obtain ⟨bs, r2⟩ := Dp.reads I (.tuple ys) y u d2 ry
  have lim := dep xs ys dp
  refine PySem.W.rcLt_alike (.tuple xs) (.tuple ys) X.A s v u as bs r1 r2 (by simpa [PySem.W.alike] using al) (fun z => nomatch z) (by omega) _ _ _ _ ?_
  rw [PySem.W.dataLt_tuple]
  exact ⟨.bl _, H, I, rfl, q⟩
/-! ### dicts keyed by tuples -/
theorem dset_tk {pins : List (Addr × Obj)} {σ : L2.St} {H : Hp} {s : Shared} {E : Value → Shared → Prop} {D b : Addr} {ents : List (List Key × V)} {k : List Key} {y : V} {r : Value} {Q : Unit → Shared → Prop} (hu : X.A.units + 1 < cLine) (I : Inv X pins σ H s)
    (hD : H D = some (.dT ents)) (hb : H b = some (.tup (k.map kV))) (few : ents.length < sizeLine) (rv : RelV y r) (h : ∀ s', Inv X pins σ (upd H D (.dT (putK ents k y))) s' → Q () s') : wpAny (model X.prog X.w) X.A (dictSet D (.ref b) r) Q E s := by
  obtain ⟨z, low, xs, rel, dd⟩ := dt_of I.hok hD
  have fit : xs.length ≤ sizeLine := (Paired.length rel) ▸ z
  have more := length_putK ents k y
  refine wpAny_dictSet_heap (hsz := fit) (by show X.A.units < cLine; omega) (key_of I.hok hb) dd fun h' nd sb => h _ ?_
  obtain ⟨ob, es, ep, g1, g2, g3, g4, _, g5⟩ := nd
  refine d_write I (by rw [hD]; exact True.intro) sb ⟨ob, g1⟩ ⟨by omega, low, _, (rel.put k hb rv).keeps fun c us ec => ?_, ob, es, ep, g1, g2, g3, g4, g5⟩
  rw [upd_ne (ne_of ec hD (fun z => nomatch z))]
  exact ec
/-- {k: v}, k a tuple -/
def tDisp1 (tk tv : TE) : TE := fun σ H Q => ∀ p, H p = none → tk σ (upd H p (.dT [])) fun x H1 => tv σ H1 fun y H2 => H2 p = some (.dT []) ∧ ∃ (k : List Key) (b : Addr), x = .ref b ∧ H2 b = some (.tup (k.map kV)) ∧ Q (.ref p) (upd H2 p (.dT [(k, y)]))
theorem pe_disp1 {kx vx : Expr} {pos : Pos} {tk tv : TE} (hu : X.A.units + 1 < cLine) (hk : PE X kx tk) (hv : PE X vx tv) : PE X (.Dict [some kx] [vx] pos) (tDisp1 tk tv) := by
  refine ⟨fun pins s σ H Q I q => ?_⟩
  have free := I.hok.fresh (Nat.le_refl s.heap.objs.size)
  have I1 := I.laid (a := s.heap.objs.size) (o := .dT []) (h' := s.heap.push { cls := .type "dict", data := .dict #[] }) (t' := s.toks) (fun _ _ e => Heap.get?_push_of_some _ e) (Nat.le_refl _) (dt_empty s.heap I.big)
  have room : (tupleKind (mixKind X.prog X.w)).room X.A := by show X.A.units < cLine; omega
  rw [arm_eval_Dict, zip_pairTrees [some kx] [vx] X.env pos rfl rfl, dictDisplay_pairs (pairTrees [some kx] [vx] X.env pos) (fun e => by have z := congrArg List.length e; rw [pairTrees_length _ _ _ _ rfl rfl] at z; cases z) (by rw [pairTrees_length _ _ _ _ rfl rfl]; exact (by decide : (1 : Nat) < 17))]
  refine wpAny_bind (wpAny_standAt (wpAny_bind (wpAny_subDictH (knd := tupleKind (mixKind X.prog X.w)) room (by rw [pairTrees_length _ _ _ _ rfl rfl]; exact (by decide : (1 : Nat) ≤ 15)) ?_)))
  refine pairTrees_cons_walk (thn (hk.run pins _ σ _ _ I1 (q _ free)) fun u s1 ⟨x, H1, I2, rx, q1⟩ => thn (hv.run pins s1 σ H1 _ I2 q1) fun w2 s2 ⟨y, H2, I3, ry, q2⟩ => pairTrees_nil_walk ?_)
  obtain ⟨e, k, b, rfl, hb, q3⟩ := q2
  cases (show u = Value.ref b from rx)
  obtain ⟨_, low, xs, rel, dd⟩ := dt_of I3.hok e
  cases rel
  refine ⟨[(k, b, w2)], ⟨rfl, rfl, key_of I3.hok hb, trivial⟩, dd, fun h' tk nd sb => wpAny_pure ⟨.ref s.heap.objs.size, _, ?_, rfl, q3⟩⟩
  obtain ⟨ob, es, ep, g1, g2, g3, g4, _, g5⟩ := nd
  refine d_write I3 (by rw [e]; exact True.intro) sb ⟨ob, g1⟩ ⟨by show 1 ≤ sizeLine; decide, low, _, KT.keeps (H := H2) (Paired.cons ⟨rfl, hb, ry⟩ Paired.nil) fun c us ec => ?_, ob, es, ep, g1, g2, g3, g4, g5⟩
  rw [upd_ne (ne_of ec e (fun z => nomatch z))]
  exact ec
/-! ### {row: v for row in ..} -/
/-- what a dict made by a walk asks, its keys being tuples -/
def tDcT (wi : TI) (g : TG) (tk tv : TE) (vs : List Nat) : TE := fun σ H Q => wi σ H fun J H1 => ∀ D, H1 D = none → ∃ W : Nat → Nat → Hp → Prop,
  (∃ m, W 0 m (upd H1 D (.dT []))) ∧ ∀ i m H, W i m H → (J.stop i H ∧ Q (.ref D) H) ∨ (J.go i H ∧ ∃ Nx : Hp → Prop, (∀ H', Nx H' → ∃ m', m' < m ∧ W (i + 1) m' H') ∧
    ∀ x H', J.yld i H x H' → g x (wipe σ vs) H' fun σ2 H2 => wipe σ2 vs = wipe σ vs ∧ tk σ2 H2 fun y H4 => tv σ2 H4 fun z H5 =>
      ∃ (ents : List (List Key × V)) (k : List Key) (b : Addr), y = .ref b ∧ H5 D = some (.dT ents) ∧ H5 b = some (.tup (k.map kV)) ∧ ents.length < sizeLine ∧ Nx (upd H5 D (.dT (putK ents k z))))
theorem pe_dcT {kx vx tg iter : Expr} {scope : Scope} {own : List (PySem.Str × Nat)} {pos : Pos} {wi : TI} {g : TG} {tk tv : TE} (hc : X.calm = true) (hN : X.N.Nodup) (hu : X.A.units + 1 < cLine) (hi : PI X tg iter wi) (ok : BlkOk X.N X.env.scope scope own)
    (hg : ∀ (s : Shared) (H : Hp) (C : Addr) (cl : List (PySem.Str × Addr)) (fp : List Addr), PG (X.blk s H scope (compEnvC scope cl C X.env) fp) tg g)
    (hk : ∀ (s : Shared) (H : Hp) (C : Addr) (cl : List (PySem.Str × Addr)) (fp : List Addr), PE (X.blk s H scope (compEnvC scope cl C X.env) fp) kx tk)
    (he : ∀ (s : Shared) (H : Hp) (C : Addr) (cl : List (PySem.Str × Addr)) (fp : List Addr), PE (X.blk s H scope (compEnvC scope cl C X.env) fp) vx tv)
    (hs : ∀ x, foldedSetIterable iter X.env x = pure x := by intro _; rfl) : PE X (.DictComp kx vx [⟨tg, iter, [], 0⟩] scope pos) (tDcT wi g tk tv (own.map (·.2))) := by
  refine ⟨fun pins s σ H Q I h => ?_⟩
  rw [arm_eval_DictComp]
  have closed : ∀ y ∈ scope.names, y.2 = .free → ∃ c, X.env.cells.lookup y.1 = some c := fun y hy e => (ok.free y hy e).elim (fun k => I.ok.has _ (.inl k)) fun k => I.ok.has _ (.inr k)
  refine wpAny_comprehension_free (use := none) rfl hs (closure_ok closed) ok.kind (fun y hy e => by rw [ok.uniq y hy, e]) (thn (hi.run pins s σ H _ I h) fun xv s1 hx => thn hx fun itv s2 h2 => ?_)
  obtain ⟨it, fp, tn, J, H2, e, I2, T, st2, f2, q⟩ := h2
  subst e
  refine wpAny_newObj_type (newEnv_comp ?_)
  generalize hD : s2.heap.objs.size = D
  have hDn : H2 D = none := I2.hok.fresh (Nat.le_of_eq hD)
  obtain ⟨W, ⟨m0, w0⟩, turn⟩ := q D hDn
  generalize hs3 : ({ s2 with heap := s2.heap.push { cls := .type "dict", data := .dict #[] } } : Shared) = s3
  have h3 : s3.heap = s2.heap.push { cls := .type "dict", data := .dict #[] } := by rw [← hs3]
  generalize hH3 : upd H2 D (.dT []) = H3 at w0
  have I3 : Inv X pins σ H3 s3 := by
    rw [← hs3, ← hH3]
    refine I2.laid (t' := s2.toks) (fun b o e => Heap.get?_push_of_some _ e) (Nat.le_of_eq hD) ?_
    rw [← hD]
    exact dt_empty s2.heap I2.big
  have below : ∀ b ∈ fp, b < s2.heap.objs.size := fun b hb => by
    obtain ⟨o, e, _⟩ := T.obj _ _ st2 b hb
    exact Heap.lt_size e
  have f3 : ∀ b ∈ fp, FpOk X pins H3 b ∧ b < s3.heap.objs.size := fun b hb => by
    have lt := below b hb
    have ne : b ≠ D := by rw [← hD]; exact Nat.ne_of_lt lt
    refine ⟨⟨?_, (f2 b hb).2⟩, by rw [h3, Heap.size_push]; exact Nat.lt_succ_of_lt lt⟩
    rw [← hH3, upd_ne ne]
    exact (f2 b hb).1
  have st3 : tn 0 s3.heap := T.keep _ _ _ st2 fun b _ o e => by rw [h3]; exact Heap.get?_push_of_some _ e
  have I4 := block_start I3 ok hN f3
  generalize hcl : cellsFrom (s3.heap.objs.size + 1) scope.names (cloFrom X.env.cells scope.names []) = cl at I4
  have pg := hg s3 H3 s3.heap.objs.size cl fp
  have pk := hk s3 H3 s3.heap.objs.size cl fp
  have pe := he s3 H3 s3.heap.objs.size cl fp
  have goal : codeAny (model X.prog X.w) X.A (.compStart (.DictComp kx vx [⟨tg, iter, [], 0⟩] scope pos) 0 (.ref it) (.ref D) (compEnvC scope cl s3.heap.objs.size X.env))
      (compPost (model X.prog X.w) X.A X.xe none (EP X pins σ Q) (.ref D) s3.heap.objs.size) { s3 with heap := pushCells (s3.heap.push { cls := .type "dict", data := .dict #[] }) scope.names } := by
    have free3 : ∀ b ∈ fp, H3 b = none := fun b hb => (f3 b hb).1.1
    generalize hce : compEnvC scope cl s3.heap.objs.size X.env = ce at I4 pg pk pe ⊢
    have locals : ce.locals = s3.heap.objs.size := by subst hce; rfl
    generalize hs4 : ({ s3 with heap := pushCells (s3.heap.push { cls := .type "dict", data := .dict #[] }) scope.names } : Shared) = s4 at I4 ⊢
    have st4 : tn 0 s4.heap := T.keep _ _ _ st3 fun b _ o e => by rw [← hs4]; exact pushCells_keeps _ _ _ _ (Heap.get?_push_of_some _ e)
    have stat : ∀ {σ' : L2.St} {H' : Hp} {s' : Shared}, Inv (X.blk s3 H3 scope ce fp) [] σ' H' s' → (∀ b ∈ fp, H' b = none) → ∀ b ∈ fp, FpOk (X.blk s3 H3 scope ce fp) [] H' b := fun {σ' H' s'} I' hn b hb =>
      ⟨hn b hb, (I'.ok.exf b hb).1, I'.ok.exfs b hb, .inl hb, fun x c e => (I'.ok.exf b hb).2 x c e, fun p hp => absurd (show p ∈ ([] : List (Addr × Obj)) ++ [] from hp) (by simp)⟩
    have loop : codeAny (model X.prog X.w) X.A (.compLoop (.DictComp kx vx [⟨tg, iter, [], 0⟩] scope pos) 0 (.ref it) (.ref D) ce) (compPost (model X.prog X.w) X.A X.xe none (EP X pins σ Q) (.ref D) s3.heap.objs.size) s4 := by
      refine compLoop_anyD (fun n s' => ∃ i H', Inv (X.blk s3 H3 scope ce fp) [] (wipe σ (own.map (·.2))) H' s' ∧ tn i s'.heap ∧ (∀ b ∈ fp, H' b = none) ∧ W i n H') ?_ m0 ⟨0, H3, I4, st4, free3, w0⟩
      rintro n s5 ⟨i, H5, I5, st5, n5, w5⟩
      rcases turn i n H5 w5 with ⟨stop, qq⟩ | ⟨go, Nx, hNx, step⟩
      · refine thnF (T.done (X.blk s3 H3 scope ce fp) rfl rfl rfl hc i [] s5 _ H5 (fun _ _ => False) I5 (stat I5 n5) st5 stop) fun r s6 ⟨hr, I6⟩ => ?_
        subst hr
        have I7 : Inv X pins σ H5 s6 := I3.call' (ch := fp) I6.os I6.base I6.hok I6.bare fun b hb => by
          have z := (f3 b hb).1
          exact ⟨z.2.2.2.1, z.2.1, z.2.2.2.2.1, z.2.2.2.2.2⟩
        have nC : H5 s3.heap.objs.size = none := by
          rw [← locals]
          exact I6.free
        obtain ⟨m, hn, _⟩ := I6.loc
        have hn' : s6.heap.Ns s3.heap.objs.size m := by
          rw [← locals]
          exact hn
        refine ⟨m, hn', fun h'' sb => ?_⟩
        obtain ⟨z0, z1, z2, z3, z4, z5⟩ := I3.fpOk (Nat.le_refl _) nC
        exact ⟨.ref D, H5, I7.turned (t' := s6.toks) (fun b o hb e => (sb.2 b hb).trans e) z0 z1 z3 z4 z5, rfl, qq⟩
      · refine thnF (T.item (X.blk s3 H3 scope ce fp) rfl rfl rfl hc i [] s5 _ H5 (fun _ _ => False) I5 (stat I5 n5) st5 go) fun r s6 ⟨u, hr, h6⟩ => ?_
        subst hr
        refine thnF h6 fun _ s7 ⟨x, H7, I7, r7, y7, st7, n7⟩ => ?_
        have I7' := I7.pinned (stat I7 n7) (T.obj _ _ st7)
        refine thnF (pg.run _ s7 _ H7 x u _ I7' r7 (step x H7 y7)) fun _ s8 ⟨σ8, H8, I8, hw8, q8⟩ => ?_
        refine wpAny_pure ?_
        rw [if_pos rfl]
        refine thnF (pk.run _ s8 σ8 H8 _ I8 q8) fun z s10 ⟨yv, H10, I10, r10, q10⟩ => ?_
        refine thnF (pe.run _ s10 σ8 H10 _ I10 q10) fun z2 s11 ⟨zv, H11, I11, r11, ents, k, b, ey, hD11, hb11, room, nx⟩ => ?_
        subst ey
        cases (show z = Value.ref b from r10)
        refine dset_tk (X := X.blk s3 H3 scope ce fp) hu I11 hD11 hb11 room r11 fun s12 I12 => ?_
        obtain ⟨m', hm, w'⟩ := hNx _ nx
        have pin' : ∀ c ∈ fp, ∀ o, s7.heap.get? c = some o → s12.heap.get? c = some o ∧ upd H11 D (.dT (putK ents k zv)) c = none := fun c hc' o e =>
          let z := I12.pin (c, o) (List.mem_append_right _ (List.mem_append_right _ (mem_pinsAt hc' e)))
          ⟨z.1, z.2.1⟩
        have len : (wipe σ (own.map (·.2))).length = σ8.length := by rw [← hw8, wipe_length]
        refine ⟨m', hm, i + 1, _, (I12.unpinned (pins := [])).weak len (fun j v e => ?_), T.keep _ _ _ st7 fun c hc' o e => (pin' c hc' o e).1, fun c hc' => ?_, w'⟩
        · rw [← hw8] at e
          exact (wipe_some e).1
        · obtain ⟨o, e, _⟩ := T.obj _ _ st7 c hc'
          exact (pin' c hc' o e).2
    exact codeAny_compStart_dict loop (T.self X.A 0 _ _ _ st4 loop)
  exact goal
/-- the same over a tuple that stands still -/
theorem dcT_tup {K : PySem.W.Frag} {a : Addr} {xs : List V} {g : TG} {tk tv : TE} {vs : List Nat} {σ : L2.St} {H1 : Hp} {D : Addr} {Qd : Hp → Prop} (Pv : Nat → Hp → Prop) (h0 : Pv 0 (upd H1 D (.dT [])))
    (hl : ∀ i H, i ≤ xs.length → Pv i H → SqT K H a xs)
    (hs : ∀ i x H, xs[i]? = some x → Pv i H → g x (wipe σ vs) H fun σ2 H2 => wipe σ2 vs = wipe σ vs ∧ tk σ2 H2 fun y H4 => tv σ2 H4 fun z H5 =>
      ∃ (ents : List (List Key × V)) (k : List Key) (b : Addr), y = .ref b ∧ H5 D = some (.dT ents) ∧ H5 b = some (.tup (k.map kV)) ∧ ents.length < sizeLine ∧ Pv (i + 1) (upd H5 D (.dT (putK ents k z)))) (hd : ∀ H, Pv xs.length H → Qd H) :
    ∃ W : Nat → Nat → Hp → Prop, (∃ m, W 0 m (upd H1 D (.dT []))) ∧ ∀ i m H, W i m H → ((Itt K a).stop i H ∧ Qd H) ∨ ((Itt K a).go i H ∧ ∃ Nx : Hp → Prop, (∀ H', Nx H' → ∃ m', m' < m ∧ W (i + 1) m' H') ∧
      ∀ x H', (Itt K a).yld i H x H' → g x (wipe σ vs) H' fun σ2 H2 => wipe σ2 vs = wipe σ vs ∧ tk σ2 H2 fun y H4 => tv σ2 H4 fun z H5 =>
        ∃ (ents : List (List Key × V)) (k : List Key) (b : Addr), y = .ref b ∧ H5 D = some (.dT ents) ∧ H5 b = some (.tup (k.map kV)) ∧ ents.length < sizeLine ∧ Nx (upd H5 D (.dT (putK ents k z)))) := by
  refine ⟨fun i m H => m = xs.length - i ∧ i ≤ xs.length ∧ Pv i H, ⟨xs.length, by simp, Nat.zero_le _, h0⟩, ?_⟩
  rintro i m H ⟨rfl, hi, p⟩
  have q := hl i H hi p
  rcases Nat.lt_or_ge i xs.length with lt | ge
  · refine .inr ⟨⟨xs, xs[i], q, by simp [lt]⟩, Pv (i + 1), fun H' p' => ⟨xs.length - (i + 1), by omega, rfl, lt, p'⟩, fun x H' y => ?_⟩
    obtain ⟨e, y⟩ := y
    subst e
    exact hs i x _ (y xs q) p
  · have e : i = xs.length := by omega
    subst e
    exact .inl ⟨⟨xs, q, Nat.le_refl _⟩, hd H p⟩
/-! ### sorted(d), the keys being rows of texts -/
def keyRow (ws : List Str) : List Key := ws.map Sum.inr
theorem kV_row (ws : List Str) : (keyRow ws).map kV = ws.map V.str := by
  unfold keyRow
  rw [List.map_map]
  rfl
/-- what stands at a tuple's address -/
def tupOf (H : Hp) (x : V) : List V := match x with
  | .ref a => match H a with | some (.tup xs) => xs | _ => []
  | _ => []
def strOf : V → Str
  | .str z => z
  | _ => Str.empty
/-- the row of texts that is told by a value -/
def rowOf (H : Hp) (x : V) : List Str := (tupOf H x).map strOf
theorem rowOf_at {H : Hp} {a : Addr} {ws : List Str} (h : H a = some (.tup (ws.map V.str))) : rowOf H (.ref a) = ws := by
  unfold rowOf tupOf
  simp only [h]
  rw [List.map_map]
  exact List.map_id' ws
def rSortKD : List V → Hp → VK → Prop := fun vs H Q => ∃ (d : Addr) (rs : List (List Str)) (ents : List (List Key × V)), vs = [V.ref d] ∧ H d = some (.dT ents) ∧ ents.map (·.1) = rs.map keyRow ∧
  ∀ (bs ys : List V) (p : Addr), Paired (fun (b : V) (ws : List Str) => ∃ a, b = V.ref a ∧ H a = some (.tup (ws.map V.str))) bs rs →
    SrtO.Srtd (ltV fun x => rowL (rowOf H x)) ys → SrtO.Stb (ltV fun x => rowL (rowOf H x)) ys bs → H p = none → Q (.ref p) (upd H p (.lst ys))
theorem keys_rows {H : Hp} : ∀ {ents : List (List Key × V)} {xs : List (List Key × Addr × Value)} {rs : List (List Str)}, KT H ents xs → ents.map (·.1) = rs.map keyRow →
    Paired (fun (b : V) (ws : List Str) => ∃ a, b = V.ref a ∧ H a = some (.tup (ws.map V.str))) (xs.map fun x => V.ref x.2.1) rs
  | _, _, [], r, e => by
    cases r with
    | nil => exact .nil
    | cons _ _ => cases e
  | _, _, ws :: rs, r, e => by
    cases r with
    | nil => cases e
    | cons h t =>
      rw [List.map_cons, List.map_cons] at e
      injection e with e1 e2
      obtain ⟨_, h2, _⟩ := h
      rw [e1, kV_row] at h2
      exact .cons ⟨_, rfl, h2⟩ (keys_rows t e2)
theorem ref_vals : ∀ as : List Addr, Vals (as.map V.ref) (as.map Value.ref)
  | [] => .nil
  | _ :: as => .cons rfl (ref_vals as)
theorem cr_sortKD (hc : X.calm = true) (hu : X.A.units + 66 < cLine) : CallR X (.builtin "sorted") rSortKD := by
  intro pins s σ H vs us Q I r ⟨d, rs, ents, e0, hd, hk, q⟩
  subst e0
  rw [Vals.ref1 r]
  obtain ⟨zf, low, xs, pr, o, es, ep, ho, hx, hdt, he, _, _⟩ := dt_of I.hok hd
  have l1 : es.size = xs.length := size_of_entries he
  have l2 : ents.length = xs.length := Paired.length pr
  refine Calls.call_function_entry kind_sorted plain_sorted entry_sorted (args_sorted1 _) ?_
  unfold Builtin.«sorted»
  refine wpAny_bind (m := checkCount "sorted" 1 1 _) (wpAny_pure ?_)
  refine wpAny_bind (PySem.W.kdu_collect (A := X.A.in1) (kdl_raw low hx hdt) (I.ok.hd hc) ho (by omega) fun h' tk acc kp it => ?_)
  have ea : acc.toList = (xs.map fun x => x.2.1).map Value.ref := by
    have len : acc.toList.length = xs.length := by rw [Array.length_toList, it.1]; exact l1
    apply List.ext_getElem?
    intro j
    rw [List.getElem?_map, List.getElem?_map]
    cases hj : acc.toList[j]? with
    | none =>
      have := List.getElem?_eq_none_iff.mp hj
      rw [List.getElem?_eq_none (by omega)]
      rfl
    | some v =>
      obtain ⟨en, hen, hv⟩ := it.2 j v (by rw [← Array.getElem?_toList]; exact hj)
      have w := entry_at he j
      rw [hen] at w
      cases hb : xs[j]? with
      | none =>
        rw [hb] at w
        cases w
      | some b =>
        rw [hb] at w
        have e2 : en = entryOfKey (tupleKind (mixKind X.prog X.w)) b := Option.some.inj w
        rw [hv, e2]
        rfl
  have I1 : Inv X pins σ H { s with heap := h', toks := tk } := I.kept kp
  have hz : acc.toList.length ≤ sizeLine := by rw [ea, List.length_map, List.length_map]; omega
  refine wpAny_bind (wpAny_newList ?_ hz)
  have pb := keys_rows pr hk
  have gb : ∀ v ∈ acc.toList, ∃ (a : Addr) (ws : List Str), v = Value.ref a ∧ H a = some (.tup (ws.map V.str)) := fun v hv => by
    rw [ea] at hv
    obtain ⟨a, ha, rfl⟩ := List.mem_map.mp hv
    have ha' : V.ref a ∈ xs.map fun x => V.ref x.2.1 := by
      obtain ⟨x, hx1, hx2⟩ := List.mem_map.mp ha
      exact List.mem_map.mpr ⟨x, hx1, by rw [hx2]⟩
    obtain ⟨i, hi⟩ := List.mem_iff_getElem?.mp ha'
    obtain ⟨ws, _, a', e, h2⟩ := paired_at pb i _ hi
    cases e
    exact ⟨a, ws, rfl, h2⟩
  have R : NmD.Rows h' acc.toList (fun u => rowL (rowOf H (backV u))) := by
    refine ⟨fun v hv => ?_, fun v hv => pure_rowL _, fun v hv u hu => alike_rowL _ _, fun v hv => by rw [depth_rowL]; decide⟩
    obtain ⟨a, ws, rfl, ha⟩ := gb v hv
    show ∃ as, Reads h' (.ref a) (.tuple (rowL (rowOf H (.ref a)))) as
    rw [rowOf_at ha]
    exact Dp.reads I1 _ (.ref a) (.ref a) (dp_row ha) rfl
  have hoL : (h'.push (seqObj "list" acc.toList.toArray 0)).get? h'.objs.size = some (seqObj "list" acc.toList.toArray 0) := Heap.get?_push_size _ rfl
  show wpAny _ _ _ _ _ { s with heap := h'.push (seqObj "list" acc.toList.toArray 0), toks := tk }
  refine wpAny_bind (wpAny_holding (wpAny_call_entry slot_list_sort ⟨_, hoL, rfl⟩ entry_list_sort
    (SrtO.list_sort_ord (s := { s with heap := h'.push (seqObj "list" acc.toList.toArray 0), toks := tk }) (NmD.ltD_swo fun u => rowL (rowOf H (backV u))) hoL hz
      (fun two => NmD.rows_sortable (s := { s with heap := h'.push (seqObj "list" acc.toList.toArray 0), toks := tk }) (R.keep fun b ob e _ => Heap.get?_push_of_some _ e) (by show X.A.units + 1 + 1 + 64 < cLine; omega) (by omega) fun ob e => ?_)
      fun out h1 h2 => ⟨_, rfl, ?_⟩) (args_list_sort _)))
  · have e' : some ob = some (seqObj "list" acc.toList.toArray 0) := e.symm.trans hoL
    cases e'
    intro c
    exact absurd (Value.type.inj c) (by decide)
  · obtain ⟨n, hn⟩ := sortedHeap_at (vs := acc.toList) (out := out.toArray) hoL
    have allRef : ∀ u ∈ out, ∃ a, u = Value.ref a := fun u hu => by
      obtain ⟨a, _, e, _⟩ := gb u (h2.perm.mem_iff.mp hu)
      exact ⟨a, e⟩
    have eb : acc.toList.map backV = xs.map fun x => V.ref x.2.1 := by
      rw [ea, List.map_map, List.map_map]
      rfl
    have hb : SrtO.Stb (ltV fun x => rowL (rowOf H x)) (out.map backV) (xs.map fun x => V.ref x.2.1) := by
      rw [← eb]
      exact SrtO.Stb.map (ltV_swo _) backV h2
    have fit : (out.map backV).length ≤ sizeLine := by rw [hb.len, List.length_map]; omega
    refine wpAny_pure ⟨_, rfl, .ref h'.objs.size, upd H h'.objs.size (.lst (out.map backV)), I1.laid (t' := tk) (fun b u e => ?_) (Nat.le_refl _) ⟨fit, out, n, vals_back allRef, hn⟩, rfl, q _ _ _ pb (SrtO.srtd_map h1) hb (I1.hok.fresh (Nat.le_refl _))⟩
    have lt := Heap.lt_size e
    rw [sortedHeap_old (Nat.ne_of_lt lt) (by rw [size_push']; exact Nat.lt_succ_of_lt lt)]
    exact Heap.get?_push_of_some _ e
end
end Nm
namespace Nm
open PySem PySem.Spec PyProof.Rows L2 NmD
/-- all tuples stand -/
def Tups (H H' : Hp) : Prop := ∀ a xs, H a = some (.tup xs) → H' a = some (.tup xs)
theorem Tups.refl (H : Hp) : Tups H H := fun _ _ h => h
theorem Tups.trans {H H1 H2 : Hp} (a : Tups H H1) (b : Tups H1 H2) : Tups H H2 := fun c o h => b c o (a c o h)
theorem tups_same {H H' : Hp} (g : Same H H') : Tups H H' := fun a xs h => g a _ h
theorem tups_lst {H : Hp} {D : Addr} {us vs : List V} (h : H D = some (.lst us)) : Tups H (upd H D (.lst vs)) := fun a xs e => by
  rw [upd_ne (fun z => by rw [z, h] at e; cases e)]
  exact e
theorem tups_dT {H : Hp} {D : Addr} {us vs : List (List Key × V)} (h : H D = some (.dT us)) : Tups H (upd H D (.dT vs)) := fun a xs e => by
  rw [upd_ne (fun z => by rw [z, h] at e; cases e)]
  exact e
/-- a tuple of things that are told by β -/
def TupOf {β : Type} (R : Hp → V → β → Prop) (H : Hp) (a : Addr) (bs : List β) : Prop := ∃ xs, H a = some (.tup xs) ∧ Paired (R H) xs bs
def LstOf {β : Type} (R : Hp → V → β → Prop) (H : Hp) (a : Addr) (bs : List β) : Prop := ∃ xs, H a = some (.lst xs) ∧ Paired (R H) xs bs
/-- what is told stays as long as tuples do -/
def Stays {β : Type} (R : Hp → V → β → Prop) : Prop := ∀ H H' x b, Tups H H' → R H x b → R H' x b
theorem TupOf.keep {β : Type} {R : Hp → V → β → Prop} (st : Stays R) {H H' : Hp} (t : Tups H H') {a : Addr} {bs : List β} (h : TupOf R H a bs) : TupOf R H' a bs := by
  obtain ⟨xs, h1, h2⟩ := h
  exact ⟨xs, t _ _ h1, paired_mono (fun _ _ => st _ _ _ _ t) h2⟩
theorem stays_tup {β : Type} {R : Hp → V → β → Prop} (st : Stays R) : Stays (fun H x (bs : List β) => ∃ a, x = V.ref a ∧ TupOf R H a bs) := fun H H' x bs t ⟨a, e, h⟩ => ⟨a, e, h.keep st t⟩
theorem LstOf.same {β : Type} {R : Hp → V → β → Prop} (st : Stays R) {H H' : Hp} (g : Same H H') {a : Addr} {bs : List β} (h : LstOf R H a bs) : LstOf R H' a bs := by
  obtain ⟨xs, h1, h2⟩ := h
  exact ⟨xs, g _ _ h1, paired_mono (fun _ _ => st _ _ _ _ (tups_same g)) h2⟩
/-- a word -/
def StrV (_ : Hp) (x : V) (z : Str) : Prop := x = .str z
theorem stays_str : Stays StrV := fun _ _ _ _ _ h => h
theorem strs_vs {H : Hp} : ∀ {xs : List V} {zs : List Str}, Paired (StrV H) xs zs → xs = zs.map V.str
  | _, _, .nil => rfl
  | _, _, .cons h t => by
    rw [show _ = V.str _ from h, strs_vs t]
    rfl
theorem strs_pv {H : Hp} : ∀ zs : List Str, Paired (StrV H) (zs.map V.str) zs
  | [] => .nil
  | _ :: zs => .cons rfl (strs_pv zs)
def BlV (_ : Hp) (x : V) (b : Bool) : Prop := x = .bl b
theorem stays_bl : Stays BlV := fun _ _ _ _ _ h => h
theorem bls_vs {H : Hp} : ∀ {xs : List V} {bs : List Bool}, Paired (BlV H) xs bs → xs = bs.map V.bl
  | _, _, .nil => rfl
  | _, _, .cons h t => by
    rw [show _ = V.bl _ from h, bls_vs t]
    rfl
def IntV (_ : Hp) (x : V) (n : Int) : Prop := x = .int n
theorem stays_int : Stays IntV := fun _ _ _ _ _ h => h
theorem ints_vs {H : Hp} : ∀ {xs : List V} {ns : List Int}, Paired (IntV H) xs ns → xs = ns.map V.int
  | _, _, .nil => rfl
  | _, _, .cons h t => by
    rw [show _ = V.int _ from h, ints_vs t]
    rfl
/-- a row -/
def RwAt (H : Hp) (x : V) (ws : List Str) : Prop := ∃ r, x = .ref r ∧ H r = some (.tup (ws.map V.str))
theorem stays_rw : Stays RwAt := fun _ _ _ _ t ⟨r, e, h⟩ => ⟨r, e, t _ _ h⟩
abbrev GmAt := TupOf RwAt
abbrev GlAt := LstOf RwAt
theorem GmAt.keep {H H' : Hp} (t : Tups H H') {a : Addr} {rs : List (List Str)} (h : GmAt H a rs) : GmAt H' a rs := TupOf.keep stays_rw t h
theorem paired_fmap {α β γ : Type} {R : α → β → Prop} (f : β → Bool) (g : β → γ) (l : List β) (i : Nat) (b : β) (h : l[i]? = some b) : ((l.take (i + 1)).filter f).map g = ((l.take i).filter f).map g ++ (if f b = true then [g b] else []) := by
  rw [take_one h, List.filter_append, List.map_append]
  by_cases c : f b = true
  · rw [if_pos c, List.filter_cons_of_pos c]
    rfl
  · rw [if_neg c, List.filter_cons_of_neg c]
    rfl
theorem fmap_one {β γ : Type} (f : β → Bool) (g : β → γ) (l : List β) (i : Nat) (b : β) (h : l[i]? = some b) : ((l.take (i + 1)).filter f).map g = ((l.take i).filter f).map g ++ (if f b = true then [g b] else []) := by
  rw [take_one h, List.filter_append, List.map_append]
  by_cases c : f b = true
  · rw [if_pos c, List.filter_cons_of_pos c]
    rfl
  · rw [if_neg c, List.filter_cons_of_neg c]
    rfl
theorem fmap_len {β γ : Type} (f : β → Bool) (g : β → γ) (l : List β) (i : Nat) : (((l.take i).filter f).map g).length ≤ l.length := by
  rw [List.length_map]
  exact Nat.le_trans (List.length_filter_le _ _) (by rw [List.length_take]; exact Nat.min_le_right _ _)
/-- a comprehension that only reads: over n items bs, those with f, each made by m; what is made is told by R -/
theorem lcS {J : It} {n : Nat} {G : Hp → Prop} {Y : Nat → Hp → V → Hp → Prop} (wk : Walk J n G Y) {β γ : Type} {R : Hp → V → γ → Prop} (st : Stays R) (bs : List β) (f : β → Bool) (m : β → γ) {H0 : Hp} (hn : n = bs.length) (hz : bs.length ≤ 100000) (hG : ∀ H, Same H0 H → G H)
    {g : TG} {tt : TT} {te : TE} {vs : List Nat} {σ : L2.St} {D : Addr} {Qd : Hp → Prop} (hD : H0 D = none)
    (hs : ∀ (i : Nat) (x : V) (b : β) (H H' : Hp) (Nx : Hp → Prop), bs[i]? = some b → Y i H x H' → Same H0 H → (f b = false → ∀ H2, Same H H2 → Nx H2) →
      (f b = true → ∀ y H2, Same H H2 → R H2 y (m b) → ∃ acc, H2 D = some (.lst acc) ∧ acc.length < sizeLine ∧ Nx (upd H2 D (.lst (acc ++ [y])))) →
      g x (wipe σ vs) H' fun σ2 H2 => wipe σ2 vs = wipe σ vs ∧ tt σ2 H2 fun c H3 => if c = true then te σ2 H3 fun y H4 => ∃ acc, H4 D = some (.lst acc) ∧ acc.length < sizeLine ∧ Nx (upd H4 D (.lst (acc ++ [y]))) else Nx H3)
    (hd : ∀ H, Same H0 H → LstOf R H D ((bs.filter f).map m) → Qd H) :
    ∃ W : Nat → Nat → Hp → Prop, (∃ m, W 0 m (upd H0 D (.lst []))) ∧ ∀ i m H, W i m H → (J.stop i H ∧ Qd H) ∨ (J.go i H ∧ ∃ Nx : Hp → Prop, (∀ H', Nx H' → ∃ m', m' < m ∧ W (i + 1) m' H') ∧
      ∀ x H', J.yld i H x H' → g x (wipe σ vs) H' fun σ2 H2 => wipe σ2 vs = wipe σ vs ∧ tt σ2 H2 fun c H3 => if c = true then te σ2 H3 fun y H4 => ∃ acc, H4 D = some (.lst acc) ∧ acc.length < sizeLine ∧ Nx (upd H4 D (.lst (acc ++ [y]))) else Nx H3) := by
  subst hn
  have big : (100000 : Nat) < sizeLine := by decide
  refine lc_it wk (fun i H => Same H0 H ∧ LstOf R H D (((bs.take i).filter f).map m)) ⟨same_new hD, [], upd_same, .nil⟩ (fun i H _ p => hG H p.1) ?_ ?_
  · rintro i x H H' hi ⟨sm, acc, ha, pa⟩ hy
    have hb : bs[i]? = some bs[i] := List.getElem?_eq_getElem hi
    have la : acc.length ≤ bs.length := by
      rw [paired_len pa]
      exact fmap_len f m bs i
    refine hs i x _ H H' (fun H2 => Same H0 H2 ∧ LstOf R H2 D (((bs.take (i + 1)).filter f).map m)) hb hy sm (fun c H2 g2 => ⟨sm.trans g2, acc, g2 _ _ ha, ?_⟩) (fun c y H2 g2 r => ⟨acc, g2 _ _ ha, by omega, ?_⟩)
    · rw [fmap_one f m bs i _ hb, c, if_neg Bool.false_ne_true, List.append_nil]
      exact paired_mono (fun _ _ => st _ _ _ _ (tups_same g2)) pa
    · have t := tups_lst (vs := acc ++ [y]) (g2 _ _ ha)
      refine ⟨same_mut (sm.trans g2) hD, acc ++ [y], upd_same, ?_⟩
      rw [fmap_one f m bs i _ hb, c, if_pos rfl]
      exact paired_snoc (paired_mono (fun _ _ z => st _ _ _ _ t (st _ _ _ _ (tups_same g2) z)) pa) (st _ _ _ _ t r)
  · rintro H ⟨sm, l⟩
    rw [List.take_length] at l
    exact hd H sm l
theorem filter_all {β : Type} (bs : List β) : bs.filter (fun _ => true) = bs := List.filter_eq_self.mpr fun _ _ => rfl
/-! ### rows as data -/
theorem dpAll_rows {K : PySem.W.Frag} {H : Hp} : ∀ {xs : List V} {rs : List (List Str)}, Paired (RwAt H) xs rs → DpAll K H xs (rs.map rowD)
  | _, _, .nil => .nil
  | _, _, .cons ⟨r, e, h⟩ t => by
    subst e
    exact .cons (dp_row h) (dpAll_rows t)
abbrev gameD (rs : List (List Str)) : PyData := .tuple (rs.map rowD)
theorem dp_game {K : PySem.W.Frag} {H : Hp} {a : Addr} {rs : List (List Str)} (h : GmAt H a rs) : Dp K H (.ref a) (gameD rs) := by
  obtain ⟨xs, h1, h2⟩ := h
  exact .tup (SqT.of h1) (dpAll_rows h2)
theorem dp_gameL {K : PySem.W.Frag} {H : Hp} {a : Addr} {rs : List (List Str)} (h : GlAt H a rs) : Dp K H (.ref a) (.list (rs.map rowD)) := by
  obtain ⟨xs, h1, h2⟩ := h
  exact .lst (SqL.of h1) (dpAll_rows h2)
theorem eqv_rows : ∀ rs qs : List (List Str), PyData.eqvAll (rs.map rowD) (qs.map rowD) = decide (rs = qs)
  | [], [] => by simp [PyData.eqvAll]
  | [], _ :: _ => by simp [PyData.eqvAll]
  | _ :: _, [] => by simp [PyData.eqvAll]
  | r :: rs, q :: qs => by
    rw [List.map_cons, List.map_cons, PyData.eqvAll, eqv_rows rs qs, eqv_row]
    by_cases h1 : r = q <;> by_cases h2 : rs = qs <;> simp [h1, h2]
theorem eqv_game (rs qs : List (List Str)) : PyData.eqv (gameD rs) (gameD qs) = decide (rs = qs) := by rw [PyData.eqv, eqv_rows]
theorem any_row (q : List Str) : ∀ rs : List (List Str), ((rs.map rowD).any fun z => PyData.eqv z (rowD q)) = decide (q ∈ rs)
  | [] => by simp
  | r :: rs => by
    rw [List.map_cons, List.any_cons, any_row q rs, eqv_row]
    by_cases h : r = q
    · subst h
      simp
    · have h' : ¬ q = r := fun z => h z.symm
      simp [h, h']
theorem any_str (q : Str) : ∀ ws : List Str, ((rowL ws).any fun z => PyData.eqv z (.str q)) = decide (q ∈ ws)
  | [] => by simp
  | w :: ws => by
    rw [rowL_cons, List.any_cons, any_str q ws, PyData.eqv]
    by_cases h : w = q
    · subst h
      simp
    · have h' : ¬ q = w := fun z => h z.symm
      simp [h, h']
theorem lay_word {z : Str} (h : wordOk z) : PyData.canLay0 (.str z) = true := lay_let h.1
theorem shaped_rw {r : List Str} (h : ∀ z ∈ r, wordOk z) : SeqAt.shaped (rowD r) = true := shaped_row fun z hz => lay_word (h z hz)
theorem lay_rows : ∀ rs : List (List Str), (∀ r ∈ rs, ∀ z ∈ r, wordOk z) → PyData.canLayAll0 (rs.map rowD) = true ∧ PyData.depthAll (rs.map rowD) ≤ 1
  | [], _ => by simp [PyData.canLayAll0, PyData.depthAll]
  | r :: rs, h => by
    obtain ⟨h1, h2⟩ := lay_rows rs fun r hr => h r (List.mem_cons_of_mem _ hr)
    rw [List.map_cons, PyData.canLayAll0, h1, PyData.depthAll]
    have e : PyData.depth (rowD r) = 1 := by
      rw [PyData.depth, depth_rowL]
    refine ⟨?_, by omega⟩
    rw [PyData.canLay0, lay_rowL r fun z hz => lay_word (h r List.mem_cons_self z hz)]
    rfl
theorem shaped_game {rs : List (List Str)} (h : ∀ r ∈ rs, ∀ z ∈ r, wordOk z) : SeqAt.shaped (gameD rs) = true := by
  unfold SeqAt.shaped
  obtain ⟨h1, h2⟩ := lay_rows rs h
  rw [PyData.canLay0, h1, PyData.depth, Bool.true_and]
  exact decide_eq_true (by omega)
theorem shaped_gameL {rs : List (List Str)} (h : ∀ r ∈ rs, ∀ z ∈ r, wordOk z) : SeqAt.shaped (.list (rs.map rowD)) = true := by
  unfold SeqAt.shaped
  obtain ⟨h1, h2⟩ := lay_rows rs h
  rw [PyData.canLay0, h1, PyData.depth, Bool.true_and]
  exact decide_eq_true (by omega)
theorem shaped_wd {z : Str} (h : wordOk z) : SeqAt.shaped (.str z) = true := by
  unfold SeqAt.shaped
  rw [lay_word h, PyData.depth]
  rfl
/-! ### dicts keyed by rows -/
theorem inr_inj {a b : List Str} : keyRow a = keyRow b ↔ a = b := by
  constructor
  · intro h
    have := congrArg (List.map fun k : Key => match k with | .inr z => z | .inl _ => Str.empty) h
    unfold keyRow at this
    rw [List.map_map, List.map_map] at this
    exact (List.map_id a).symm.trans ((show List.map id a = List.map id b from this).trans (List.map_id b))
  · intro h
    rw [h]
/-- the keys, rows, and what is told of each -/
structure RDict {γ : Type} (R : V → γ → Prop) (ents : List (List Key × V)) (ks : List (List Str)) (val : List Str → γ) : Prop where
  keys : ents.map (·.1) = ks.map keyRow
  nd : ks.Nodup
  vals : ∀ e ∈ ents, ∀ k, e.1 = keyRow k → R e.2 (val k)
/-- the keys with one more -/
def plusR (ks : List (List Str)) (k : List Str) : List (List Str) := if k ∈ ks then ks else ks ++ [k]
theorem mem_plusR {ks : List (List Str)} {k x : List Str} : x ∈ plusR ks k ↔ x ∈ ks ∨ x = k := by
  unfold plusR
  by_cases h : k ∈ ks
  · rw [if_pos h]
    constructor
    · exact .inl
    · rintro (z | rfl)
      · exact z
      · exact h
  · rw [if_neg h, List.mem_append, List.mem_singleton]
theorem plusR_nd {ks : List (List Str)} (n : ks.Nodup) (k : List Str) : (plusR ks k).Nodup := by
  unfold plusR
  by_cases h : k ∈ ks
  · rw [if_pos h]
    exact n
  · rw [if_neg h]
    exact List.nodup_append.mpr ⟨n, List.pairwise_singleton _ _, fun a ha b hb e => h (by rw [← List.mem_singleton.mp hb, ← e]; exact ha)⟩
theorem key_any {ents : List (List Key × V)} {ks : List (List Str)} (h : ents.map (·.1) = ks.map keyRow) (k : List Str) : (ents.any fun e => decide (e.1 = keyRow k)) = decide (k ∈ ks) := by
  have e1 : (ents.any fun e => decide (e.1 = keyRow k)) = (ents.map (·.1)).any fun y => decide (y = keyRow k) := by
    rw [List.any_map]
    rfl
  rw [e1, h, List.any_map]
  by_cases m : k ∈ ks
  · rw [decide_eq_true m, List.any_eq_true]
    exact ⟨k, m, decide_eq_true rfl⟩
  · rw [decide_eq_false m, List.any_eq_false]
    intro x hx z
    exact m (inr_inj.mp (of_decide_eq_true z) ▸ hx)
theorem RDict.put {γ : Type} {R : V → γ → Prop} {ents : List (List Key × V)} {ks : List (List Str)} {val : List Str → γ} (d : RDict R ents ks val) (k : List Str) {y : V} {c : γ} (r : R y c) :
    RDict R (putK ents (keyRow k) y) (plusR ks k) (fun x => if x = k then c else val x) := by
  have ka := key_any d.keys k
  refine ⟨?_, plusR_nd d.nd k, ?_⟩
  · unfold putK plusR
    rw [ka]
    by_cases m : k ∈ ks
    · rw [if_pos (decide_eq_true m), if_pos m, List.map_map, ← d.keys]
      refine List.map_congr_left fun e _ => ?_
      show (if e.1 = keyRow k then (e.1, y) else e).1 = e.1
      by_cases c : e.1 = keyRow k
      · rw [if_pos c]
      · rw [if_neg c]
    · rw [if_neg (by rw [decide_eq_false m]; exact Bool.false_ne_true), if_neg m, List.map_append, List.map_append, d.keys]
      rfl
  · intro e he x ex
    unfold putK at he
    rw [ka] at he
    by_cases m : k ∈ ks
    · rw [if_pos (decide_eq_true m)] at he
      obtain ⟨f, hf, rfl⟩ := List.mem_map.mp he
      by_cases c1 : f.1 = keyRow k
      · rw [if_pos c1] at ex ⊢
        have : x = k := inr_inj.mp (ex.symm.trans c1)
        rw [if_pos this]
        exact r
      · rw [if_neg c1] at ex ⊢
        have : x ≠ k := fun z => c1 (by rw [ex, z])
        rw [if_neg this]
        exact d.vals f hf x ex
    · rw [if_neg (by rw [decide_eq_false m]; exact Bool.false_ne_true)] at he
      rcases List.mem_append.mp he with h1 | h1
      · have : x ≠ k := fun z => m (by
          have hm : keyRow x ∈ ks.map keyRow := by
            rw [← d.keys, ← ex]
            exact List.mem_map.mpr ⟨e, h1, rfl⟩
          obtain ⟨y', hy, ey⟩ := List.mem_map.mp hm
          rw [← z, ← inr_inj.mp ey]
          exact hy)
        rw [if_neg this]
        exact d.vals e h1 x ex
      · rw [List.mem_singleton.mp h1] at ex ⊢
        have : x = k := (inr_inj.mp ex).symm
        rw [if_pos this]
        exact r
theorem RDict.get {γ : Type} {R : V → γ → Prop} {ents : List (List Key × V)} {ks : List (List Str)} {val : List Str → γ} (d : RDict R ents ks val) {k : List Str} (h : k ∈ ks) : ∃ y, valV ents (keyRow k) = some y ∧ R y (val k) := by
  have ka := key_any d.keys k
  rw [decide_eq_true h, List.any_eq_true] at ka
  unfold valV
  cases e : ents.find? fun kv => decide (kv.1 = keyRow k) with
  | none =>
    obtain ⟨x, hx, z⟩ := ka
    exact absurd z (List.find?_eq_none.mp e x hx)
  | some f =>
    have z := List.find?_some e
    exact ⟨f.2, rfl, d.vals f (List.mem_of_find?_eq_some e) k (of_decide_eq_true z)⟩
theorem keys_isSome {ents : List (List Key × V)} {ks : List (List Str)} (h : ents.map (·.1) = ks.map keyRow) (k : List Str) : (valV ents (keyRow k)).isSome = decide (k ∈ ks) := by
  rw [← key_any h k]
  unfold valV
  rw [Option.isSome_map]
  cases e : ents.find? fun kv => decide (kv.1 = keyRow k) with
  | none =>
    symm
    rw [Option.isSome_none, List.any_eq_false]
    exact List.find?_eq_none.mp e
  | some f =>
    symm
    rw [Option.isSome_some, List.any_eq_true]
    have z := List.find?_some e
    exact ⟨f, List.mem_of_find?_eq_some e, z⟩
end Nm
namespace Nm
open PySem PySem.Spec PyProof.Rows L2 NmD
theorem sl_drop {K : PySem.W.Frag} {H : Hp} {a : Addr} {xs : List V} {k : Nat} {Q : VK} (h : H a = some (.tup xs)) (q : ∀ r H', Same H H' → H' r = some (.tup (xs.drop k)) → Q (.ref r) H') : rSlA K (.ref a) (some (k : Int)) none H Q := by
  have e1 : HT.sIx xs.length 0 (some (k : Int)) = min k xs.length := HT.sIx_nat _ _ _
  refine ⟨a, xs, rfl, SqT.of h, fun z => ?_, fun z p hp => ?_⟩
  · have e := z.1
    rw [e1] at e
    refine q a H (Same.refl H) ?_
    by_cases c : k = 0
    · rw [c, List.drop_zero]
      exact h
    · have : xs = [] := List.eq_nil_of_length_eq_zero (by omega)
      rw [this, List.drop_nil]
      rw [this] at h
      exact h
  · refine q p _ (same_new hp) ?_
    rw [upd_same]
    unfold cutV
    rw [e1, HT.sIx_none, List.take_of_length_le (by rw [List.length_drop]; omega)]
    by_cases c : k ≤ xs.length
    · rw [Nat.min_eq_left c]
    · rw [Nat.min_eq_right (by omega), List.drop_length, List.drop_of_length_le (by omega)]
/-- rows sorted: each once, ascending -/
theorem sorted_rows {H : Hp} {xs ys : List V} {rs : List (List Str)} (pa : Paired (RwAt H) xs rs) (nd : rs.Nodup) (srt : SrtO.Srtd (ltV fun x => rowL (rowOf H x)) ys) (stb : SrtO.Stb (ltV fun x => rowL (rowOf H x)) ys xs) :
    Paired (RwAt H) ys (ys.map (rowOf H)) ∧ (ys.map (rowOf H)).Pairwise bef ∧ (ys.map (rowOf H)).Perm rs := by
  have back : ∀ {us : List V} {qs : List (List Str)}, Paired (RwAt H) us qs → us.map (rowOf H) = qs := by
    intro us qs p
    induction p with
    | nil => rfl
    | cons h _ ih =>
      obtain ⟨r, e, hr⟩ := h
      rw [List.map_cons, ih, e, rowOf_at hr]
  have each : ∀ y ∈ ys, RwAt H y (rowOf H y) := fun y hy => by
    obtain ⟨i, hi⟩ := List.mem_iff_getElem?.mp (stb.perm.mem_iff.mp hy)
    obtain ⟨ws, _, r, e, hr⟩ := paired_at pa i y hi
    subst e
    rw [rowOf_at hr]
    exact ⟨r, rfl, hr⟩
  have pm : (ys.map (rowOf H)).Perm rs := by
    rw [← back pa]
    exact stb.perm.map _
  refine ⟨?_, ?_, pm⟩
  · clear stb srt pm
    induction ys with
    | nil => exact .nil
    | cons y ys ih => exact .cons (each y List.mem_cons_self) (ih fun z hz => each z (List.mem_cons_of_mem _ hz))
  · refine srt_bef ?_ (pm.nodup_iff.mpr nd)
    rw [List.pairwise_map]
    exact srt
theorem sql_bl {K : PySem.W.Frag} {H : Hp} {D : Addr} {bs : List Bool} (l : LstOf BlV H D bs) : SqL K H D (bs.map V.bl) := by
  obtain ⟨acc, h, pa⟩ := l
  rw [bls_vs pa] at h
  exact SqL.of h
theorem lst_str {H : Hp} {D : Addr} {zs : List Str} (l : LstOf StrV H D zs) : H D = some (.lst (zs.map V.str)) := by
  obtain ⟨acc, h, pa⟩ := l
  rw [strs_vs pa] at h
  exact h
/-- {row: True for row in rows} -/
theorem dcT_true {K : PySem.W.Frag} {a : Addr} {rs : List (List Str)} {H0 : Hp} {g : TG} {tk tv : TE} {vs : List Nat} {σ : L2.St} {D : Addr} {Qd : Hp → Prop} (hx : GmAt H0 a rs) (hz : rs.length ≤ 100000) (hD : H0 D = none)
    (hs : ∀ (i : Nat) (r : Addr) (ws : List Str) (H : Hp) (Nx : Hp → Prop), rs[i]? = some ws → Same H0 H → H r = some (.tup (ws.map V.str)) → (∃ ents : List (List Key × V), H D = some (.dT ents) ∧ ents.length < sizeLine ∧ Nx (upd H D (.dT (putK ents (keyRow ws) (.bl true))))) →
      g (.ref r) (wipe σ vs) H fun σ2 H2 => wipe σ2 vs = wipe σ vs ∧ tk σ2 H2 fun y H4 => tv σ2 H4 fun z H5 =>
        ∃ (ents : List (List Key × V)) (k : List Key) (b : Addr), y = .ref b ∧ H5 D = some (.dT ents) ∧ H5 b = some (.tup (k.map kV)) ∧ ents.length < sizeLine ∧ Nx (upd H5 D (.dT (putK ents k z))))
    (hd : ∀ H (ents : List (List Key × V)) (ks : List (List Str)), Same H0 H → H D = some (.dT ents) → ents.map (·.1) = ks.map keyRow → (∀ z, z ∈ ks ↔ z ∈ rs) → Qd H) :
    ∃ W : Nat → Nat → Hp → Prop, (∃ m, W 0 m (upd H0 D (.dT []))) ∧ ∀ i m H, W i m H → ((Itt K a).stop i H ∧ Qd H) ∨ ((Itt K a).go i H ∧ ∃ Nx : Hp → Prop, (∀ H', Nx H' → ∃ m', m' < m ∧ W (i + 1) m' H') ∧
      ∀ x H', (Itt K a).yld i H x H' → g x (wipe σ vs) H' fun σ2 H2 => wipe σ2 vs = wipe σ vs ∧ tk σ2 H2 fun y H4 => tv σ2 H4 fun z H5 =>
        ∃ (ents : List (List Key × V)) (k : List Key) (b : Addr), y = .ref b ∧ H5 D = some (.dT ents) ∧ H5 b = some (.tup (k.map kV)) ∧ ents.length < sizeLine ∧ Nx (upd H5 D (.dT (putK ents k z)))) := by
  obtain ⟨xs, ha, pa⟩ := hx
  have el := paired_len pa
  have big : (100000 : Nat) < sizeLine := by decide
  refine dcT_tup (xs := xs) (fun i H => Same H0 H ∧ ∃ (ents : List (List Key × V)) (ks : List (List Str)), H D = some (.dT ents) ∧ ents.length ≤ i ∧ RDict (fun y (b : Bool) => y = V.bl b) ents ks (fun _ => true) ∧ ∀ z, z ∈ ks ↔ z ∈ rs.take i)
    ⟨same_new hD, [], [], upd_same, Nat.le_refl _, ⟨rfl, .nil, fun e he => absurd he (List.not_mem_nil)⟩, fun z => by simp⟩ (fun i H _ p => SqT.of (p.1 _ _ ha)) ?_ ?_
  · rintro i x H hi ⟨sm, ents, ks, hd1, le, dd, mem⟩
    obtain ⟨ws, hw, r, rfl, hr⟩ := paired_at pa i x hi
    have li := (List.getElem?_eq_some_iff.mp hi).1
    refine hs i r ws H (fun H => Same H0 H ∧ ∃ (ents : List (List Key × V)) (ks : List (List Str)), H D = some (.dT ents) ∧ ents.length ≤ i + 1 ∧ RDict (fun y (b : Bool) => y = V.bl b) ents ks (fun _ => true) ∧ ∀ z, z ∈ ks ↔ z ∈ rs.take (i + 1)) hw sm (sm _ _ hr) ⟨ents, hd1, by omega, same_mut sm hD, _, plusR ks ws, upd_same, ?_, ?_, fun z => ?_⟩
    · have := length_putK ents (keyRow ws) (V.bl true)
      omega
    · have p := dd.put ws (y := V.bl true) (c := true) rfl
      have e : (fun x => if x = ws then true else (fun _ => true) x) = fun _ : List Str => true := by
        funext x
        by_cases c : x = ws
        · rw [if_pos c]
        · rw [if_neg c]
      rw [e] at p
      exact p
    · rw [mem_plusR, mem z, take_one hw, List.mem_append, List.mem_singleton]
  · rintro H ⟨sm, ents, ks, hd1, le, dd, mem⟩
    rw [el, List.take_length] at mem
    exact hd H ents ks sm hd1 dd.keys mem
theorem kit_lt_lst {K : PySem.W.Frag} : PySem.W.kitAny K (.type "list") [.type "list", .type "tuple"] = some true := kitAny_cons (b := true) (kit_ty (by decide +kernel)) (fun z => absurd z (by decide)) (fun _ => rfl)
theorem kit_lt_tup {K : PySem.W.Frag} : PySem.W.kitAny K (.type "tuple") [.type "list", .type "tuple"] = some true := kitAny_cons (b := false) (kit_ty (by decide +kernel)) (fun _ => kitAny_cons (b := true) (kit_ty (by decide +kernel)) (fun z => absurd z (by decide)) (fun _ => rfl)) (fun z => absurd z (by decide))
theorem rowB_of {r : List Str} (h : rwOk r) : rowB r 60 = true := by
  unfold rowB
  rw [decide_eq_true (show ((r.length : Nat) : Int) ≤ 60 by have := h.1; omega), Bool.true_and, List.all_eq_true]
  exact fun z hz => (h.2 z hz).1
end Nm
namespace Nm
open PySem PySem.Spec PyProof.Rows L2 NmD
theorem sl_from1 {K : PySem.W.Frag} {H : Hp} {a : Addr} {xs : List V} {Q : VK} (h : H a = some (.tup xs)) (q : ∀ r H', Same H H' → H' r = some (.tup (xs.drop 1)) → Q (.ref r) H') : rSlA K (.ref a) (some 1) none H Q := sl_drop (k := 1) h q
def rLenS (K : PySem.W.Frag) : List V → Hp → VK → Prop := fun xs H Q => ∃ p ys, xs = [V.ref p] ∧ (SqL K H p ys ∨ SqT K H p ys) ∧ Q (V.int ys.length) H
theorem call_lenS {X : Cx} : CallR X (.builtin "len") (rLenS X.K) := call_len_seq
theorem sl_takeE {K : PySem.W.Frag} {H : Hp} {a : Addr} {xs : List V} {n : Int} {k : Nat} {Q : VK} (e : n = (k : Int)) (h : H a = some (.tup xs)) (q : ∀ r H', Same H H' → H' r = some (.tup (xs.take k)) → Q (.ref r) H') : rSlA K (.ref a) none (some n) H Q := by
  subst e
  exact sl_take h q
theorem sl_dropE {K : PySem.W.Frag} {H : Hp} {a : Addr} {xs : List V} {n : Int} {k : Nat} {Q : VK} (e : n = (k : Int)) (h : H a = some (.tup xs)) (q : ∀ r H', Same H H' → H' r = some (.tup (xs.drop k)) → Q (.ref r) H') : rSlA K (.ref a) (some n) none H Q := by
  subst e
  exact sl_drop h q
theorem keys_put {ents : List (List Key × V)} {ks : List (List Str)} (h : ents.map (·.1) = ks.map keyRow) (nd : ks.Nodup) (k : List Str) (y : V) : (putK ents (keyRow k) y).map (·.1) = (plusR ks k).map keyRow :=
  (RDict.put (R := fun _ (_ : Unit) => True) (val := fun _ => ()) ⟨h, nd, fun _ _ _ _ => trivial⟩ k (y := y) (c := ()) trivial).keys
theorem two : 2 ≤ PySem.sizeLine := by decide
theorem nought : 0 ≤ PySem.sizeLine := Nat.zero_le _
end Nm
namespace Nm
open PySem PySem.Spec PyProof.Rows L2 NmD
/-! ### a thing of any kind: what stands at a value, whatever it is -/
/-- what the text says of a class whose things are no tuple, no text, no number -/
structure HallC (K : PySem.W.Frag) (C : Addr) : Prop where
  cl : Cls K C
  ha : PySem.W.findIn K (.ref C) "__class__" = some (some (.builtin "object.__class__"))
  hn : PySem.W.specialIn K (.builtin "object.__class__") "__get__" = some (some (.builtin "getset_descriptor.__get__"))
  htk : PySem.W.takesIn K (.builtin "object.__class__") = some true
  hm : PySem.W.mroIn K C (.type "object") = some true
  kt : PySem.W.kitOne K (.ref C) (.type "tuple") = some false
  ks : PySem.W.kitOne K (.ref C) (.type "str") = some false
  ki : PySem.W.kitOne K (.ref C) (.type "int") = some false
  kb : PySem.W.kitOne K (.ref C) (.type "bool") = some false
mutual
inductive At (K : PySem.W.Frag) (tp : Addr) (H : Hp) : V → PyData → Prop
  | non : At K tp H .non .none
  | bl (b : Bool) : At K tp H (.bl b) (.bool b)
  | int (i : Int) : At K tp H (.int i) (.int i)
  | str (z : Str) (l : z.length ≤ 1000) : At K tp H (.str z) (.str z)
  | tup {a : Addr} {xs : List V} {ds : List PyData} : H a = some (.tup xs) → AtAll K tp H xs ds → At K tp H (.ref a) (.tuple ds)
  | lst {a : Addr} {xs : List V} {ds : List PyData} : a ≠ tp → H a = some (.lst xs) → AtAll K tp H xs ds → At K tp H (.ref a) (.list ds)
  | dct {a : Addr} {kvs : List (Key × V)} : H a = some (.dK kvs) → At K tp H (.ref a) (.dict [])
  | own {a C dx : Addr} {fs : List (Str × V)} : HallC K C → H a = some (.ins C dx fs) → At K tp H (.ref a) (.dict [])
inductive AtAll (K : PySem.W.Frag) (tp : Addr) (H : Hp) : List V → List PyData → Prop
  | nil : AtAll K tp H [] []
  | cons {v : V} {vs : List V} {d : PyData} {ds : List PyData} : At K tp H v d → AtAll K tp H vs ds → AtAll K tp H (v :: vs) (d :: ds)
end
mutual
theorem At.same {K : PySem.W.Frag} {tp : Addr} {H H' : Hp} (g : Same H H') : ∀ (d : PyData) (v : V), At K tp H v d → At K tp H' v d
  | .none, _, h => by
    cases h
    exact .non
  | .bool b, _, h => by
    cases h
    exact .bl b
  | .int i, _, h => by
    cases h
    exact .int i
  | .str z, _, h => by
    cases h with
    | str _ l => exact .str z l
  | .tuple ds, _, h => by
    cases h with
    | tup h1 h2 => exact .tup (g _ _ h1) (AtAll.same g ds _ h2)
  | .list ds, _, h => by
    cases h with
    | lst n h1 h2 => exact .lst n (g _ _ h1) (AtAll.same g ds _ h2)
  | .dict ks, _, h => by
    cases h with
    | dct h1 => exact .dct (g _ _ h1)
    | own k h1 => exact .own k (g _ _ h1)
theorem AtAll.same {K : PySem.W.Frag} {tp : Addr} {H H' : Hp} (g : Same H H') : ∀ (ds : List PyData) (vs : List V), AtAll K tp H vs ds → AtAll K tp H' vs ds
  | [], _, h => by
    cases h
    exact .nil
  | d :: ds, _, h => by
    cases h with
    | cons h1 h2 => exact .cons (At.same g d _ h1) (AtAll.same g ds _ h2)
end
mutual
theorem At.mov {K : PySem.W.Frag} {tp : Addr} {H H' : Hp} (g : Mov tp H H') (ok : ∀ xs, H tp ≠ some (.tup xs)) (ok2 : ∀ ks, H tp ≠ some (.dK ks)) (ok3 : ∀ C dx fs, H tp ≠ some (.ins C dx fs)) : ∀ (d : PyData) (v : V), At K tp H v d → At K tp H' v d
  | .none, _, h => by
    cases h
    exact .non
  | .bool b, _, h => by
    cases h
    exact .bl b
  | .int i, _, h => by
    cases h
    exact .int i
  | .str z, _, h => by
    cases h with
    | str _ l => exact .str z l
  | .tuple ds, _, h => by
    cases h with
    | tup h1 h2 => exact .tup (g _ _ h1 fun e => ok _ (e ▸ h1)) (AtAll.mov g ok ok2 ok3 ds _ h2)
  | .list ds, _, h => by
    cases h with
    | lst n h1 h2 => exact .lst n (g _ _ h1 n) (AtAll.mov g ok ok2 ok3 ds _ h2)
  | .dict ks, _, h => by
    cases h with
    | dct h1 => exact .dct (g _ _ h1 fun e => ok2 _ (e ▸ h1))
    | own k h1 => exact .own k (g _ _ h1 fun e => ok3 _ _ _ (e ▸ h1))
theorem AtAll.mov {K : PySem.W.Frag} {tp : Addr} {H H' : Hp} (g : Mov tp H H') (ok : ∀ xs, H tp ≠ some (.tup xs)) (ok2 : ∀ ks, H tp ≠ some (.dK ks)) (ok3 : ∀ C dx fs, H tp ≠ some (.ins C dx fs)) : ∀ (ds : List PyData) (vs : List V), AtAll K tp H vs ds → AtAll K tp H' vs ds
  | [], _, h => by
    cases h
    exact .nil
  | d :: ds, _, h => by
    cases h with
    | cons h1 h2 => exact .cons (At.mov g ok ok2 ok3 d _ h1) (AtAll.mov g ok ok2 ok3 ds _ h2)
end
/-- a thing apart from the tape stays when the tape is turned on -/
theorem At.tape {K : PySem.W.Frag} {tp l : Addr} {H H' : Hp} {d : PyData} {v : V} (h : At K tp H v d) (t : TapeAt H tp l) (g : Mov tp H H') : At K tp H' v d := by
  obtain ⟨ns, i, c, m, n, hT, _⟩ := t
  exact At.mov g (fun xs e => by rw [hT] at e; cases e) (fun ks e => by rw [hT] at e; cases e) (fun C dx fs e => by rw [hT] at e; cases e) d v h
theorem atAll_paired {K : PySem.W.Frag} {tp : Addr} {H : Hp} : ∀ {vs : List V} {ds : List PyData}, AtAll K tp H vs ds → Paired (At K tp H) vs ds
  | [], _, h => by
    cases h
    exact .nil
  | v :: vs, _, h => by
    cases h with
    | cons h1 h2 => exact .cons h1 (atAll_paired h2)
theorem paired_atAll {K : PySem.W.Frag} {tp : Addr} {H : Hp} : ∀ {vs : List V} {ds : List PyData}, Paired (At K tp H) vs ds → AtAll K tp H vs ds
  | _, _, .nil => .nil
  | _, _, .cons h t => .cons h (paired_atAll t)
/-- an int that is no flag -/
def intD : PyData → Bool
  | .int _ => true
  | _ => false
theorem At.tyi {K : PySem.W.Frag} {tp : Addr} {H : Hp} {v : V} {d : PyData} (h : At K tp H v d) : TyI K H v := by
  cases h with
  | non => exact ⟨false, false, ⟨_, .base .non, kit_ty (by decide +kernel)⟩, ⟨_, .base .non, kit_ty (by decide +kernel)⟩, rfl⟩
  | bl b => exact ⟨true, true, ⟨_, .base (.bl b), kit_ty (by decide +kernel)⟩, ⟨_, .base (.bl b), kit_ty (by decide +kernel)⟩, rfl⟩
  | int i => exact tyi_int i
  | str z _ => exact tyi_str z
  | tup h _ => exact tyi_tup h
  | lst _ h _ => exact ⟨false, false, ⟨_, .base (.lst h), kit_ty (by decide +kernel)⟩, ⟨_, .base (.lst h), kit_ty (by decide +kernel)⟩, rfl⟩
  | dct h => exact ⟨false, false, ⟨_, .base (.dK h), kit_ty (by decide +kernel)⟩, ⟨_, .base (.dK h), kit_ty (by decide +kernel)⟩, rfl⟩
  | own k h => exact ⟨false, false, ⟨_, .base (.ins h k.cl k.ha k.hn k.htk k.hm), k.ki⟩, ⟨_, .base (.ins h k.cl k.ha k.hn k.htk k.hm), k.kb⟩, rfl⟩
/-! ### the judgements -/
def letD (d : PyData) (most : Int) : Bool := match d with
  | .str z => letB z most
  | _ => false
def intIn (d : PyData) (lo hi : Int) : Bool := match d with
  | .int n => decide (lo ≤ n) && decide (n ≤ hi)
  | _ => false
def rowsD (d : PyData) (most : Int) : Bool := match d with
  | .tuple ds => decide ((ds.length : Int) ≤ most) && ds.all (fun e => letD e 20)
  | _ => false
def boardD (d : PyData) : Bool := match d with
  | .tuple [n, s, r] => letD n 8 && (intIn s 0 1 && rowsD r 20)
  | _ => false
theorem At.within {K : PySem.W.Frag} {tp : Addr} {H : Hp} {v : V} {d : PyData} (h : At K tp H v d) (lo hi : Int) : Nm.within v lo hi = intIn d lo hi := by
  cases h <;> rfl
theorem strOr {K : PySem.W.Frag} {tp : Addr} {H : Hp} {v : V} {d : PyData} (h : At K tp H v d) : (∃ z, v = .str z ∧ d = .str z ∧ z.length ≤ 1000) ∨ ((∃ t, TyX K H v t ∧ PySem.W.kitOne K t (.type "str") = some false) ∧ ∀ m, letD d m = false) := by
  cases h with
  | str z l => exact .inl ⟨z, rfl, rfl, l⟩
  | non => exact .inr ⟨⟨_, .base .non, kit_ty (a := "NoneType") (b := "str") (by decide +kernel)⟩, fun _ => rfl⟩
  | bl b => exact .inr ⟨⟨_, .base (.bl b), kit_ty (a := "bool") (b := "str") (by decide +kernel)⟩, fun _ => rfl⟩
  | int i => exact .inr ⟨⟨_, .base (.int i), kit_ty (a := "int") (b := "str") (by decide +kernel)⟩, fun _ => rfl⟩
  | tup h _ => exact .inr ⟨⟨_, .base (.tup h), kit_ty (a := "tuple") (b := "str") (by decide +kernel)⟩, fun _ => rfl⟩
  | lst _ h _ => exact .inr ⟨⟨_, .base (.lst h), kit_ty (a := "list") (b := "str") (by decide +kernel)⟩, fun _ => rfl⟩
  | dct h => exact .inr ⟨⟨_, .base (.dK h), kit_ty (a := "dict") (b := "str") (by decide +kernel)⟩, fun _ => rfl⟩
  | own k h => exact .inr ⟨⟨_, .base (.ins h k.cl k.ha k.hn k.htk k.hm), k.ks⟩, fun _ => rfl⟩
theorem tupOr {K : PySem.W.Frag} {tp : Addr} {H : Hp} {v : V} {d : PyData} (h : At K tp H v d) : (∃ a xs ds, v = .ref a ∧ d = .tuple ds ∧ H a = some (.tup xs) ∧ Paired (At K tp H) xs ds) ∨ ((∃ t, TyX K H v t ∧ PySem.W.kitOne K t (.type "tuple") = some false) ∧ ∀ ds, d ≠ .tuple ds) := by
  cases h with
  | tup h1 h2 => exact .inl ⟨_, _, _, rfl, rfl, h1, atAll_paired h2⟩
  | str z l => exact .inr ⟨⟨_, .base (.str z), kit_ty (a := "str") (b := "tuple") (by decide +kernel)⟩, fun _ e => nomatch e⟩
  | non => exact .inr ⟨⟨_, .base .non, kit_ty (a := "NoneType") (b := "tuple") (by decide +kernel)⟩, fun _ e => nomatch e⟩
  | bl b => exact .inr ⟨⟨_, .base (.bl b), kit_ty (a := "bool") (b := "tuple") (by decide +kernel)⟩, fun _ e => nomatch e⟩
  | int i => exact .inr ⟨⟨_, .base (.int i), kit_ty (a := "int") (b := "tuple") (by decide +kernel)⟩, fun _ e => nomatch e⟩
  | lst _ h _ => exact .inr ⟨⟨_, .base (.lst h), kit_ty (a := "list") (b := "tuple") (by decide +kernel)⟩, fun _ e => nomatch e⟩
  | dct h => exact .inr ⟨⟨_, .base (.dK h), kit_ty (a := "dict") (b := "tuple") (by decide +kernel)⟩, fun _ e => nomatch e⟩
  | own k h => exact .inr ⟨⟨_, .base (.ins h k.cl k.ha k.hn k.htk k.hm), k.kt⟩, fun _ e => nomatch e⟩
theorem rowsD_no {d : PyData} (h : ∀ ds, d ≠ .tuple ds) (m : Int) : rowsD d m = false := by
  cases d with
  | tuple ds => exact absurd rfl (h ds)
  | _ => rfl
theorem boardD_no {d : PyData} (h : ∀ ds, d ≠ .tuple ds) : boardD d = false := by
  cases d with
  | tuple ds => exact absurd rfl (h ds)
  | _ => rfl
theorem boardD_len {ds : List PyData} (h : ds.length ≠ 3) : boardD (.tuple ds) = false := by
  match ds, h with
  | [], _ => rfl
  | [_], _ => rfl
  | [_, _], _ => rfl
  | [_, _, _], h => exact absurd rfl h
  | _ :: _ :: _ :: _ :: _, _ => rfl
/-- how many things stand in it at most -/
def small (d : PyData) : Bool := match d with
  | .tuple ds => decide (ds.length ≤ 1000)
  | _ => true
/-! ### right boards, read off -/
def strOfD (d : PyData) : Str := match d with
  | .str z => z
  | _ => Str.empty
def intOfD (d : PyData) : Int := match d with
  | .int i => i
  | _ => 0
def wsOfD (d : PyData) : List Str := match d with
  | .tuple ds => ds.map strOfD
  | _ => []
def bdOfD (d : PyData) : Bd := match d with
  | .tuple [n, s, r] => (strOfD n, intOfD s, wsOfD r)
  | _ => (Str.empty, 0, [])
def bdsOfD (d : PyData) : List Bd := match d with
  | .tuple ds => ds.map bdOfD
  | _ => []
theorem let_at {K : PySem.W.Frag} {tp : Addr} {H : Hp} {v : V} {d : PyData} {m : Int} (h : At K tp H v d) (l : letD d m = true) : v = .str (strOfD d) ∧ letB (strOfD d) m = true ∧ (strOfD d).length ≤ 1000 := by
  rcases strOr h with ⟨z, rfl, rfl, hz⟩ | ⟨_, no⟩
  · exact ⟨rfl, l, hz⟩
  · rw [no m] at l
    cases l
theorem row_at {K : PySem.W.Frag} {tp : Addr} {H : Hp} : ∀ {xs : List V} {ds : List PyData}, Paired (At K tp H) xs ds → ds.all (fun e => letD e 20) = true → xs = (ds.map strOfD).map V.str ∧ (ds.map strOfD).all (fun z => letB z 20) = true ∧ ∀ z ∈ ds.map strOfD, z.length ≤ 1000
  | _, _, .nil, _ => ⟨rfl, rfl, fun z hz => absurd hz (List.not_mem_nil)⟩
  | _, _, .cons (a := x) (b := d) h t, l => by
    rw [List.all_cons, Bool.and_eq_true] at l
    obtain ⟨e, l1, l2⟩ := let_at h l.1
    obtain ⟨e2, l3, l4⟩ := row_at t l.2
    refine ⟨by rw [List.map_cons, List.map_cons, ← e2, ← e], by rw [List.map_cons, List.all_cons, l1, l3]; rfl, fun z hz => ?_⟩
    rw [List.map_cons] at hz
    rcases List.mem_cons.mp hz with rfl | hz
    · exact l2
    · exact l4 z hz
theorem board_at {K : PySem.W.Frag} {tp : Addr} {H : Hp} {v : V} {d : PyData} (h : At K tp H v d) (b : boardD d = true) : BoardAt H v (bdOfD d) ∧ okB (bdOfD d) := by
  rcases tupOr h with ⟨a, xs, ds, rfl, rfl, ha, pr⟩ | ⟨_, no⟩
  rotate_left
  · rw [boardD_no no] at b
    cases b
  by_cases c : ds.length = 3
  rotate_left
  · rw [boardD_len c] at b
    cases b
  obtain ⟨d1, d2, d3, rfl⟩ : ∃ d1 d2 d3, ds = [d1, d2, d3] := by
    match ds, c with
    | [d1, d2, d3], _ => exact ⟨d1, d2, d3, rfl⟩
  cases pr with
  | @cons x1 _ _ _ h1 t1 =>
  cases t1 with
  | @cons x2 _ _ _ h2 t2 =>
  cases t2 with
  | @cons x3 _ _ _ h3 t3 =>
  cases t3 with
  | nil =>
    have b' : (letD d1 8 && (intIn d2 0 1 && rowsD d3 20)) = true := b
    rw [Bool.and_eq_true, Bool.and_eq_true] at b'
    obtain ⟨b1, b2, b3⟩ := b'
    obtain ⟨e1, n1, n2⟩ := let_at h1 b1
    have e2 : x2 = .int (intOfD d2) := by
      cases h2 with
      | int i => rfl
      | _ => exact absurd b2 (by simp [intIn])
    rcases tupOr h3 with ⟨r, zs, ws, rfl, rfl, hr, pz⟩ | ⟨_, no⟩
    rotate_left
    · rw [rowsD_no no] at b3
      cases b3
    have b3' : (decide ((ws.length : Int) ≤ 20) && ws.all (fun e => letD e 20)) = true := b3
    rw [Bool.and_eq_true] at b3'
    have l20 := of_decide_eq_true b3'.1
    obtain ⟨e3, r1, r2⟩ := row_at pz b3'.2
    subst e1 e2 e3
    refine ⟨⟨a, r, rfl, ha, hr⟩, ?_, n2, by show (ws.map strOfD).length ≤ 1000; rw [List.length_map]; omega, r2⟩
    show (letB (strOfD d1) 8 && (Nm.within (.int (intOfD d2)) 0 1 && rowB (ws.map strOfD) 20)) = true
    rw [n1, h2.within, b2]
    unfold rowB
    rw [r1, List.length_map, decide_eq_true (show ((ws.length : Nat) : Int) ≤ 20 by omega)]
    rfl
/-- the number of the first that is no board -/
def firstBad : List PyData → Nat → Option Int
  | [], _ => none
  | d :: ds, i => if boardD d = true then firstBad ds (i + 1) else some (i : Int)
def dueD (d : PyData) : Option Int := match d with
  | .tuple ds => if 1 ≤ ds.length ∧ ds.length ≤ 12 then firstBad ds 0 else some (-1)
  | _ => some (-1)
theorem dueD_no {d : PyData} (h : ∀ ds, d ≠ .tuple ds) : dueD d = some (-1) := by
  cases d with
  | tuple ds => exact absurd rfl (h ds)
  | _ => rfl
theorem firstBad_at : ∀ (ds : List PyData) (k i : Nat) (d : PyData), ds[i]? = some d → (∀ j e, j < i → ds[j]? = some e → boardD e = true) → boardD d = false → firstBad ds k = some (((k + i : Nat)) : Int)
  | [], _, _, _, h, _, _ => by simp at h
  | e :: ds, k, 0, d, h, _, b => by
    have e' : e = d := by simpa using h
    subst e'
    show (if boardD e = true then _ else some (k : Int)) = _
    rw [b, if_neg Bool.false_ne_true]
    rfl
  | e :: ds, k, i + 1, d, h, all, b => by
    show (if boardD e = true then firstBad ds (k + 1) else some (k : Int)) = _
    rw [all 0 e (Nat.succ_pos i) rfl, if_pos rfl, firstBad_at ds (k + 1) i d (by simpa using h) (fun j f hj hf => all (j + 1) f (Nat.succ_lt_succ hj) (by simpa using hf)) b]
    congr 1
    omega
theorem firstBad_none : ∀ (ds : List PyData) (k : Nat), (∀ e ∈ ds, boardD e = true) → firstBad ds k = none
  | [], _, _ => rfl
  | e :: ds, k, h => by
    show (if boardD e = true then firstBad ds (k + 1) else some (k : Int)) = _
    rw [h e List.mem_cons_self, if_pos rfl]
    exact firstBad_none ds (k + 1) fun f hf => h f (List.mem_cons_of_mem _ hf)
/-- right boards in a tuple -/
theorem boards_at {K : PySem.W.Frag} {tp : Addr} {H : Hp} : ∀ {xs : List V} {ds : List PyData}, Paired (At K tp H) xs ds → (∀ e ∈ ds, boardD e = true) → Paired (BoardAt H) xs (ds.map bdOfD) ∧ ∀ b ∈ ds.map bdOfD, okB b
  | _, _, .nil, _ => ⟨.nil, fun b hb => absurd hb (List.not_mem_nil)⟩
  | _, _, .cons h t, l => by
    obtain ⟨b1, b2⟩ := board_at h (l _ List.mem_cons_self)
    obtain ⟨r1, r2⟩ := boards_at t fun e he => l e (List.mem_cons_of_mem _ he)
    refine ⟨.cons b1 r1, fun b hb => ?_⟩
    rw [List.map_cons] at hb
    rcases List.mem_cons.mp hb with rfl | hb
    · exact b2
    · exact r2 b hb
/-- a hall whose boards stand at a -/
def HallIs (K : PySem.W.Frag) (H : Hp) (p a : Addr) (bs : List Bd) : Prop := ∃ C dx fs n ys, Cls K C ∧ NoAttr K C "boards" ∧ NoAttr K C "names" ∧ H p = some (.ins C dx fs) ∧ fs.lookup ("boards" : Str) = some (.ref a) ∧ fs.lookup ("names" : Str) = some (.ref n) ∧
  BoardsAt H a bs ∧ H n = some (.tup (ys.map V.str)) ∧ Names (bs.map (·.1)) ys
theorem HallIs.at {K : PySem.W.Frag} {H : Hp} {p a : Addr} {bs : List Bd} (h : HallIs K H p a bs) : HallAt K H p bs := by
  obtain ⟨C, dx, fs, n, ys, h1, h2, h3, h4, h5, h6, h7, h8, h9⟩ := h
  exact ⟨C, dx, fs, a, n, ys, h1, h2, h3, h4, h5, h6, h7, h8, h9⟩
end Nm
namespace Nm
open PySem PySem.Spec PyProof.Rows L2
/-- C(e, ..) where the making may raise, what is wished then told at the slots -/
def tMakeS (C : Addr) (sp : Sp) (E : L2.St → XK) (t : TA) : TE := fun σ H Q => t σ H fun vs H1 => ∀ x dx, H1 x = none → H1 dx = none → dx ≠ x → sp (.ref x :: vs) (upd (upd H1 dx (.own x)) x (.ins C dx [])) (fun v H2 => v = .non ∧ Q (.ref x) H2) (E σ)
section
variable {X : Cx} {CX : CXT} {k : Nat} {f C : Addr} {fd : FuncData} {ps : List Str} {sp : Sp} {E : L2.St → XK} {x : Str} {p pos : Pos} {e : Expr} {es : List Expr} {t : TA}
theorem made_out {pins : List (Addr × Obj)} {σ : L2.St} {H : Hp} {s : Shared} {Q : VK} {us : List Value} {vs : List V} (M : Mk X.K C f) (F : FnOk X.prog X.w X.K X.mg X.base CX k f fd ps sp) (hr : Room (k + 1) X.A) (hb : Binds X.K fd ps [])
    (hx : PassesAt CX X σ (E σ)) (I : Inv X pins σ H s) (r : Vals vs us) (h : ∀ y dx, H y = none → H dx = none → dx ≠ y → sp (.ref y :: vs) (upd (upd H dx (.own y)) y (.ins C dx [])) (fun v H2 => v = .non ∧ Q (.ref y) H2) (E σ)) :
    wpAny (model X.prog X.w) X.A (call (.ref C) us) (EP X pins σ Q) X.xe s := by
  have n0 := I.hok.fresh (Nat.le_refl s.heap.objs.size)
  have n1 := I.hok.fresh (Nat.le_succ s.heap.objs.size)
  have ask := h (s.heap.objs.size + 1) s.heap.objs.size n1 n0 (Nat.ne_of_lt (Nat.lt_succ_self _))
  have J := Inv.made (C := C) I
  have rr : Vals (V.ref (s.heap.objs.size + 1) :: vs) (Value.ref (s.heap.objs.size + 1) :: us) := .cons rfl r
  have ll : (Value.ref (s.heap.objs.size + 1) :: us).length = ps.length := (rr.length).symm.trans (F.len _ _ _ _ ask)
  have bb := hb _ (Value.ref (s.heap.objs.size + 1) :: us) J.kIn (by rw [List.append_nil]; exact ll)
  rw [List.append_nil] at bb
  have run := F.run _ X.stack _ _ ⟨Value.ref (s.heap.objs.size + 1) :: us, []⟩ (Value.ref (s.heap.objs.size + 1) :: us) _ _ (E σ) (hr.make C us []) (J.env0.make C us []) bb rr ask
  refine wpAny_call (make_map (f := f) I.kIn M.makes M.init (beq_iff_eq.mp M.fn) (codeAny_mono run fun res s' hq => ?_))
  match res, hq with
  | .error er, hq => exact hx pins _ _ er s' J hq
  | .ok (.ret u), hq =>
    obtain ⟨v, H', J', rv, ev, q3⟩ := J.after hq
    subst ev
    exact ⟨rv, V.ref (s.heap.objs.size + 1), H', J', rfl, q3⟩
theorem pe_makeS (M : Mk X.K C f) (F : FnOk X.prog X.w X.K X.mg X.base CX k f fd ps sp) (hr : Room (k + 1) X.A) (hg : Gl X x) (hm : X.mg x = some (.ref C)) (hb : Binds X.K fd ps []) (hx : ∀ σ, PassesAt CX X σ (E σ))
    (ha : PA X (e :: es) t) (hdb : (x == ("__debug__" : Str)) = false := by decide) (he : starEach (e :: es) X.env = (false, eval e X.env) :: starEach es X.env := by rfl) (hpl : (backTo pos (starEach es X.env)).any (·.1) = false := by rfl) :
    PE X (.Call (.Name x p) (e :: es) [] pos) (tMakeS C sp E t) :=
  ⟨fun pins s σ H Q I h => wpAny_Call_Name_kw (ld_glob I hg hm (PySem.W.callWith_K (h₀ := X.base) I.ok.mod.kin M.kp
    (thn (ha.run pos pins s σ H _ I h) fun us s1 ⟨vs, H1, I1, r, q⟩ => ⟨I1.kIn, made_out M F hr hb (hx σ) I1 r q⟩) he hpl) hdb)⟩
end
/-- the making of an error with one field -/
def sp_one (K : PySem.W.Frag) (C : Addr) (f : Str) : Sp := fun vs H Q _ => ∃ (a : Addr) (v : V), vs = [.ref a, v] ∧ H a = some (exo a C none) ∧ ∀ dx, H dx = none → dx ≠ a → Q .non (upd (upd H dx (exd dx [(f, v)])) a (exo a C (some dx)))
/-- what the top says of an error class with one field -/
structure One (K : PySem.W.Frag) (mg : Str → Option Value) (x q f : Str) (st : Stmt) (C fi : Addr) (fd : FuncData) : Prop where
  hm : mg x = some (.ref C)
  ox : OexC K C
  iC : PySem.W.findIn K (.ref C) "__init__" = some (some (.ref fi))
  tI : PySem.W.typeIn K (.ref fi) = some (.type "function")
  no : PySem.W.findIn K (.ref C) f = some none
  xf : XfC K C
  ex : PySem.W.exmOne K (.ref C) (.ref C) = some true
  fn : Fun K "__init__" q st fi fd
/-- behind the making and the letting go: all that stood stands, the field is there -/
theorem flown {H : Hp} {e dx C : Addr} {f : Str} {v : V} (he : H e = none) (hd : upd H e (exo e C none) dx = none) (ne : dx ≠ e) :
    Same H (upd (del (upd (upd (upd H e (exo e C none)) dx (exd dx [(f, v)])) e (exo e C (some dx))) e) dx (.xd [(f, v)])) := fun b o hb => by
  have be : b ≠ e := ne_of_none hb he
  have hd' : H dx = none := by
    rw [upd_ne ne] at hd
    exact hd
  have bd : b ≠ dx := ne_of_none hb hd'
  rw [upd_ne bd, del_ne be, upd_ne be, upd_ne bd, upd_ne be]
  exact hb
end Nm
namespace Nm
open PySem PySem.Spec PyProof.Rows L2
/-- t * 0 is () -/
theorem tuple_mul0 (l : Addr) (items : Array Value) (n : Nat) (dd : Option Addr) (sl : Array (Option Value)) (u : Tok) (hne : items.isEmpty = false) :
    Meets (Builtin.«tuple.__mul__» ⟨[.ref l, .int 0 u], []⟩) (fun _ R s => s.heap.get? l = some { cls := .type "tuple", dict := dd, data := .seq items n, slots := sl } ∧ ∀ tk, R (.ok (.ret (Value.ref s.heap.objs.size))) { s with heap := s.heap.push { cls := .type "tuple", data := .seq #[] }, toks := tk }) :=
  .of_wp fun prog w A R s h => by
    obtain ⟨hp, g, d, tk, os⟩ := s
    obtain ⟨hl, h⟩ := h
    have f1 := AutoSeq1.idx_int
    have c0 : (decide ((0 : Int) < -(2 ^ 63)) || decide ((0 : Int) ≥ 2 ^ 63)) = false := by decide
    have c1 : (items.isEmpty || (0 : Int) == 1) = false := by rw [hne]; rfl
    have c2 : (decide ((0 : Int) ≤ 0) || items.isEmpty) = true := by rw [hne]; rfl
    wp_walk using wpAny_loadPart' hl
    exact ⟨_, rfl, h _⟩
def rRep0 (K : PySem.W.Frag) : R2 := fun x y H Q => ∃ l xs, x = .ref l ∧ y = .int 0 ∧ SqT K H l xs ∧ xs ≠ [] ∧ ∀ p, H p = none → Q (.ref p) (upd H p (.tup []))
def rMulS : R2 := fun x y H Q => ∃ (z : Str) (k : Int), x = .str z ∧ y = .int k ∧ 2 ≤ k ∧ k ≤ 1000 ∧ 1 ≤ z.length ∧ z.length ≤ 1000 ∧ (⟨(List.replicate k.toNat z.cps).foldl (· ++ ·) #[]⟩ : Str).length ≤ 1000000 ∧ Q (.str ⟨(List.replicate k.toNat z.cps).foldl (· ++ ·) #[]⟩) H
section
variable {X : Cx}
theorem op_rep0 : OpR X (binaryOp .Mult) (rRep0 X.K) := by
  intro pins s σ H x y v u Q I rx ry h
  obtain ⟨l, xs, rfl, rfl, hT, hne, q⟩ := h
  cases rx
  obtain ⟨t, rfl⟩ := ry
  obtain ⟨its, r, ⟨⟨cls, dd, data, sl⟩, ho, hc, n, hd⟩, hs⟩ := I.tuple hT
  simp only at hc hd
  subst hc hd
  have ne : its.toArray.isEmpty = false := by
    cases its with
    | nil =>
      cases r
      exact absurd rfl hne
    | cons a b => rfl
  refine wpAny_binaryOp_repeat_ref (T := "tuple") (U := "int") (by decide) ⟨_, ho, rfl⟩ (fun s' => typeIs_int s' 0 t) noFill_tuple_mul F.fills_int_mul F.slot_int_rmul repeat_tuple F.slot_int_index.lookup
    (call_meets F.slot_int_rmul (typeIs_int s 0 t) F.entry_int_rmul (F.args_int_rmul_2 _ _) (int_rmul_tuple 0 t l its.toArray n dd sl)
      ⟨ho, rfl, ⟨_, ho, rfl⟩, call_meets F.slot_tuple_mul ⟨_, ho, rfl⟩ F.entry_tuple_mul (F.args_tuple_mul_2 _ _) (tuple_mul0 l its.toArray n dd sl t ne) ⟨ho, fun tk => ?_⟩⟩)
  refine ⟨.ref s.heap.objs.size, upd H s.heap.objs.size (.tup []), ?_, rfl, q _ (I.hok.fresh (Nat.le_refl _))⟩
  exact I.laid (t' := tk) (o := .tup []) (fun b ob q => Heap.get?_push_of_some _ q) (Nat.le_refl _) ⟨Nat.zero_le _, [], .nil, IsTup.new _ _⟩
theorem op_mulS : OpR X (binaryOp .Mult) rMulS := by
  intro pins s σ H x y v u Q I rx ry h
  obtain ⟨z, k, rfl, rfl, k1, k2, z1, z2, lz, q⟩ := h
  obtain ⟨t, rfl⟩ := rx
  obtain ⟨t2, rfl⟩ := ry
  have ne : ¬ k < 1 := by omega
  have c : (k == 1 || z.length == 0) = false := by
    rw [Bool.or_eq_false_iff]
    exact ⟨beq_eq_false_iff_ne.mpr (by omega), beq_eq_false_iff_ne.mpr (by omega)⟩
  refine P.mul_str ?_ (fun _ _ => ?_) (fun _ _ => ?_) ?_
  · rw [decide_eq_false (show ¬ (k < -(2 ^ 63 : Int)) by omega), decide_eq_false (show ¬ (k ≥ 2 ^ 63) by omega)]
    rfl
  · have h1 : (2 ^ 63 - 1 : Int) / k ≥ 1000 := (Int.le_ediv_iff_mul_le (by omega)).mpr (by omega)
    omega
  · have h1 : z.length * k.toNat ≤ 1000 * 1000 := Nat.mul_le_mul z2 (by omega)
    unfold Builtin.Str.tooLong
    first
      | exact decide_eq_false (by rw [sizeLine_eq]; omega)
      | (simp only [decide_eq_false_iff_not]; rw [sizeLine_eq]; omega)
      | (simp [sizeLine_eq]; omega)
  · rw [if_neg ne, c, if_neg Bool.false_ne_true]
    exact ⟨by rw [sizeLine_eq]; omega, .str _, H, I.tok _, ⟨_, rfl⟩, q⟩
end
end Nm
namespace Nm
open PySem PySem.Spec PyProof.Rows L2
/-! ### an error of its own class that keeps nothing: C(), by an __init__ that is a def -/
section
variable {X : Cx} {pins : List (Addr × Obj)} {σ : L2.St}
theorem bare_end {H1 H2 : Hp} {Q : XK} {hp hp2 h2 : Heap} {g1 g2 : Array GenState} {d1 d2 : Drawn} {t1 t2 : Nat} {os1 os2 : OsState} {a C : Addr} (T : Raises X (.ref C)) (I1 : Inv X pins σ H1 ⟨hp, g1, d1, t1, os1⟩)
    (new : hp.objs.size ≤ a) (kp : ∀ b o, hp.get? b = some o → hp2.get? b = some o) (un : Un (frs X.stack) [] (upd H1 a (exo a C none)) H2 hp2 h2) (hok : HOk X.prog X.w H2 h2) (ho : os2 = os1) (hb : AllBare g2)
    (ea : H2 a = some (exo a C none)) (q : Q (.ref C) none (del H2 a)) : MkP X pins σ Q (.ref a) ⟨h2, g2, d2, t2, os2⟩ := by
  obtain ⟨t0, hoe⟩ := exo_at hok ea
  have hn : H1 a = none := I1.hok.fresh new
  obtain ⟨G, in1, out1⟩ := restrict h2 fun b => decide (b ≠ a)
  have same : ∀ b, b ≠ a → G.get? b = h2.get? b := fun b z => in1 b (decide_eq_true z)
  have gone : G.get? a = none := out1 a (by simp)
  have old : ∀ {b : Addr} {o : Obj}, hp.get? b = some o → b ≠ a := fun {b o} z => Nat.ne_of_lt (Nat.lt_of_lt_of_le (Heap.lt_size z) new)
  have still : ∀ {b : Addr}, b ≠ a → H1 b = none → upd H1 a (exo a C none) b = none := fun {b} z n => (upd_ne z).trans n
  have U : Un (frs X.stack) [] H1 (del H2 a) hp G := {
    keep := fun b o z n hf hx => (same b (old z)).trans (un.keep b o (kp b o z) (still (old z) n) hf hx)
    slot := fun b o z n hf hx => by
      obtain w := un.slot b o (kp b o z) (still (old z) n) hf hx
      rw [same b (old z)]
      exact w
    free := fun b o z n hx => (del_ne (old z)).trans (un.free b o (kp b o z) (still (old z) n) hx)
    there := fun b o z hx => by
      have w := un.there b o (kp b o z) hx
      rw [same b (old z)]
      exact w
    tups := fun b xs z => (del_ne (ne_of_none z hn)).trans (un.tups b xs ((upd_ne (ne_of_none z hn)).trans z))
    frzs := fun b o v z => (del_ne (ne_of_none z hn)).trans (un.frzs b o v ((upd_ne (ne_of_none z hn)).trans z))
    tbls := fun b us z => by
      obtain ⟨more, w⟩ := un.tbls b us ((upd_ne (ne_of_none z hn)).trans z)
      exact ⟨more, (del_ne (ne_of_none z hn)).trans w⟩ }
  have hok3 : HOk X.prog X.w (del H2 a) G := fun b o z => by
    have hba : b ≠ a := fun e => by
      rw [e, del_same] at z
      cases z
    rw [del_ne hba] at z
    have apart : ∀ {c : Addr}, H2 c = some (.own b) → c ≠ a := fun {c} hc => at_ne ea hc exo_own
    exact (hok b o z).stay (fun c v hc y => (same c (hc.elim (fun e => e ▸ hba) apart)).trans y)
      (fun c hc => (del_ne (apart hc)).trans hc) (fun c xs hc => (del_ne (at_ne ea hc exo_tup)).trans hc)
  have J : Inv X pins σ (del H2 a) ⟨G, g2, d2, t2, os2⟩ := I1.call' (ch := []) ho U hok3 hb (fun b z => absurd z (by simp))
  refine ⟨a, _, _, ⟨G, g2, d2, t2, os2⟩, _, .ref C, none, rfl, J, fun b o z => ?_, gone, hoe, ⟨rfl, rfl⟩, rfl, rfl, del_same, rfl, hb, T, q⟩
  by_cases hba : b = a
  · rw [hba, gone] at z
    cases z
  · exact (same b hba).symm.trans z
/-- C(), C's own __init__ keeping sp -/
def tMkB (C : Addr) (sp : Sp) : L2.St → Hp → XK → Prop := fun _ H Q => ∀ a, H a = none → sp [.ref a] (upd H a (exo a C none)) (fun v H2 => v = .non ∧ H2 a = some (exo a C none) ∧ Q (.ref C) none (del H2 a)) (fun _ _ _ => False)
theorem pmk_bare {CX : CXT} {x : Str} {p pos : Pos} {C fI : Addr} {k : Nat} {fd : FuncData} {ps : List Str} {sp : Sp} (T : OexC X.K C) (iC : PySem.W.findIn X.K (.ref C) "__init__" = some (some (.ref fI))) (tI : PySem.W.typeIn X.K (.ref fI) = some (.type "function"))
    (F1 : FnOk X.prog X.w X.K X.mg X.base CX k fI fd ps sp) (hr : Room (k + 1) X.A) (hb : Binds X.K fd ps []) (hx : Passes CX X (fun _ _ _ => False)) (hg : Gl X x) (hm : X.mg x = some (.ref C)) (hdb : (x == ("__debug__" : Str)) = false := by decide) :
    PMk X (.Call (.Name x p) [] [] pos) (tMkB C sp) := by
  intro pins s σ H Q I h
  obtain ⟨nm, qn, N, bs, bm, sn, sub, ab, col, dd, k0, k1, k2, k3, k5, hC, hbm⟩ := T.cls
  refine wpAny_Call_Name_kw (ld_glob I hg hm ?_ hdb)
  refine PySem.W.callWith_K0 I.kIn T.kC ?_
  show wpAny _ _ (call (.ref C) []) _ _ _
  obtain ⟨hp, g, dr, tk, os⟩ := s
  have up1 : hp.objs.size ≤ hp.objs.size + 1 := Nat.le_succ _
  have hn : H (hp.objs.size + 1) = none := I.hok.fresh up1
  have hq := h (hp.objs.size + 1) hn
  have kk : ∀ b o, hp.get? b = some o → ((hp.push (PySem.W.kdv_tup [])).push (PySem.HandSPX.excO C hp.objs.size)).get? b = some o := fun b o z => Heap.get?_push_of_some _ (Heap.get?_push_of_some _ z)
  have made : ((hp.push (PySem.W.kdv_tup [])).push (PySem.HandSPX.excO C hp.objs.size)).get? (hp.objs.size + 1) = some (PySem.HandSPX.excO C hp.objs.size) := by heap_get
  have I2 : Inv X pins σ (upd H (hp.objs.size + 1) (exo (hp.objs.size + 1) C none)) ⟨(hp.push (PySem.W.kdv_tup [])).push (PySem.HandSPX.excO C hp.objs.size), g, dr, tk, os⟩ :=
    I.laid (t' := tk) (a := hp.objs.size + 1) (o := exo (hp.objs.size + 1) C none) kk up1 (exo_ok made)
  have r2 : Vals [V.ref (hp.objs.size + 1)] [Value.ref (hp.objs.size + 1)] := .cons rfl .nil
  have hl : ([Value.ref (hp.objs.size + 1)] : List Value).length = ps.length := by
    have z := r2.length
    rw [F1.len _ _ _ _ hq] at z
    exact z.symm
  refine wpAny_call (PySem.HandSPX.call_own F.excBase_ValueError (fun Y => PySem.HandSPX.refsVE_contains Y bm hbm) (I.kIn _ _ hC) (PySem.W.looks_findIn I.kIn iC) (fun self => PySem.W.bind_fn I.kIn self tI) (Nat.zero_le _)
    (codeAny_mono (F1.run _ X.stack _ _ ⟨[Value.ref (hp.objs.size + 1)], []⟩ [Value.ref (hp.objs.size + 1)] _ _ (fun _ _ _ => False) (hr.make C [] []) (I2.env0.make C [] []) (hb _ [Value.ref (hp.objs.size + 1)] I2.kIn hl) r2 hq) fun r s' hq' => ?_))
  match r, hq' with
  | .error er, hq' => exact hx pins σ _ _ er s' I2 hq'
  | .ok (.ret u), hq' =>
    obtain ⟨v, H2, os2, bare2, un2, hok2, rv, ev, ea, q2⟩ := hq'
    subst ev
    obtain ⟨h2, g2, d2, t2, os'⟩ := s'
    exact ⟨rv, bare_end (raises_own T.exC T.tyC) I up1 kk un2 hok2 os2 bare2 ea q2⟩
end
/-- the making of an error that keeps nothing -/
def sp_bare (K : PySem.W.Frag) : Sp := fun vs H Q _ => ∃ (a C : Addr), vs = [.ref a] ∧ OexC K C ∧ H a = some (exo a C none) ∧ Q .non H
/-- what the top says of such a class; fi the def that makes it -/
structure Bare (K : PySem.W.Frag) (mg : Str → Option Value) (x : Str) (C fi : Addr) : Prop where
  hm : mg x = some (.ref C)
  ox : OexC K C
  iC : PySem.W.findIn K (.ref C) "__init__" = some (some (.ref fi))
  tI : PySem.W.typeIn K (.ref fi) = some (.type "function")
theorem bare_sp {K : PySem.W.Frag} {H : Hp} {C a : Addr} {Q : XK} (ox : OexC K C) (q : ∀ H', Same H H' → Q (.ref C) none H') (hn : H a = none) :
    sp_bare K [.ref a] (upd H a (exo a C none)) (fun v H2 => v = .non ∧ H2 a = some (exo a C none) ∧ Q (.ref C) none (del H2 a)) (fun _ _ _ => False) :=
  ⟨a, C, rfl, ox, upd_same, rfl, upd_same, q _ fun b o hb => by
    have ne := ne_of_none hb hn
    rw [del_ne ne, upd_ne ne]
    exact hb⟩
end Nm
namespace Nm
open PySem PySem.Spec PyProof.Rows L2 HT
/-! ### t[::-1], t a tuple -/
theorem adjust_rev (n : Nat) : Builtin.Slice.sliceAdjust none none (-1) (n : Int) = ((n : Int) - 1, -1) := by
  unfold Builtin.Slice.sliceAdjust
  simp
theorem places_rev (n : Nat) (h : 1 ≤ n) : Builtin.Slice.slicePlaces ((n : Int) - 1) (-1) (-1) = n := by
  unfold Builtin.Slice.slicePlaces
  have h1 : ¬ ((-1 : Int) > 0) := by omega
  simp only [h1, if_false]
  split
  · rw [show (- -1 : Int) = 1 by decide, Int.ediv_one]
    omega
  · omega
theorem fmap_some {α β : Type} {f : α → Option β} {g : α → β} : ∀ {l : List α}, (∀ m ∈ l, f m = some (g m)) → l.filterMap f = l.map g
  | [], _ => rfl
  | m :: l, h => by
    rw [List.filterMap_cons, h m List.mem_cons_self, List.map_cons]
    show g m :: List.filterMap f l = _
    rw [fmap_some fun z hz => h z (List.mem_cons_of_mem _ hz)]
theorem pick_rev (xs : Array Value) : ((List.range xs.size).filterMap fun (m : Nat) => xs[(((xs.size : Nat) : Int) - 1 + (m : Int) * -1).toNat]?).toArray = xs.toList.reverse.toArray := by
  congr 1
  apply List.ext_getElem?
  have e : (List.range xs.size).filterMap (fun (m : Nat) => xs[(((xs.size : Nat) : Int) - 1 + (m : Int) * -1).toNat]?) = (List.range xs.size).map fun m => xs.toList.reverse.getD m default := by
    refine fmap_some fun m hm => ?_
    have hm := List.mem_range.mp hm
    rw [show (((xs.size : Nat) : Int) - 1 + (m : Int) * -1).toNat = xs.size - 1 - m by omega]
    rw [List.getD_eq_getElem?_getD, List.getElem?_reverse (by rw [Array.length_toList]; exact hm), Array.length_toList, Array.getElem?_toList, Array.getElem?_eq_getElem (by omega)]
    rfl
  intro i
  rw [e, List.getElem?_map]
  by_cases c : i < xs.size
  · rw [List.getElem?_range c, List.getElem?_eq_getElem (by rw [List.length_reverse, Array.length_toList]; exact c)]
    show some (xs.toList.reverse.getD i default) = _
    rw [List.getD_eq_getElem?_getD, List.getElem?_eq_getElem (by rw [List.length_reverse, Array.length_toList]; exact c)]
    rfl
  · rw [List.getElem?_eq_none (by rw [List.length_range]; omega), List.getElem?_eq_none (by rw [List.length_reverse, Array.length_toList]; omega)]
    rfl
section
variable {prog : Program} {w : World} {A : Around} {E : Value → Shared → Prop} {s : Shared}
theorem sliceApplied_rev {sl : Addr} {vs : Value} {n : Nat} {Q : Int × Int × Nat → Shared → Prop} (hs : s.heap.IsSliceOf sl .none .none vs) (ps : IsPart vs (some (-1))) (hn : 1 ≤ n)
    (h : Q ((n : Int) - 1, -1, n) s) : wpAny (model prog w) A (Builtin.Slice.sliceApplied (.ref sl) (pure (n : Int))) Q E s := by
  obtain ⟨os, hos, hcs, hds⟩ := id hs
  unfold Builtin.Slice.sliceApplied Builtin.Slice.sliceFields
  refine wpAny_bind (wpAny_bind (wpAny_field hos hds (x := .none) rfl (wpAny_bind (wpAny_field hos hds (x := .none) rfl (wpAny_bind (wpAny_field hos hds (x := vs) rfl (wpAny_pure ?_)))))))
  refine wpAny_bind (slicePart_ ps ?_)
  show wpAny _ _ (if ((-1 : Int) == 0) = true then _ else _) _ _ s
  rw [if_neg (by decide)]
  refine wpAny_bind (slicePart_ .none (wpAny_bind (slicePart_ .none (wpAny_bind (wpAny_pure ?_)))))
  show wpAny _ _ (match Builtin.Slice.sliceAdjust none none (-1) (n : Int) with | (lo, hi) => pure (lo, (-1 : Int), Builtin.Slice.slicePlaces lo hi (-1))) _ _ s
  rw [adjust_rev n]
  show wpAny _ _ (pure ((n : Int) - 1, (-1 : Int), Builtin.Slice.slicePlaces ((n : Int) - 1) (-1) (-1))) _ _ s
  rw [places_rev n hn]
  exact wpAny_pure h
theorem getItem_tuple_rev {t sl : Addr} {items : Array Value} {vs : Value} {Q : Value → Shared → Prop} (ht : IsTup s.heap t items) (hs : s.heap.IsSliceOf sl .none .none vs) (ps : IsPart vs (some (-1))) (h1 : 1 ≤ items.size)
    (h : Q (.ref s.heap.objs.size) { s with heap := s.heap.push { cls := .type "tuple", data := .seq items.toList.reverse.toArray } })
    (hsz : items.size ≤ sizeLine) : wpAny (model prog w) A (getItem (.ref t) (.ref sl)) Q E s := by
  have htake : sizeOk (.seq items.toList.reverse.toArray) := by
    show items.toList.reverse.toArray.size ≤ sizeLine
    rw [List.size_toArray, List.length_reverse, Array.length_toList]
    exact hsz
  obtain ⟨os, hos, hcs, hds⟩ := id hs
  have hTs : s.TypeIs (.ref sl) "slice" := ⟨os, hos, hcs⟩
  unfold getItem
  try with_reducible refine wpAny_holding ?_
  first | refine wpAny_bind (wpAny_pure ?_) | skip
  refine wpAny_bind (wpAny_sequenceKey ht.typeIs (by decide) ?_)
  refine wpAny_bind (wpAny_callSpecial?_slot (name := Str.ofString "__getitem__") ht.typeIs PyProof.Rows.slot_tuple_getitem
    (wpAny_call_entry PyProof.Rows.slot_tuple_getitem ht.typeIs entry_tuple_getitem ?_ (args_tuple_getitem _ _)))
  show wpAny _ _ (Builtin.Tuple.tupleItemsOf (.ref t) >>= _) _ _ s
  refine wpAny_bind (tupleItemsOf_ ht ?_)
  refine wpAny_bind (wpAny_typeOf hTs ?_)
  rw [if_pos (by decide)]
  refine wpAny_bind (sliceApplied_rev (n := items.size) hs ps h1 ?_)
  have hno : ¬ (((((items.size : Nat) : Int) - 1) == 0 && (-1 : Int) == 1 && items.size == items.size) = true) := by
    intro q
    rw [Bool.and_eq_true, Bool.and_eq_true] at q
    exact absurd q.1.2 (by decide)
  show wpAny _ _ (if ((((items.size : Nat) : Int) - 1) == 0 && (-1 : Int) == 1 && items.size == items.size) = true then _ else _) _ _ s
  rw [if_neg hno, pick_rev]
  first
    | exact wpAny_bind (m := Builtin.Tuple.tupleExact _) (wpAny_newObj_type (wpAny_pure ⟨_, rfl, wpAny_pure h⟩) htake)
    | exact wpAny_bind (m := Builtin.Tuple.tupleExact _) (wpAny_newObj_type (wpAny_bind (wpAny_pure (wpAny_pure ⟨_, rfl, wpAny_pure h⟩))) htake)
    | exact wpAny_bind (wpAny_bind (m := Builtin.Tuple.tupleExact _) (wpAny_newObj_type (wpAny_pure (wpAny_pure ⟨_, rfl, wpAny_pure h⟩)) htake))
    | exact wpAny_bind (wpAny_bind (m := Builtin.Tuple.tupleExact _) (wpAny_newObj_type (wpAny_pure ⟨_, rfl, wpAny_pure h⟩) htake))
end
variable {X : Cx}
def tRevT (K : PySem.W.Frag) (te : TE) : TE := fun σ H Q => te σ H fun x H1 => ∃ a xs, x = .ref a ∧ SqT K H1 a xs ∧ xs ≠ [] ∧ ∀ p, H1 p = none → Q (.ref p) (upd H1 p (.tup xs.reverse))
theorem pe_revT {e : Expr} {te : TE} {k : Nat} {p1 p2 p3 pos : Pos} (he : PE X e te) : PE X (.Subscript e (.Slice none none (some (.UnaryOp .USub (.Constant (.int 1) k p1) p2)) p3) pos) (tRevT X.K te) := by
  refine ⟨fun pins s σ H Q I h => ?_⟩
  refine Subscript_ (thn (he.run pins s σ H _ I h) fun v s1 ⟨x, H1, I1, r1, q1⟩ => ?_)
  obtain ⟨a, xs, ex, hx, hne, q⟩ := q1
  subst ex
  cases r1
  have hst : PO X (some (.UnaryOp .USub (.Constant (.int 1) k p1) p2)) (tPart (tUn (rU fun i => .int (-i)) (tC (.int 1)))) := po_some (pe_un un_neg pe_int)
  refine wpAny_Slice (thn (po_none.run pins s1 σ H1 (fun o H2 => o = none ∧ H2 = H1) I1 ⟨rfl, rfl⟩) fun vl s2 ⟨l, H2, I2, pl, el, e2⟩ => ?_)
  subst el e2
  refine thn (po_none.run pins s2 σ H2 (fun o H3 => o = none ∧ H3 = H2) I2 ⟨rfl, rfl⟩) fun vu s3 ⟨u, H3, I3, pu, eu, e3⟩ => ?_
  subst eu e3
  refine thn (hst.run pins s3 σ H3 (fun o H4 => o = some (-1) ∧ H4 = H3) I3 ⟨1, rfl, -1, rfl, rfl, rfl⟩) fun vs s4 ⟨o, H4, I4, ps, eo, e4⟩ => ?_
  subst eo e4
  cases pl
  cases pu
  have I5 : Inv X pins σ H4 { s4 with heap := s4.heap.push { cls := .type "slice", data := .fields #[.none, .none, vs] } } := I4.kept (t' := s4.toks) fun b ob q => Heap.get?_push_of_some _ q
  obtain ⟨its, r, ht, hz⟩ := I5.tuple hx
  have hlen := r.length
  show wpAny (model X.prog X.w) X.A (subscriptTail e (.Slice none none (some (.UnaryOp .USub (.Constant (.int 1) k p1) p2)) p3) (.ref a) (.ref s4.heap.objs.size)) (EP X pins σ Q) X.xe { s4 with heap := s4.heap.push { cls := .type "slice", data := .fields #[.none, .none, vs] } }
  refine tail_any (ops := [.ref a, .ref s4.heap.objs.size]) ht.typeIs (PyProof.Rows.slot_tuple_getitem.lookup) ?_ (by with_unfolding_all rfl)
  have l1 : 1 ≤ its.toArray.size := by
    rw [List.size_toArray, ← hlen]
    exact List.length_pos_iff.mpr hne
  refine getItem_tuple_rev ht (Heap.IsSliceOf.new _ .none .none vs) ps l1 ?_ (by rw [List.size_toArray]; omega)
  refine ⟨.ref _, _, I5.laid (t' := s4.toks) (o := .tup xs.reverse) (fun b ob q => Heap.get?_push_of_some _ q) (Nat.le_refl _) ?_, rfl, q _ (I5.hok.fresh (Nat.le_refl _))⟩
  exact ⟨by rw [List.length_reverse]; exact hz, _, r.reverse, IsTup.new _ _⟩
end Nm
namespace K01
open PySem L2
def top (i : Nat) : Stmt := PySem.Challenge.pw_untoldgames_k01_rows_and_games_judged.main.body.getD i (.Pass ⟨0, 0, 0, 0⟩)
abbrev s_is_integer : Stmt := top 6
abbrev s_is_within : Stmt := top 7
abbrev s_is_side : Stmt := top 8
abbrev s_is_lettered : Stmt := top 9
abbrev s_is_name : Stmt := top 11
abbrev s_is_word : Stmt := top 10
abbrev s_is_words : Stmt := top 12
abbrev s_is_board : Stmt := top 22
abbrev s_names_of : Stmt := top 23
abbrev s_Hall___init__ : Stmt := inClass (top 24) 0
abbrev s_HallError___init__ : Stmt := inClass (top 1) 0
abbrev s_is_row : Stmt := top 13
abbrev s_is_ascending : Stmt := top 14
abbrev s_mover : Stmt := top 17
abbrev s_is_game : Stmt := top 18
abbrev s__law_tape : Stmt := top 26
abbrev s__law_pick : Stmt := top 27
abbrev s__law_is : Stmt := top 28
abbrev s__law_flag : Stmt := top 29
abbrev s__law_some : Stmt := top 30
abbrev s__law_word : Stmt := top 31
abbrev s__law_game : Stmt := top 32
abbrev s__law_is_word : Stmt := top 33
abbrev s__law_is_row : Stmt := top 34
abbrev s__law_is_game : Stmt := top 35
abbrev s__law_mover : Stmt := top 36
abbrev s__law_odd_word : Stmt := top 37
abbrev s__law_bent : Stmt := top 38
abbrev s__law_deep : Stmt := top 39
abbrev s_law : Stmt := top 40
theorem sc_is_integer : FnScope ["thing"] ["thing"] (defScope s_is_integer) := ⟨rfl, rfl, rfl, by decide +kernel, rfl, by decide +kernel, by decide +kernel⟩
theorem sc_is_within : FnScope ["thing", "low", "high"] ["thing", "low", "high"] (defScope s_is_within) := ⟨rfl, rfl, rfl, by decide +kernel, rfl, by decide +kernel, by decide +kernel⟩
theorem sc_is_side : FnScope ["thing"] ["thing"] (defScope s_is_side) := ⟨rfl, rfl, rfl, by decide +kernel, rfl, by decide +kernel, by decide +kernel⟩
theorem sc_is_lettered : FnScope ["thing", "most", "sign"] ["thing", "most"] (defScope s_is_lettered) := ⟨rfl, rfl, rfl, by decide +kernel, rfl, by decide +kernel, by decide +kernel⟩
theorem sc_is_name : FnScope ["thing"] ["thing"] (defScope s_is_name) := ⟨rfl, rfl, rfl, by decide +kernel, rfl, by decide +kernel, by decide +kernel⟩
theorem sc_is_word : FnScope ["thing"] ["thing"] (defScope s_is_word) := ⟨rfl, rfl, rfl, by decide +kernel, rfl, by decide +kernel, by decide +kernel⟩
theorem sc_is_words : FnScope ["thing", "most", "word"] ["thing", "most"] (defScope s_is_words) := ⟨rfl, rfl, rfl, by decide +kernel, rfl, by decide +kernel, by decide +kernel⟩
theorem sc_is_board : FnScope ["thing", "name", "side", "begun"] ["thing"] (defScope s_is_board) := ⟨rfl, rfl, rfl, by decide +kernel, rfl, by decide +kernel, by decide +kernel⟩
theorem sc_names_of : FnScope ["boards", "board"] ["boards"] (defScope s_names_of) := ⟨rfl, rfl, rfl, by decide +kernel, rfl, by decide +kernel, by decide +kernel⟩
theorem sc_Hall___init__ : FnScope ["self", "boards", "at", "board"] ["self", "boards"] (defScope s_Hall___init__) := ⟨rfl, rfl, rfl, by decide +kernel, rfl, by decide +kernel, by decide +kernel⟩
theorem sc_HallError___init__ : FnScope ["self"] ["self"] (defScope s_HallError___init__) := ⟨rfl, rfl, rfl, by decide +kernel, rfl, by decide +kernel, by decide +kernel⟩
theorem sc_is_row : FnScope ["thing"] ["thing"] (defScope s_is_row) := ⟨rfl, rfl, rfl, by decide +kernel, rfl, by decide +kernel, by decide +kernel⟩
theorem sc_is_ascending : FnScope ["things", "one", "other"] ["things"] (defScope s_is_ascending) := ⟨rfl, rfl, rfl, by decide +kernel, rfl, by decide +kernel, by decide +kernel⟩
theorem sc_mover : FnScope ["row"] ["row"] (defScope s_mover) := ⟨rfl, rfl, rfl, by decide +kernel, rfl, by decide +kernel, by decide +kernel⟩
theorem sc_is_game : FnScope ["thing", "rows", "row"] ["thing"] (defScope s_is_game) := ⟨rfl, rfl, rfl, by decide +kernel, rfl, by decide +kernel, by decide +kernel⟩
theorem sc__law_tape : FnScope ["script"] ["script"] (defScope s__law_tape) := ⟨rfl, rfl, rfl, by decide +kernel, rfl, by decide +kernel, by decide +kernel⟩
theorem sc__law_pick : FnScope ["tape", "size", "digit", "cell", "mixed"] ["tape", "size"] (defScope s__law_pick) := ⟨rfl, rfl, rfl, by decide +kernel, rfl, by decide +kernel, by decide +kernel⟩
theorem sc__law_is : FnScope ["told", "due", "one", "two"] ["told", "due"] (defScope s__law_is) := ⟨rfl, rfl, rfl, by decide +kernel, rfl, by decide +kernel, by decide +kernel⟩
theorem sc__law_flag : FnScope ["told", "due"] ["told", "due"] (defScope s__law_flag) := ⟨rfl, rfl, rfl, by decide +kernel, rfl, by decide +kernel, by decide +kernel⟩
theorem sc__law_some : FnScope ["tape", "things"] ["tape", "things"] (defScope s__law_some) := ⟨rfl, rfl, rfl, by decide +kernel, rfl, by decide +kernel, by decide +kernel⟩
theorem sc__law_word : FnScope ["tape", "few"] ["tape"] (defScope s__law_word) := ⟨rfl, rfl, rfl, by decide +kernel, rfl, by decide +kernel, by decide +kernel⟩
theorem sc__law_game : FnScope ["tape", "most", "rows", "turn", "row", "longer"] ["tape", "most"] (defScope s__law_game) := ⟨rfl, rfl, rfl, by decide +kernel, rfl, by decide +kernel, by decide +kernel⟩
theorem sc__law_is_word : FnScope ["thing", "most", "sign"] ["thing", "most"] (defScope s__law_is_word) := ⟨rfl, rfl, rfl, by decide +kernel, rfl, by decide +kernel, by decide +kernel⟩
theorem sc__law_is_row : FnScope ["thing", "most", "word"] ["thing", "most"] (defScope s__law_is_row) := ⟨rfl, rfl, rfl, by decide +kernel, rfl, by decide +kernel, by decide +kernel⟩
theorem sc__law_is_game : FnScope ["thing", "known", "row", "one", "other"] ["thing"] (defScope s__law_is_game) := ⟨rfl, rfl, rfl, by decide +kernel, rfl, by decide +kernel, by decide +kernel⟩
theorem sc__law_mover : FnScope ["row", "told"] ["row"] (defScope s__law_mover) := ⟨rfl, rfl, rfl, by decide +kernel, rfl, by decide +kernel, by decide +kernel⟩
theorem sc__law_odd_word : FnScope ["tape"] ["tape"] (defScope s__law_odd_word) := ⟨rfl, rfl, rfl, by decide +kernel, rfl, by decide +kernel, by decide +kernel⟩
theorem sc__law_bent : FnScope ["tape", "game", "kind", "at", "row", "one"] ["tape", "game"] (defScope s__law_bent) := ⟨rfl, rfl, rfl, by decide +kernel, rfl, by decide +kernel, by decide +kernel⟩
theorem sc__law_deep : FnScope ["kind", "found", "turn"] ["kind"] (defScope s__law_deep) := ⟨rfl, rfl, rfl, by decide +kernel, rfl, by decide +kernel, by decide +kernel⟩
theorem sc_law : FnScope ["script", "tape", "turn", "game", "thing", "row", "due", "many", "long", "wide", "one", "size", "odd", "k", "other"] ["script"] (defScope s_law) := ⟨rfl, rfl, rfl, by decide +kernel, rfl, by decide +kernel, by decide +kernel⟩
structure Txt (K : PySem.W.Frag) (mg : Str → Option Value) : Prop where
  d_is_integer : Nm.Top K mg "is_integer" s_is_integer
  d_is_within : Nm.Top K mg "is_within" s_is_within
  d_is_side : Nm.Top K mg "is_side" s_is_side
  d_is_lettered : Nm.Top K mg "is_lettered" s_is_lettered
  d_is_name : Nm.Top K mg "is_name" s_is_name
  d_is_word : Nm.Top K mg "is_word" s_is_word
  d_is_words : Nm.Top K mg "is_words" s_is_words
  d_is_board : Nm.Top K mg "is_board" s_is_board
  d_names_of : Nm.Top K mg "names_of" s_names_of
  d_is_row : Nm.Top K mg "is_row" s_is_row
  d_is_ascending : Nm.Top K mg "is_ascending" s_is_ascending
  d_mover : Nm.Top K mg "mover" s_mover
  d_is_game : Nm.Top K mg "is_game" s_is_game
  d__law_tape : Nm.Top K mg "_law_tape" s__law_tape
  d__law_pick : Nm.Top K mg "_law_pick" s__law_pick
  d__law_is : Nm.Top K mg "_law_is" s__law_is
  d__law_flag : Nm.Top K mg "_law_flag" s__law_flag
  d__law_some : Nm.Top K mg "_law_some" s__law_some
  d__law_word : Nm.Top K mg "_law_word" s__law_word
  d__law_game : Nm.Top K mg "_law_game" s__law_game
  d__law_is_word : Nm.Top K mg "_law_is_word" s__law_is_word
  d__law_is_row : Nm.Top K mg "_law_is_row" s__law_is_row
  d__law_is_game : Nm.Top K mg "_law_is_game" s__law_is_game
  d__law_mover : Nm.Top K mg "_law_mover" s__law_mover
  d__law_odd_word : Nm.Top K mg "_law_odd_word" s__law_odd_word
  d__law_bent : Nm.Top K mg "_law_bent" s__law_bent
  d__law_deep : Nm.Top K mg "_law_deep" s__law_deep
  d_law : Nm.Top K mg "law" s_law
  m_ValueError : mg "ValueError" = none
  m_all : mg "all" = none
  m_bool : mg "bool" = none
  m_enumerate : mg "enumerate" = none
  m_int : mg "int" = none
  m_isinstance : mg "isinstance" = none
  m_len : mg "len" = none
  m_list : mg "list" = none
  m_range : mg "range" = none
  m_sorted : mg "sorted" = none
  m_str : mg "str" = none
  m_tuple : mg "tuple" = none
  m_zip : mg "zip" = none
  g_MOST_BEGUN : ∃ u, mg "MOST_BEGUN" = some u ∧ RelV (.int 20) u
  g_MOST_BOARDS : ∃ u, mg "MOST_BOARDS" = some u ∧ RelV (.int 12) u
  g_MOST_ROWS : ∃ u, mg "MOST_ROWS" = some u ∧ RelV (.int 600) u
  g_MOST_WORDS : ∃ u, mg "MOST_WORDS" = some u ∧ RelV (.int 60) u
  cls_Hall : ∃ C f fd, Cls K C ∧ Mk K C f ∧ mg "Hall" = some (.ref C) ∧ Fun K "__init__" "Hall.__init__" s_Hall___init__ f fd ∧ NoAttr K C "boards" ∧ NoAttr K C "names"
  m_VE : mg "ValueError" = none
  vV : PySem.W.findCls K (.type "ValueError") (.type "type") "__init__" = some (.val (.builtin "ValueError.__init__"))
  err_NoRow : ∃ C fi fd, Nm.Bare K mg "NoRow" C fi ∧ PySem.W.exmOne K (.ref C) (.ref C) = some true ∧ Fun K "__init__" "HallError.__init__" s_HallError___init__ fi fd
  hall_K : ∀ C, mg "Hall" = some (.ref C) → Nm.HallC K C
end K01
namespace K01
open PySem L2 Nm
open C8 (Cal Mak pe_c pe_mk pe_gc)
open RZ (ItzT pi_zipA)
section
variable {P : Program} {w : World} {K : PySem.W.Frag} {mg : Str → Option Value} {base : Heap}
def sp_is_integer (K : PySem.W.Frag) : Sp := fun vs H Q _ => ∃ (x : V), vs = [x] ∧ TyI K H x ∧ Q (.bl (isInt x)) H
theorem c_is_integer (T : Txt K mg) : Cal P w K mg base 1 "is_integer" (sp_is_integer K) [] := by
  have sc := sc_is_integer
  refine cal_of T.d_is_integer sc (fun _ _ _ _ _ _ us hl => match us, hl with | [_], _ => rfl) (fun vs H Q E h => ?_) (fun f cdv A outer s H vs Q E hr h => ?_)
  · obtain ⟨x, rfl, _⟩ := h
    rfl
  · obtain ⟨x, rfl, h⟩ := h
    refine ⟨_, (pss_one (ps_ret (pe_and (pe_callB call_isi rfl T.m_isinstance (by decide +kernel) (pa_cons (pv 0) (pa_cons (pe_bltn (v := .ty "int") (u := .type "int") rfl T.m_int (by decide +kernel) rfl) pa_nil))) (pe_one (pe_not (pe_callB call_isi rfl T.m_isinstance (by decide +kernel) (pa_cons (pv 0) (pa_cons (pe_bltn (v := .ty "bool") (u := .type "bool") rfl T.m_bool (by decide +kernel) rfl) pa_nil)))))))), ?_⟩
    obtain ⟨⟨b, c, ⟨t, h1, h2⟩, ⟨u, h3, h4⟩, e⟩, q⟩ := h
    refine ⟨_, rfl, _, _, t, _, b, rfl, .ty _, h1, h2, b, rfl, ?_⟩
    cases b with
    | false =>
      refine iteF ?_
      rw [← e] at q
      exact q
    | true =>
      refine iteT ⟨_, rfl, _, _, u, _, c, rfl, .ty _, h3, h4, c, rfl, ?_⟩
      rw [← e] at q
      exact q
end
end K01
namespace K01
open PySem L2 Nm
open C8 (Cal Mak pe_c pe_mk pe_gc)
open RZ (ItzT pi_zipA)
section
variable {P : Program} {w : World} {K : PySem.W.Frag} {mg : Str → Option Value} {base : Heap}
def sp_is_within (K : PySem.W.Frag) : Sp := fun vs H Q _ => ∃ (x : V) (lo hi : Int), vs = [x, .int lo, .int hi] ∧ TyI K H x ∧ Q (.bl (within x lo hi)) H
theorem c_is_within (T : Txt K mg) : Cal P w K mg base 2 "is_within" (sp_is_within K) [] := by
  have C_is_integer := c_is_integer (P := P) (w := w) (base := base) T
  have sc := sc_is_within
  refine cal_of T.d_is_within sc (fun _ _ _ _ _ _ us hl => match us, hl with | [_, _, _], _ => rfl) (fun vs H Q E h => ?_) (fun f cdv A outer s H vs Q E hr h => ?_)
  · obtain ⟨x, lo, hi, rfl, _⟩ := h
    rfl
  · obtain ⟨x, lo, hi, rfl, h⟩ := h
    refine ⟨_, (pss_one (ps_ret (pe_and (pe_c C_is_integer hr (by omega) rfl (pa_cons (pv 0) pa_nil)) (pe_one (pe_chain op_le op_le (pv 1) (pv 0) (pv 2)))))), ?_⟩
    obtain ⟨ty, q⟩ := h
    refine ⟨_, rfl, x, rfl, ty, isInt x, rfl, ?_⟩
    cases x with
    | int n =>
      refine iteT ⟨_, rfl, _, rfl, lo, n, rfl, rfl, decide (lo ≤ n), rfl, ?_⟩
      by_cases c : lo ≤ n
      · rw [if_pos (decide_eq_true c)]
        refine ⟨_, rfl, n, hi, rfl, rfl, ?_⟩
        have e : within (.int n) lo hi = decide (n ≤ hi) := by
          show (decide (lo ≤ n) && decide (n ≤ hi)) = _
          rw [decide_eq_true c, Bool.true_and]
        rw [e] at q
        exact q
      · rw [if_neg (by rw [decide_eq_false c]; exact Bool.false_ne_true)]
        have e : within (.int n) lo hi = false := by
          show (decide (lo ≤ n) && decide (n ≤ hi)) = _
          rw [decide_eq_false c, Bool.false_and]
        rw [e] at q
        exact q
    | _ => exact iteF q
end
end K01
namespace K01
open PySem L2 Nm
open C8 (Cal Mak pe_c pe_mk pe_gc)
open RZ (ItzT pi_zipA)
section
variable {P : Program} {w : World} {K : PySem.W.Frag} {mg : Str → Option Value} {base : Heap}
def sp_is_side (K : PySem.W.Frag) : Sp := fun vs H Q _ => ∃ (x : V), vs = [x] ∧ ∃ tp d, At K tp H x d ∧ Q (.bl (intIn d 0 1)) H
theorem c_is_side (T : Txt K mg) : Cal P w K mg base 3 "is_side" (sp_is_side K) [] := by
  have C_is_within := c_is_within (P := P) (w := w) (base := base) T
  have sc := sc_is_side
  refine cal_of T.d_is_side sc (fun _ _ _ _ _ _ us hl => match us, hl with | [_], _ => rfl) (fun vs H Q E h => ?_) (fun f cdv A outer s H vs Q E hr h => ?_)
  · obtain ⟨x, rfl, _⟩ := h
    rfl
  · obtain ⟨x, rfl, h⟩ := h
    refine ⟨_, (pss_one (ps_ret (pe_c C_is_within hr (by omega) rfl (pa_cons (pv 0) (pa_cons pe_int (pa_cons pe_int pa_nil)))))), ?_⟩
    obtain ⟨tp0, d, hA, q⟩ := h
    refine ⟨_, rfl, x, 0, 1, rfl, hA.tyi, ?_⟩
    rw [hA.within]
    exact q
end
end K01
namespace K01
open PySem L2 Nm
open C8 (Cal Mak pe_c pe_mk pe_gc)
open RZ (ItzT pi_zipA)
section
variable {P : Program} {w : World} {K : PySem.W.Frag} {mg : Str → Option Value} {base : Heap}
def sp_is_lettered (K : PySem.W.Frag) : Sp := fun vs H Q _ => ∃ (x : V) (most : Int), vs = [x, .int most] ∧ ∃ tp d, At K tp H x d ∧ ∀ H', Same H H' → Q (.bl (letD d most)) H'
theorem c_is_lettered (T : Txt K mg) : Cal P w K mg base 1 "is_lettered" (sp_is_lettered K) [] := by
  have sc := sc_is_lettered
  refine cal_of T.d_is_lettered sc (fun _ _ _ _ _ _ us hl => match us, hl with | [_, _], _ => rfl) (fun vs H Q E h => ?_) (fun f cdv A outer s H vs Q E hr h => ?_)
  · obtain ⟨x, most, rfl, _⟩ := h
    rfl
  · obtain ⟨x, most, rfl, h⟩ := h
    refine ⟨_, (pss_cons (ps_if (PW.pt (pw_or (pt_not (pt_val (pe_callB call_isi rfl T.m_isinstance (by decide +kernel) (pa_cons (pv 0) (pa_cons (pe_bltn (v := .ty "str") (u := .type "str") rfl T.m_str (by decide +kernel) rfl) pa_nil))))) (pw_or1 (pt_not (pt_chain op_le op_le pe_int (pe_callB call_len_str rfl T.m_len (by decide +kernel) (pa_cons (pv 0) pa_nil)) (pv 1)))))) (pss_one (ps_ret pe_bl)) pss_nil)
  (pss_one (ps_ret (pe_callB (cr_all rfl) rfl T.m_all (by decide +kernel) (pa_cons (pe_lc (own := [("sign", 2)]) (g := gName 2) rfl sc.nd (pi_str (pv 0)) (blkOk_by (own := [("sign", 2)]) (N := ["thing", "most", "sign"]) (sc := defScope s_is_lettered) (by decide +kernel)) (fun _ _ _ _ _ => (pg_name (i := 2) sc.nd rfl (Or.inl rfl))) (fun _ _ _ _ _ => pts_nil) (fun _ _ _ _ _ => (pe_chain op_le_str op_le_str pe_str (pv 2) pe_str))) pa_nil))))), ?_⟩
    obtain ⟨tp0, d, hA, q⟩ := h
    rcases strOr hA with ⟨z, rfl, rfl, hz⟩ | ⟨⟨_, nty, ns⟩, no⟩
    · have q : ∀ H', Same H H' → Q (.bl (letB z most)) H' := q
      obtain ⟨t, h1, h2⟩ := tyc_str (K := K) (H := H) z
      have fit : z.length ≤ sizeLine := Nat.le_trans hz (by decide)
      refine ⟨_, rfl, _, _, t, _, true, rfl, .ty _, h1, h2, true, rfl, ?_⟩
      refine iteF ?_
      refine ⟨_, rfl, z, rfl, fit, 1, (z.length : Int), rfl, rfl, decide (1 ≤ (z.length : Int)), rfl, ?_⟩
      by_cases c1 : 1 ≤ (z.length : Int)
      · rw [if_pos (decide_eq_true c1)]
        refine ⟨_, rfl, (z.length : Int), most, rfl, rfl, decide ((z.length : Int) ≤ most), rfl, ?_⟩
        by_cases c2 : (z.length : Int) ≤ most
        · rw [decide_eq_true c2]
          refine iteF ?_
          refine ⟨_, rfl, z, rfl, fun D hD => ?_⟩
          refine lc_it walk_str (fun i H1 => H1 D = some (.lst ((z.cps.toList.take i).map fun c => V.bl (decide (97 ≤ c) && decide (c ≤ 122)))) ∧ Same H H1) ⟨upd_same, same_new hD⟩ (fun _ _ _ _ => trivial) ?_ ?_
          · rintro i x H0 H1 hi ⟨hl, g⟩ ⟨rfl, c, hc, rfl⟩
            refine ⟨rfl, ?_⟩
            have hc' : z.cps.toList[i]? = some c := by rw [Array.getElem?_toList]; exact hc
            have tk : (z.cps.toList.take (i + 1)).map (fun c => V.bl (decide (97 ≤ c) && decide (c ≤ 122))) = (z.cps.toList.take i).map (fun c => V.bl (decide (97 ≤ c) && decide (c ≤ 122))) ++ [V.bl (decide (97 ≤ c) && decide (c ≤ 122))] := by
              rw [List.take_add_one, hc', List.map_append]
              rfl
            have small : ((z.cps.toList.take i).map fun c => V.bl (decide (97 ≤ c) && decide (c ≤ 122))).length < sizeLine := by
              rw [List.length_map, List.length_take]
              have a : z.cps.toList.length = z.length := by rw [Array.length_toList]; rfl
              have b : (1000 : Nat) < sizeLine := by decide
              omega
            have fin : ∀ v : Bool, v = (decide (97 ≤ c) && decide (c ≤ 122)) → ∃ acc, H1 D = some (.lst acc) ∧ acc.length < sizeLine ∧
                (upd H1 D (.lst (acc ++ [V.bl v])) D = some (.lst ((z.cps.toList.take (i + 1)).map fun c => V.bl (decide (97 ≤ c) && decide (c ≤ 122)))) ∧ Same H (upd H1 D (.lst (acc ++ [V.bl v])))) := fun v e => by
              refine ⟨_, hl, small, ?_, same_mut g hD⟩
              rw [upd_same, tk, e]
            refine ⟨_, rfl, _, _, rfl, rfl, !decide (([c] : List Nat) < [97]), rfl, ?_⟩
            rw [sign_lt]
            by_cases d : 97 ≤ c
            · rw [if_pos (by rw [decide_eq_false (by omega)]; rfl)]
              refine ⟨_, _, rfl, rfl, ?_⟩
              refine fin (!decide (([122] : List Nat) < [c])) ?_
              rw [sign_lt, decide_eq_true d, Bool.true_and]
              by_cases d2 : c ≤ 122
              · rw [decide_eq_true d2, decide_eq_false (by omega)]
                rfl
              · rw [decide_eq_false d2, decide_eq_true (by omega)]
                rfl
            · rw [if_neg (by rw [decide_eq_true (by omega)]; exact Bool.false_ne_true)]
              refine fin false ?_
              rw [decide_eq_false d]
              rfl
          · rintro H1 ⟨hl, g⟩
            have hn : z.cps.toList.take z.cps.size = z.cps.toList := List.take_of_length_le (by rw [Array.length_toList]; exact Nat.le_refl _)
            rw [hn] at hl
            refine ⟨D, z.cps.toList.map (fun c => decide (97 ≤ c) && decide (c ≤ 122)), rfl, SqL.of (by rw [hl, List.map_map]; rfl), ?_⟩
            have e : letB z most = ((z.cps.toList.map (fun c => decide (97 ≤ c) && decide (c ≤ 122))).all id) := by
              unfold letB
              rw [decide_eq_true c1, decide_eq_true c2, List.all_map]
              rfl
            have q' := q H1 g
            rw [e] at q'
            exact q'
        · rw [decide_eq_false c2]
          refine iteT ?_
          have e : letB z most = false := by unfold letB; rw [decide_eq_false c2, Bool.and_false, Bool.false_and]
          have q' := q H (Same.refl H)
          rw [e] at q'
          exact q'
      · rw [if_neg (by rw [decide_eq_false c1]; exact Bool.false_ne_true)]
        refine ⟨false, rfl, iteT ?_⟩
        have e : letB z most = false := by unfold letB; rw [decide_eq_false c1, Bool.false_and, Bool.false_and]
        have q' := q H (Same.refl H)
        rw [e] at q'
        exact q'
    · refine ⟨_, rfl, _, _, _, _, false, rfl, .ty _, nty, ns, false, rfl, ?_⟩
      refine iteT (iteT ?_)
      have q' := q H (Same.refl H)
      rw [no most] at q'
      exact q'
end
end K01
namespace K01
open PySem L2 Nm
open C8 (Cal Mak pe_c pe_mk pe_gc)
open RZ (ItzT pi_zipA)
section
variable {P : Program} {w : World} {K : PySem.W.Frag} {mg : Str → Option Value} {base : Heap}
def sp_is_name (K : PySem.W.Frag) : Sp := fun vs H Q _ => ∃ (x : V), vs = [x] ∧ ∃ tp d, At K tp H x d ∧ ∀ H', Same H H' → Q (.bl (letD d 8)) H'
theorem c_is_name (T : Txt K mg) : Cal P w K mg base 2 "is_name" (sp_is_name K) [] := by
  have C_is_lettered := c_is_lettered (P := P) (w := w) (base := base) T
  have sc := sc_is_name
  refine cal_of T.d_is_name sc (fun _ _ _ _ _ _ us hl => match us, hl with | [_], _ => rfl) (fun vs H Q E h => ?_) (fun f cdv A outer s H vs Q E hr h => ?_)
  · obtain ⟨x, rfl, _⟩ := h
    rfl
  · obtain ⟨x, rfl, h⟩ := h
    refine ⟨_, (pss_one (ps_ret (pe_c C_is_lettered hr (by omega) rfl (pa_cons (pv 0) (pa_cons pe_int pa_nil))))), ?_⟩
    obtain ⟨tp0, d, hA, q⟩ := h
    exact ⟨_, rfl, x, 8, rfl, _, d, hA, q⟩
end
end K01
namespace K01
open PySem L2 Nm
open C8 (Cal Mak pe_c pe_mk pe_gc)
open RZ (ItzT pi_zipA)
section
variable {P : Program} {w : World} {K : PySem.W.Frag} {mg : Str → Option Value} {base : Heap}
def sp_is_word (K : PySem.W.Frag) : Sp := fun vs H Q _ => ∃ (x : V), vs = [x] ∧ ∃ tp d, At K tp H x d ∧ ∀ H', Same H H' → Q (.bl (letD d 20)) H'
theorem c_is_word (T : Txt K mg) : Cal P w K mg base 2 "is_word" (sp_is_word K) [] := by
  have C_is_lettered := c_is_lettered (P := P) (w := w) (base := base) T
  have sc := sc_is_word
  refine cal_of T.d_is_word sc (fun _ _ _ _ _ _ us hl => match us, hl with | [_], _ => rfl) (fun vs H Q E h => ?_) (fun f cdv A outer s H vs Q E hr h => ?_)
  · obtain ⟨x, rfl, _⟩ := h
    rfl
  · obtain ⟨x, rfl, h⟩ := h
    refine ⟨_, (pss_one (ps_ret (pe_c C_is_lettered hr (by omega) rfl (pa_cons (pv 0) (pa_cons pe_int pa_nil))))), ?_⟩
    obtain ⟨tp0, d, hA, q⟩ := h
    exact ⟨_, rfl, x, 20, rfl, _, d, hA, q⟩
end
end K01
namespace K01
open PySem L2 Nm
open C8 (Cal Mak pe_c pe_mk pe_gc)
open RZ (ItzT pi_zipA)
section
variable {P : Program} {w : World} {K : PySem.W.Frag} {mg : Str → Option Value} {base : Heap}
def sp_is_words (K : PySem.W.Frag) : Sp := fun vs H Q _ => ∃ (x : V) (most : Int), vs = [x, .int most] ∧ most ≤ 1000 ∧ ∃ tp d, At K tp H x d ∧ ∀ H', Same H H' → Q (.bl (rowsD d most)) H'
theorem c_is_words (T : Txt K mg) : Cal P w K mg base 3 "is_words" (sp_is_words K) [] := by
  have C_is_word := c_is_word (P := P) (w := w) (base := base) T
  have sc := sc_is_words
  refine cal_of T.d_is_words sc (fun _ _ _ _ _ _ us hl => match us, hl with | [_, _], _ => rfl) (fun vs H Q E h => ?_) (fun f cdv A outer s H vs Q E hr h => ?_)
  · obtain ⟨x, most, rfl, _⟩ := h
    rfl
  · obtain ⟨x, most, rfl, h⟩ := h
    refine ⟨_, (pss_one (ps_ret (pe_and (pe_callB call_isi rfl T.m_isinstance (by decide +kernel) (pa_cons (pv 0) (pa_cons (pe_bltn (v := .ty "tuple") (u := .type "tuple") rfl T.m_tuple (by decide +kernel) rfl) pa_nil))) (pe_and (pe_cmpR op_le (pe_callB (r := Nm.rLenS K) (id := "len") Nm.call_lenS rfl T.m_len (by decide +kernel) (pa_cons (pv 0) pa_nil)) (pv 1) (nomark _)) (pe_one (pe_callB (cr_all rfl) rfl T.m_all (by decide +kernel) (pa_cons (pe_lc (own := [("word", 2)]) (g := gName 2) rfl sc.nd (pi_tup (pv 0)) (blkOk_by (own := [("word", 2)]) (N := ["thing", "most", "word"]) (sc := defScope s_is_words) (by decide +kernel)) (fun _ _ _ _ _ => (pg_name (i := 2) sc.nd rfl (Or.inl rfl))) (fun _ _ _ _ _ => pts_nil) (fun _ _ _ _ _ => (pe_c C_is_word hr (by omega) rfl (pa_cons (pv 2) pa_nil)))) pa_nil))))))), ?_⟩
    obtain ⟨m1, tp0, d, hA, q⟩ := h
    rcases tupOr hA with ⟨a, xs, ds, rfl, rfl, ha, pr⟩ | ⟨⟨_, nty, nt'⟩, no⟩
    · have el : xs.length = ds.length := paired_len pr
      refine ⟨_, rfl, _, _, _, _, true, rfl, .ty _, .base (.tup ha), kit_ty (a := "tuple") (by decide +kernel), true, rfl, ?_⟩
      refine iteT ⟨_, rfl, a, _, rfl, .inr (SqT.of ha), _, rfl, _, _, rfl, rfl, decide ((xs.length : Int) ≤ most), rfl, ?_⟩
      by_cases c : (xs.length : Int) ≤ most
      · rw [decide_eq_true c]
        refine iteT ⟨_, rfl, a, rfl, ⟨_, SqT.of ha⟩, fun D hD => ?_⟩
        refine lc_tup (K := K) (a := a) (xs := xs) (fun i H1 => H1 D = some (.lst ((ds.take i).map fun e => V.bl (letD e 20))) ∧ Same H H1) ⟨upd_same, same_new hD⟩ (fun i H1 _ p => SqT.of (p.2 _ _ ha)) ?_ ?_
        · rintro i x H1 hx ⟨hl1, g⟩
          obtain ⟨e, he, hAe⟩ := paired_at pr i x hx
          refine ⟨rfl, ?_⟩
          refine ⟨_, rfl, x, rfl, _, e, At.same g e _ hAe, fun H2 g2 => ?_⟩
          refine ⟨_, g2 _ _ hl1, ?_, ?_, ?_⟩
          · rw [List.length_map, List.length_take]
            have b : (1000 : Nat) < sizeLine := by decide
            omega
          · rw [upd_same, take_one he, List.map_append]
            rfl
          · exact same_mut (g.trans g2) hD
        · rintro H1 ⟨hl1, g⟩
          rw [el, List.take_length] at hl1
          refine ⟨D, ds.map (fun e => letD e 20), rfl, SqL.of (by rw [hl1, List.map_map]; rfl), ?_⟩
          have e : rowsD (.tuple ds) most = (ds.map (fun e => letD e 20)).all id := by
            show (decide ((ds.length : Int) ≤ most) && ds.all (fun e => letD e 20)) = _
            rw [decide_eq_true (by omega), Bool.true_and, List.all_map]
            rfl
          have q' := q H1 g
          rw [e] at q'
          exact q'
      · rw [decide_eq_false c]
        refine iteF ?_
        have e : rowsD (.tuple ds) most = false := by
          show (decide ((ds.length : Int) ≤ most) && ds.all (fun e => letD e 20)) = _
          rw [decide_eq_false (by omega), Bool.false_and]
        have q' := q H (Same.refl H)
        rw [e] at q'
        exact q'
    · refine ⟨_, rfl, _, _, _, _, false, rfl, .ty _, nty, nt', false, rfl, ?_⟩
      refine iteF ?_
      have q' := q H (Same.refl H)
      rw [rowsD_no no] at q'
      exact q'
end
end K01
namespace K01
open PySem L2 Nm
open C8 (Cal Mak pe_c pe_mk pe_gc)
open RZ (ItzT pi_zipA)
section
variable {P : Program} {w : World} {K : PySem.W.Frag} {mg : Str → Option Value} {base : Heap}
def sp_is_board (K : PySem.W.Frag) : Sp := fun vs H Q _ => ∃ (x : V), vs = [x] ∧ ∃ tp d, At K tp H x d ∧ ∀ H', Same H H' → Q (.bl (boardD d)) H'
theorem c_is_board (T : Txt K mg) : Cal P w K mg base 4 "is_board" (sp_is_board K) [] := by
  have C_is_name := c_is_name (P := P) (w := w) (base := base) T
  have C_is_side := c_is_side (P := P) (w := w) (base := base) T
  have C_is_words := c_is_words (P := P) (w := w) (base := base) T
  have sc := sc_is_board
  refine cal_of T.d_is_board sc (fun _ _ _ _ _ _ us hl => match us, hl with | [_], _ => rfl) (fun vs H Q E h => ?_) (fun f cdv A outer s H vs Q E hr h => ?_)
  · obtain ⟨x, rfl, _⟩ := h
    rfl
  · obtain ⟨x, rfl, h⟩ := h
    refine ⟨_, (pss_cons (ps_if (PW.pt (pw_or (pt_not (pt_val (pe_callB call_isi rfl T.m_isinstance (by decide +kernel) (pa_cons (pv 0) (pa_cons (pe_bltn (v := .ty "tuple") (u := .type "tuple") rfl T.m_tuple (by decide +kernel) rfl) pa_nil))))) (pw_or1 (pt_cmpR op_ne (pe_callB (r := Nm.rLenS K) (id := "len") Nm.call_lenS rfl T.m_len (by decide +kernel) (pa_cons (pv 0) pa_nil)) pe_int (nomark _))))) (pss_one (ps_ret pe_bl)) pss_nil)
  (pss_cons (ps_asg (pv 0) (pg_tup rfl (pgs_cons (pg_name (i := 1) sc.nd rfl (Or.inl rfl)) (pgs_cons (pg_name (i := 2) sc.nd rfl (Or.inl rfl)) (pgs_cons (pg_name (i := 3) sc.nd rfl (Or.inl rfl)) pgs_nil)))))
  (pss_one (ps_ret (pe_and (pe_c C_is_name hr (by omega) rfl (pa_cons (pv 1) pa_nil)) (pe_and (pe_c C_is_side hr (by omega) rfl (pa_cons (pv 2) pa_nil)) (pe_one (pe_c C_is_words hr (by omega) rfl (pa_cons (pv 3) (pa_cons (pe_gc rfl T.g_MOST_BEGUN) pa_nil)))))))))), ?_⟩
    obtain ⟨tp0, d, hA, q⟩ := h
    have q0 := q H (Same.refl H)
    rcases tupOr hA with ⟨a, xs, ds, rfl, rfl, ha, pr⟩ | ⟨⟨_, nty, nt'⟩, no⟩
    rotate_left
    · refine ⟨_, rfl, _, _, _, _, false, rfl, .ty _, nty, nt', false, rfl, ?_⟩
      refine iteT (iteT ?_)
      rw [boardD_no no] at q0
      exact q0
    have el : xs.length = ds.length := paired_len pr
    refine ⟨_, rfl, _, _, _, _, true, rfl, .ty _, .base (.tup ha), kit_ty (a := "tuple") (by decide +kernel), true, rfl, ?_⟩
    refine iteF ⟨_, rfl, a, _, rfl, .inr (SqT.of ha), rfl, _, rfl, ?_⟩
    rw [decI]
    by_cases c : (xs.length : Int) = 3
    rotate_left
    · rw [decide_eq_false c]
      refine iteT ?_
      rw [boardD_len (by omega)] at q0
      exact q0
    rw [decide_eq_true c]
    match xs, ds, pr, c with
    | [x1, x2, x3], [d1, d2, d3], .cons h1 (.cons h2 (.cons h3 .nil)), _ =>
      refine iteF ⟨_, rfl, a, _, rfl, SqT.of ha, rfl, _, _, rfl, _, _, rfl, _, _, rfl, rfl, ?_⟩
      refine ⟨_, rfl, x1, rfl, _, d1, h1, fun H1 g1 => ⟨letD d1 8, rfl, ?_⟩⟩
      have e : boardD (.tuple [d1, d2, d3]) = (letD d1 8 && (intIn d2 0 1 && rowsD d3 20)) := rfl
      cases e1 : letD d1 8 with
      | false =>
        refine iteF ?_
        rw [e1, Bool.false_and] at e
        have q' := q H1 g1
        rw [e] at q'
        exact q'
      | true =>
        rw [e1, Bool.true_and] at e
        refine iteT ⟨_, rfl, x2, rfl, _, d2, At.same g1 d2 _ h2, intIn d2 0 1, rfl, ?_⟩
        cases e2 : intIn d2 0 1 with
        | false =>
          refine iteF ?_
          rw [e2, Bool.false_and] at e
          have q' := q H1 g1
          rw [e] at q'
          exact q'
        | true =>
          rw [e2, Bool.true_and] at e
          refine iteT ⟨_, rfl, x3, 20, rfl, by decide, _, d3, At.same g1 d3 _ h3, fun H2 g2 => ?_⟩
          have q' := q H2 (g1.trans g2)
          rw [e] at q'
          exact q'
end
end K01
namespace K01
open PySem L2 Nm
open C8 (Cal Mak pe_c pe_mk pe_gc)
open RZ (ItzT pi_zipA)
section
variable {P : Program} {w : World} {K : PySem.W.Frag} {mg : Str → Option Value} {base : Heap}
def sp_names_of (K : PySem.W.Frag) : Sp := fun vs H Q _ => ∃ (a : Addr) (bs : List Bd), vs = [.ref a] ∧ BoardsAt H a bs ∧ bs.length < 64 ∧ ∀ H' p ys, Same H H' → H p = none → H' p = some (.tup (ys.map V.str)) → Names (bs.map (·.1)) ys → Q (.ref p) H'
theorem c_names_of (T : Txt K mg) : Cal P w K mg base 1 "names_of" (sp_names_of K) [] := by
  have sc := sc_names_of
  refine cal_of T.d_names_of sc (fun _ _ _ _ _ _ us hl => match us, hl with | [_], _ => rfl) (fun vs H Q E h => ?_) (fun f cdv A outer s H vs Q E hr h => ?_)
  · obtain ⟨a, bs, rfl, _⟩ := h
    rfl
  · obtain ⟨a, bs, rfl, h⟩ := h
    refine ⟨_, (pss_one (ps_ret (pe_callTy call_tuple_of rfl T.m_tuple (by decide +kernel) (pa_cons (pe_callB (Nm.cr_sortTx rfl) rfl T.m_sorted (by decide +kernel) (pa_cons (Nm.pe_nm (own := [("board", 1)]) (g := gName 1) rfl sc.nd (pi_tup (pv 0)) (blkOk_by (own := [("board", 1)]) (N := ["boards", "board"]) (sc := defScope s_names_of) (by decide +kernel)) (fun _ _ _ _ _ => (pg_name (i := 1) sc.nd rfl (Or.inl rfl))) (fun _ _ _ _ _ => (pe_ix (r := rIxT K) ix_tup (pv 1) pe_int (fun _ _ => rfl)))) pa_nil)) pa_nil)))), ?_⟩
    obtain ⟨⟨xs, ha, pr⟩, hl, q⟩ := h
    refine ⟨_, rfl, a, rfl, ⟨_, SqT.of ha⟩, fun D hD => ?_⟩
    refine nm_tup (K := K) (a := a) (xs := xs) (fun i H1 => H1 D = some (TxO w D (gathered ((bs.take i).map (·.1)))) ∧ Same H H1) ⟨upd_same, same_new hD⟩ (fun i H1 _ p => SqT.of (p.2 _ _ ha)) ?_ ?_
    · rintro i x H1 hx ⟨hl1, g⟩
      obtain ⟨b, hb, c, r, rfl, h1, h2⟩ := paired_at pr i x hx
      refine ⟨rfl, ?_⟩
      refine ⟨_, rfl, c, _, 0, .str b.1, rfl, rfl, SqT.of (g _ _ h1), rfl, b.1, _, rfl, hl1, ?_, ?_, ?_⟩
      · have z := (gathered_facts ((bs.take i).map (·.1))).2.2
        rw [List.length_map, List.length_take] at z
        have : (64 : Nat) + 1 < scanBound := by decide
        omega
      · rw [upd_same, take_one hb, List.map_append]
        show some (TxO w D (plus (gathered ((bs.take i).map (·.1))) b.1)) = some (TxO w D (gathered ((bs.take i).map (·.1) ++ [b.1])))
        rw [gathered_snoc]
      · exact same_mut g hD
    · rintro H1 ⟨hl1, g⟩
      have el : xs.length = bs.length := paired_len pr
      rw [el, List.take_length] at hl1
      obtain ⟨f1, f2, f3⟩ := gathered_facts (bs.map (·.1))
      rw [List.length_map] at f3
      refine ⟨D, _, rfl, hl1, by omega, fun ys p pm up hp => ?_⟩
      have g2 : Same H (upd H1 p (.lst (ys.map V.str))) := g.trans (same_new hp)
      refine ⟨p, _, rfl, .inl ⟨SqL.of upd_same, fun l hl => ?_⟩⟩
      refine q _ l ys (g2.trans (same_new hl)) (g2.free hl) upd_same ⟨up, pm.nodup_iff.mpr f1, fun x => ?_⟩
      rw [pm.mem_iff]
      exact f2 x
end
end K01
namespace K01
open PySem L2 Nm
open C8 (Cal Mak pe_c pe_mk pe_gc)
open RZ (ItzT pi_zipA)
theorem at_strs {K : PySem.W.Frag} {tp : Addr} {H : Hp} : ∀ ws : List Str, (∀ z ∈ ws, z.length ≤ 1000) → AtAll K tp H (ws.map V.str) (ws.map PyData.str)
  | [], _ => .nil
  | w :: ws, l => .cons (.str w (l w List.mem_cons_self)) (at_strs ws fun z hz => l z (List.mem_cons_of_mem _ hz))
theorem rowsD_strs (ws : List Str) (m : Int) : rowsD (.tuple (ws.map PyData.str)) m = rowB ws m := by
  show (decide (((ws.map PyData.str).length : Int) ≤ m) && (ws.map PyData.str).all (fun e => letD e 20)) = _
  rw [List.length_map, List.all_map]
  rfl
theorem at_boardE {K : PySem.W.Frag} {tp : Addr} {H : Hp} {v : V} {b : Bd} (h : BoardAt H v b) (ok : smallBd b) : ∃ d, At K tp H v d ∧ boardD d = boardB b := by
  obtain ⟨a, r, rfl, h1, h2⟩ := h
  refine ⟨.tuple [.str b.1, .int b.2.1, .tuple (b.2.2.map PyData.str)], .tup h1 (.cons (.str _ ok.1) (.cons (.int _) (.cons (.tup h2 (at_strs _ ok.2.2)) .nil))), ?_⟩
  show (letD (.str b.1) 8 && (intIn (.int b.2.1) 0 1 && rowsD (.tuple (b.2.2.map PyData.str)) 20)) = _
  rw [rowsD_strs]
  rfl
section
variable {P : Program} {w : World} {K : PySem.W.Frag} {mg : Str → Option Value} {base : Heap}
def sp_Hall (K : PySem.W.Frag) (C : Addr) : Sp := fun vs H Q _ => ∃ (p dx a : Addr) (bs : List Bd), vs = [.ref p, .ref a] ∧ H p = some (.ins C dx []) ∧ BoardsAt H a bs ∧ (∀ b ∈ bs, boardB b = true ∧ smallBd b) ∧ 1 ≤ bs.length ∧ bs.length ≤ 12 ∧
  ∀ H' fs, H' p = some (.ins C dx fs) → fs.length ≤ 2 → HallAt K H' p bs → (∀ b o, H b = some o → b ≠ p → H' b = some o) → Q .non H'
theorem c_Hall (T : Txt K mg) : ∃ C, Mak P w K mg base 5 "Hall" C (sp_Hall K C) [] := by
  obtain ⟨C, fi, fd, cl, mk, hm, F, nB, nN⟩ := T.cls_Hall
  have C_is_board := c_is_board (P := P) (w := w) (base := base) T
  have C_names_of := c_names_of (P := P) (w := w) (base := base) T
  have sc := sc_Hall___init__
  refine ⟨C, ⟨fi, fd, ["self", "boards"], [], mk, F.ok (k := 4) sc (fun vs H Q E h => ?_) (fun cdv A outer s H vs Q E hr h => ?_), hm, F.binds fun _ _ _ _ _ _ us hl => match us, hl with | [_, _], _ => rfl, .nil⟩⟩
  · obtain ⟨p, dx, a, bs, rfl, _⟩ := h
    rfl
  · obtain ⟨p, dx, a, bs, rfl, hp, hb, ok, l1, l12, q⟩ := h
    obtain ⟨xs, ha, pr⟩ := id hb
    have el : xs.length = bs.length := paired_len pr
    obtain ⟨t, t1, t2⟩ := tyc_tup (K := K) ha
    refine ⟨_, (pss_cons (ps_if (PW.pt (pw_or (pt_not (pt_val (pe_callB call_isi rfl T.m_isinstance (by decide +kernel) (pa_cons (pv 1) (pa_cons (pe_bltn (v := .ty "tuple") (u := .type "tuple") rfl T.m_tuple (by decide +kernel) rfl) pa_nil))))) (pw_or1 (pt_not (pt_chain op_le op_le pe_int (pe_callB (r := Nm.rLenS K) (id := "len") Nm.call_lenS rfl T.m_len (by decide +kernel) (pa_cons (pv 1) pa_nil)) (pe_gc rfl T.g_MOST_BOARDS)))))) (pss_one ps_never) pss_nil)
  (pss_cons (ps_for PassesOwn.never rfl (Nm.pi_enuT rfl T.m_enumerate (pa_cons (pv 1) pa_nil)) (pg_tup rfl (pgs_cons (pg_name (i := 2) sc.nd rfl (Or.inl rfl)) (pgs_cons (pg_name (i := 3) sc.nd rfl (Or.inl rfl)) pgs_nil))) (pss_one (ps_if (pt_not (pt_val (pe_c C_is_board hr (by omega) rfl (pa_cons (pv 3) pa_nil)))) (pss_one ps_never) pss_nil)))
  (pss_cons (ps_fld (pv 0) (pv 1) rfl)
  (pss_one (ps_fld (pv 0) (pe_c C_names_of hr (by omega) rfl (pa_cons (pv 1) pa_nil)) rfl))))), ?_⟩
    refine ⟨_, rfl, _, _, t, _, true, rfl, .ty _, t1, t2, true, rfl, ?_⟩
    refine iteF ⟨_, rfl, a, _, rfl, .inr (SqT.of ha), _, _, rfl, rfl, decide (1 ≤ (xs.length : Int)), rfl, ?_⟩
    rw [decide_eq_true (show 1 ≤ (xs.length : Int) by omega)]
    refine iteT ⟨_, _, rfl, rfl, decide ((xs.length : Int) ≤ 12), rfl, ?_⟩
    rw [decide_eq_true (show (xs.length : Int) ≤ 12 by omega)]
    refine iteF ?_
    refine ⟨_, rfl, a, xs, rfl, SqT.of ha, ?_⟩
    refine for_it walk_itu (fun i σ H1 => ∃ v2 v3, σ = [some (.ref p), some (.ref a), v2, v3] ∧ Same H H1) ⟨none, none, rfl, Same.refl H⟩ (fun i σ H1 _ ⟨_, _, _, g⟩ => SqT.of (g _ _ ha)) ?_ ?_
    · rintro i x σ H1 H2 hi ⟨v2, v3, rfl, g⟩ ⟨tp, x1, y, rfl, hn, rfl, e1, e2⟩
      obtain ⟨b, hb1, hb2⟩ := paired_at pr i y e2
      have g1 : Same H (upd H1 tp (.tup [x1, y])) := g.trans (same_new hn)
      refine ⟨tp, [x1, y], rfl, SqT.of upd_same, rfl, _, _, rfl, _, _, rfl, rfl, ?_⟩
      obtain ⟨o1, o2⟩ := ok b (List.mem_of_getElem? hb1)
      obtain ⟨d, hd, bd⟩ := at_boardE (K := K) (tp := p) (hb2.mono (same_tups g1)) o2
      refine ⟨_, rfl, y, rfl, p, d, hd, fun H3 g3 => ⟨boardD d, rfl, ?_⟩⟩
      rw [bd, o1]
      exact iteF ⟨_, _, rfl, g1.trans g3⟩
    · rintro σ H1 ⟨v2, v3, rfl, g⟩
      refine ⟨_, rfl, _, rfl, p, C, dx, [], rfl, g _ _ hp, cl, nB, (by show 0 < 1000; decide), ?_⟩
      have pa : a ≠ p := fun e => by
        rw [e, hp] at ha
        cases ha
      have other : ∀ {H5 : Hp} {o : HO}, Same H H5 → ∀ b u, H b = some u → b ≠ p → upd H5 p o b = some u := fun g5 b u hu hne => by
        rw [upd_ne hne]
        exact g5 b u hu
      have tups : ∀ b ys, H b = some (.tup ys) → b ≠ p := fun b ys hy e => by
        rw [e, hp] at hy
        cases hy
      refine ⟨_, rfl, a, bs, rfl, hb.mono (fun b ys hy => other g b _ hy (tups b ys hy)), by omega, fun H2 n ys g2 hn h2 nm => ?_⟩
      have hp2 : H2 p = some (.ins C dx (putF "boards" (.ref a) [])) := g2 _ _ upd_same
      refine ⟨_, rfl, p, C, dx, _, rfl, hp2, cl, nN, (by show 1 < 1000; decide), ?_⟩
      have pn : n ≠ p := fun e => by
        rw [e, hp2] at h2
        cases h2
      refine q _ _ upd_same (Nat.le_trans (putF_len _ _ _) (Nat.succ_le_succ (putF_len _ _ _))) ⟨C, dx, _, a, n, ys, cl, nB, nN, upd_same, ?_, ?_, ?_, ?_, nm⟩ ?_
      · rw [lookup_putF, if_neg nb_ne, lookup_putF, if_pos rfl]
      · rw [lookup_putF, if_pos rfl]
      · refine hb.mono fun b zs hz => ?_
        rw [upd_ne (tups b zs hz)]
        exact g2 _ _ (other g b _ hz (tups b zs hz))
      · rw [upd_ne pn]
        exact h2
      · intro b o ho hne
        rw [upd_ne hne]
        exact g2 _ _ (other g b o ho hne)
end
end K01
namespace K01
open PySem L2 Nm
open C8 (Cal Mak pe_c pe_mk pe_gc)
open RZ (ItzT pi_zipA)
section
variable {P : Program} {w : World} {K : PySem.W.Frag} {mg : Str → Option Value} {base : Heap}
theorem c_bare {fi : Addr} {fd : FuncData} (T : Txt K mg) (F : Fun K "__init__" "HallError.__init__" s_HallError___init__ fi fd) : FnOk P w K mg base CX0 1 fi fd ["self"] (sp_bare K) := by
  have sc := sc_HallError___init__
  refine F.ok (k := 0) sc (fun vs H Q E h => ?_) (fun cdv A outer s H vs Q E hr h => ?_)
  · obtain ⟨a, C, rfl, _⟩ := h
    rfl
  · obtain ⟨a, C, rfl, ox, ha, q⟩ := h
    refine ⟨_, pss_one (ps_expr (pe_veinit rfl T.m_VE T.vV (pa_cons (pv 0) pa_nil))), ?_⟩
    exact ⟨_, rfl, a, C, [], rfl, by decide, ox, ha, q⟩
end
end K01
namespace K01
open PySem L2 Nm
open C8 (Cal Mak pe_c pe_mk pe_gc)
open RZ (ItzT pi_zipA)
section
variable {P : Program} {w : World} {K : PySem.W.Frag} {mg : Str → Option Value} {base : Heap}
def sp_is_row (K : PySem.W.Frag) : Sp := fun vs H Q _ => ∃ (x : V), vs = [x] ∧ ∃ tp d, At K tp H x d ∧ ∀ H', Same H H' → Q (.bl (rowsD d 60)) H'
theorem c_is_row (T : Txt K mg) : Cal P w K mg base 4 "is_row" (sp_is_row K) [] := by
  have C_is_words := c_is_words (P := P) (w := w) (base := base) T
  have sc := sc_is_row
  refine cal_of T.d_is_row sc (fun _ _ _ _ _ _ us hl => match us, hl with | [_], _ => rfl) (fun vs H Q E h => ?_) (fun f cdv A outer s H vs Q E hr h => ?_)
  · obtain ⟨x, rfl, _⟩ := h
    rfl
  · obtain ⟨x, rfl, h⟩ := h
    refine ⟨_, (pss_one (ps_ret (pe_c C_is_words hr (by omega) rfl (pa_cons (pv 0) (pa_cons (pe_gc rfl T.g_MOST_WORDS) pa_nil))))), ?_⟩
    obtain ⟨tp0, d, hA, q⟩ := h
    exact ⟨_, rfl, x, 60, rfl, by decide, tp0, d, hA, q⟩
end
end K01
namespace K01
open PySem L2 Nm
open C8 (Cal Mak pe_c pe_mk pe_gc)
open RZ (ItzT pi_zipA)
/-- each is before the next -/
def ascB (rs : List (List Str)) : Bool := (rs.zip (rs.drop 1)).all fun p => rowLt p.1 p.2
theorem asc_rows {rs : List (List Str)} (h : rs.Pairwise bef) : ∀ p ∈ rs.zip (rs.drop 1), rowLt p.1 p.2 = true := by
  induction rs with
  | nil =>
    intro p hp
    simp at hp
  | cons a r ih =>
    intro p hp
    obtain ⟨h1, h2⟩ := List.pairwise_cons.mp h
    cases r with
    | nil => simp at hp
    | cons b r =>
      rw [List.drop_one, List.tail_cons] at hp
      rcases List.mem_cons.mp (show p ∈ (a, b) :: ((b :: r).zip r) from hp) with e | e
      · rw [e]
        exact h1 b List.mem_cons_self
      · refine ih h2 p ?_
        rw [List.drop_one, List.tail_cons]
        exact e
theorem paired_drop {α β : Type} {R : α → β → Prop} : ∀ {xs : List α} {ys : List β}, Paired R xs ys → ∀ n, Paired R (xs.drop n) (ys.drop n)
  | _, _, h, 0 => h
  | _, _, .nil, n + 1 => by
    rw [List.drop_nil, List.drop_nil]
    exact .nil
  | _, _, .cons _ t, n + 1 => paired_drop t n
section
variable {P : Program} {w : World} {K : PySem.W.Frag} {mg : Str → Option Value} {base : Heap}
def sp_is_ascending (K : PySem.W.Frag) : Sp := fun vs H Q _ => ∃ (a : Addr), vs = [.ref a] ∧ ∃ rs, GmAt H a rs ∧ rs.length ≤ 1000 ∧ ∀ H', Same H H' → Q (.bl (ascB rs)) H'
theorem c_is_ascending (T : Txt K mg) : Cal P w K mg base 1 "is_ascending" (sp_is_ascending K) [] := by
  have sc := sc_is_ascending
  refine cal_of T.d_is_ascending sc (fun _ _ _ _ _ _ us hl => match us, hl with | [_], _ => rfl) (fun vs H Q E h => ?_) (fun f cdv A outer s H vs Q E hr h => ?_)
  · obtain ⟨a, rfl, _⟩ := h
    rfl
  · obtain ⟨a, rfl, h⟩ := h
    refine ⟨_, (pss_one (ps_ret (pe_callB (cr_all rfl) rfl T.m_all (by decide +kernel) (pa_cons (pe_lc (own := [("one", 1), ("other", 2)]) (g := gTup K 2 (gCons (gName 1) (gCons (gName 2) gNil))) rfl sc.nd (pi_zipA rfl T.m_zip (pa_cons (pv 0) (pa_cons (pe_slice sl_tupA (pv 0) (po_some pe_int) po_none) pa_nil))) (blkOk_by (own := [("one", 1), ("other", 2)]) (N := ["things", "one", "other"]) (sc := defScope s_is_ascending) (by decide +kernel)) (fun _ _ _ _ _ => (pg_tup rfl (pgs_cons (pg_name (i := 1) sc.nd rfl (Or.inl rfl)) (pgs_cons (pg_name (i := 2) sc.nd rfl (Or.inl rfl)) pgs_nil)))) (fun _ _ _ _ _ => pts_nil) (fun _ _ _ _ _ => (pe_cmpR (r := Nm.rLtDt K) (Nm.op_ltDt (u65 hr)) (pv 1) (pv 2) (nomark _)))) pa_nil)))), ?_⟩
    obtain ⟨rs, ⟨xs, ha, pa⟩, len, q⟩ := h
    have el := paired_len pa
    refine ⟨_, rfl, _, rfl, 1, rfl, ?_⟩
    dsimp only [tNoPart]
    refine sl_from1 ha fun b H1 g1 hb => ?_
    have pb := paired_drop pa 1
    refine ⟨a, b, xs, xs.drop 1, rfl, .inr ⟨SqT.of (g1 _ _ ha), SqT.of hb, fun D hD => ?_⟩⟩
    have lz : (rs.zip (rs.drop 1)).length = min xs.length (xs.drop 1).length := by
      rw [List.length_zip, el, List.length_drop, List.length_drop, el]
    refine lcS (walk_zipT (K := K) (a := a) (b := b) (xs := xs) (ys := xs.drop 1) rfl) stays_bl (rs.zip (rs.drop 1)) (fun _ => true) (fun p => rowLt p.1 p.2) lz.symm (by rw [List.length_zip]; omega) (fun H2 g => ⟨SqT.of (g _ _ (g1 _ _ ha)), SqT.of (g _ _ hb)⟩) hD ?_ ?_
    · rintro i x p H2 H3 Nx hp ⟨t3, x1, y1, rfl, hn, rfl, e1, e2⟩ sm _ yes
      obtain ⟨w1, hw1, r1, rfl, hr1⟩ := paired_at pa i _ e1
      obtain ⟨w2, hw2, r2, rfl, hr2⟩ := paired_at pb i _ e2
      have hz : p = (w1, w2) := by
        have z : (rs.zip (rs.drop 1))[i]? = some (w1, w2) := by
          rw [List.getElem?_zip_eq_some]
          exact ⟨hw1, hw2⟩
        rw [z] at hp
        exact (Option.some.inj hp).symm
      subst hz
      have g3 := (g1.trans sm).trans (same_new (o := .tup [V.ref r1, V.ref r2]) hn)
      refine ⟨t3, [.ref r1, .ref r2], rfl, SqT.of upd_same, rfl, _, _, rfl, _, _, rfl, rfl, rfl, ?_⟩
      refine ⟨_, rfl, _, rfl, rowL w1, rowL w2, dp_row (g3 _ _ hr1), dp_row (g3 _ _ hr2), alike_rowL _ _, by rw [depth_rowL]; decide, ?_⟩
      exact yes rfl _ _ (same_new hn) rfl
    · intro H2 sm l
      refine ⟨D, _, rfl, sql_bl l, ?_⟩
      have e : (((rs.zip (rs.drop 1)).filter fun _ => true).map fun p => rowLt p.1 p.2).all id = ascB rs := by
        rw [filter_all, List.all_map]
        rfl
      rw [e]
      exact q H2 (g1.trans sm)
end
end K01
namespace K01
open PySem L2 Nm
open C8 (Cal Mak pe_c pe_mk pe_gc)
open RZ (ItzT pi_zipA)
section
variable {P : Program} {w : World} {K : PySem.W.Frag} {mg : Str → Option Value} {base : Heap}
/-- the number of words in a row, else the error -/
def sp_mover (K : PySem.W.Frag) (CE : Addr) : Sp := fun vs H Q E => ∃ (x : V) (tp : Addr) (d : PyData), vs = [x] ∧ At K tp H x d ∧
  (∀ ds, d = .tuple ds → rowsD d 60 = true → ∀ H', Same H H' → Q (.int ((ds.length : Int) % 2)) H') ∧ (rowsD d 60 = false → ∀ H', Same H H' → E (.ref CE) none H')
theorem c_mover {CE fi : Addr} {fdi : FuncData} (T : Txt K mg) (B_NoRow : Bare K mg "NoRow" CE fi) (FI : Fun K "__init__" "HallError.__init__" s_HallError___init__ fi fdi) :
    ∃ f fd, mg "mover" = some (.ref f) ∧ PySem.W.keepIn K (.ref f) = true ∧ Binds K fd ["row"] [] ∧ FnOk P w K mg base (L2.CX P w) 6 f fd ["row"] (sp_mover K CE) := by
  obtain ⟨f, fd, F, hmg⟩ := T.d_mover
  have C_is_row := c_is_row (P := P) (w := w) (base := base) T
  have G_NoRow := c_bare (P := P) (w := w) (base := base) T FI
  have b_NoRow := FI.binds (ps := ["self"]) fun _ _ _ _ _ _ us hl => match us, hl with | [_], _ => rfl
  have sc := sc_mover
  refine ⟨f, fd, hmg, F.kp, F.binds fun _ _ _ _ _ _ us hl => match us, hl with | [_], _ => rfl, F.okX (k := 5) sc (fun vs H Q E h => ?_) (fun cdv A outer s H vs Q E hr h => ?_)⟩
  · obtain ⟨x, tp, d, rfl, _⟩ := h
    rfl
  · obtain ⟨x, tp, d, rfl, hA, q, qe⟩ := h
    refine ⟨_, (pss_cons (ps_if (pt_not (pt_val (pe_c C_is_row hr (by omega) rfl (pa_cons (pv 0) pa_nil)))) (pss_one (ps_raise rfl (takes_of rfl rfl rfl rfl) (pmk_bare B_NoRow.ox B_NoRow.iC B_NoRow.tI G_NoRow (hr.mono (by omega)) b_NoRow pass0 rfl B_NoRow.hm))) pss_nil)
  (pss_one (ps_ret (pe_op op_mod (pe_callB (r := Nm.rLenS K) (id := "len") Nm.call_lenS rfl T.m_len (by decide +kernel) (pa_cons (pv 0) pa_nil)) pe_int)))), ?_⟩
    refine ⟨_, rfl, x, rfl, tp, d, hA, fun H1 g1 => ⟨rowsD d 60, rfl, ?_⟩⟩
    cases e : rowsD d 60 with
    | false =>
      refine ite2 (fun _ => ?_) (fun z => absurd rfl z)
      exact fun a ha => bare_sp B_NoRow.ox (fun H' g => qe e H' (g1.trans g)) ha
    | true =>
      rcases tupOr hA with ⟨a, xs, ds, rfl, rfl, ha, pr⟩ | ⟨_, no⟩
      rotate_left
      · rw [rowsD_no no] at e
        cases e
      have el : xs.length = ds.length := paired_len pr
      refine iteF ?_
      refine ⟨_, rfl, a, _, rfl, .inr (SqT.of (g1 _ _ ha)), _, 2, rfl, rfl, (by show (0 : Int) < 2; decide), ?_⟩
      rw [el]
      exact q ds rfl e H1 g1
end
end K01
namespace K01
open PySem L2 Nm
open C8 (Cal Mak pe_c pe_mk pe_gc)
open RZ (ItzT pi_zipA)
/-- the rows of a game, by their order and their beginnings -/
def gmB (rs : List (List Str)) : Bool := ascB rs && rs.all fun r => decide (r.dropLast ∈ rs)
def gameD (d : PyData) : Bool := match d with
  | .tuple ds => (decide (1 ≤ ds.length) && decide (ds.length ≤ 600)) && (ds.all (fun e => rowsD e 60) && gmB (ds.map wsOfD))
  | _ => false
theorem gameD_no {d : PyData} (h : ∀ ds, d ≠ .tuple ds) : gameD d = false := by
  cases d with
  | tuple ds => exact absurd rfl (h ds)
  | _ => rfl
theorem gameD_bad {ds : List PyData} (h : ds.all (fun e => rowsD e 60) = false) : gameD (.tuple ds) = false := by
  show ((decide (1 ≤ ds.length) && decide (ds.length ≤ 600)) && (ds.all (fun e => rowsD e 60) && gmB (ds.map wsOfD))) = false
  rw [h, Bool.false_and, Bool.and_false]
theorem gameD_off {ds : List PyData} (h : ¬ (1 ≤ ds.length ∧ ds.length ≤ 600)) : gameD (.tuple ds) = false := by
  show ((decide (1 ≤ ds.length) && decide (ds.length ≤ 600)) && (ds.all (fun e => rowsD e 60) && gmB (ds.map wsOfD))) = false
  by_cases c : 1 ≤ ds.length
  · rw [decide_eq_false (fun c2 => h ⟨c, c2⟩), Bool.and_false, Bool.false_and]
  · rw [decide_eq_false c, Bool.false_and, Bool.false_and]
theorem gameD_of {ds : List PyData} (h1 : 1 ≤ ds.length) (h2 : ds.length ≤ 600) (h : ds.all (fun e => rowsD e 60) = true) : gameD (.tuple ds) = gmB (ds.map wsOfD) := by
  show ((decide (1 ≤ ds.length) && decide (ds.length ≤ 600)) && (ds.all (fun e => rowsD e 60) && gmB (ds.map wsOfD))) = _
  rw [h, decide_eq_true h1, decide_eq_true h2]
  rfl
/-- right rows stand as rows -/
theorem rows_at {K : PySem.W.Frag} {tp : Addr} {H : Hp} : ∀ {xs : List V} {ds : List PyData}, Paired (At K tp H) xs ds → ds.all (fun e => rowsD e 60) = true → Paired (RwAt H) xs (ds.map wsOfD) ∧ ∀ r ∈ ds.map wsOfD, rwOk r
  | _, _, .nil, _ => ⟨.nil, fun r hr => absurd hr (List.not_mem_nil)⟩
  | _, _, .cons (a := x) (b := d) h t, l => by
    rw [List.all_cons, Bool.and_eq_true] at l
    obtain ⟨r1, r2⟩ := rows_at t l.2
    rcases tupOr h with ⟨a, zs, ws, rfl, rfl, ha, pz⟩ | ⟨_, no⟩
    rotate_left
    · rw [rowsD_no no] at l
      exact absurd l.1 Bool.false_ne_true
    have l1 : (decide ((ws.length : Int) ≤ 60) && ws.all (fun e => letD e 20)) = true := l.1
    rw [Bool.and_eq_true] at l1
    obtain ⟨e3, b1, b2⟩ := row_at pz l1.2
    have l60 := of_decide_eq_true l1.1
    refine ⟨.cons ⟨a, rfl, by rw [ha, e3]; rfl⟩ r1, fun r hr => ?_⟩
    rcases List.mem_cons.mp hr with rfl | hr
    · exact ⟨by show (ws.map strOfD).length ≤ 60; rw [List.length_map]; omega, fun z hz => ⟨List.all_eq_true.mp b1 z hz, b2 z hz⟩⟩
    · exact r2 r hr
section
variable {P : Program} {w : World} {K : PySem.W.Frag} {mg : Str → Option Value} {base : Heap}
def sp_is_game (K : PySem.W.Frag) : Sp := fun vs H Q _ => ∃ (x : V), vs = [x] ∧ ∃ tp d, At K tp H x d ∧ ∀ H', Same H H' → Q (.bl (gameD d)) H'
theorem c_is_game (T : Txt K mg) : Cal P w K mg base 5 "is_game" (sp_is_game K) [] := by
  have C_is_ascending := c_is_ascending (P := P) (w := w) (base := base) T
  have C_is_row := c_is_row (P := P) (w := w) (base := base) T
  have sc := sc_is_game
  refine cal_of T.d_is_game sc (fun _ _ _ _ _ _ us hl => match us, hl with | [_], _ => rfl) (fun vs H Q E h => ?_) (fun f cdv A outer s H vs Q E hr h => ?_)
  · obtain ⟨x, rfl, _⟩ := h
    rfl
  · obtain ⟨x, rfl, h⟩ := h
    refine ⟨_, (pss_cons (ps_if (PW.pt (pw_or (pt_not (pt_val (pe_callB call_isi rfl T.m_isinstance (by decide +kernel) (pa_cons (pv 0) (pa_cons (pe_bltn (v := .ty "tuple") (u := .type "tuple") rfl T.m_tuple (by decide +kernel) rfl) pa_nil))))) (pw_or1 (pt_not (pt_chain op_le op_le pe_int (pe_callB (r := Nm.rLenS K) (id := "len") Nm.call_lenS rfl T.m_len (by decide +kernel) (pa_cons (pv 0) pa_nil)) (pe_gc rfl T.g_MOST_ROWS)))))) (pss_one (ps_ret pe_bl)) pss_nil)
  (pss_cons (ps_if (PW.pt (pw_or (pt_not (pt_val (pe_callB (cr_all rfl) rfl T.m_all (by decide +kernel) (pa_cons (pe_lc (own := [("row", 2)]) (g := gName 2) rfl sc.nd (pi_tup (pv 0)) (blkOk_by (own := [("row", 2)]) (N := ["thing", "rows", "row"]) (sc := defScope s_is_game) (by decide +kernel)) (fun _ _ _ _ _ => (pg_name (i := 2) sc.nd rfl (Or.inl rfl))) (fun _ _ _ _ _ => pts_nil) (fun _ _ _ _ _ => (pe_c C_is_row hr (by omega) rfl (pa_cons (pv 2) pa_nil)))) pa_nil)))) (pw_or1 (pt_not (pt_val (pe_c C_is_ascending hr (by omega) rfl (pa_cons (pv 0) pa_nil))))))) (pss_one (ps_ret pe_bl)) pss_nil)
  (pss_cons (ps_set (i := 1) sc.nd rfl (Or.inr rfl) (Nm.pe_dcT (own := [("row", 2)]) (g := gName 2) rfl sc.nd (hu_of hr) (pi_tup (pv 0)) (blkOk_by (own := [("row", 2)]) (N := ["thing", "rows", "row"]) (sc := defScope s_is_game) (by decide +kernel)) (fun _ _ _ _ _ => (pg_name (i := 2) sc.nd rfl (Or.inl rfl))) (fun _ _ _ _ _ => (pv 2)) (fun _ _ _ _ _ => pe_bl)))
  (pss_one (ps_ret (pe_callB (cr_all rfl) rfl T.m_all (by decide +kernel) (pa_cons (pe_lc (own := [("row", 2)]) (g := gName 2) rfl sc.nd (pi_tup (pv 0)) (blkOk_by (own := [("row", 2)]) (N := ["thing", "rows", "row"]) (sc := defScope s_is_game) (by decide +kernel)) (fun _ _ _ _ _ => (pg_name (i := 2) sc.nd rfl (Or.inl rfl))) (fun _ _ _ _ _ => pts_nil) (fun _ _ _ _ _ => (pe_cmp (pc_din (hu_of hr) (pe_slice (r := rSlA K) sl_tupA (pv 2) po_none (po_some (pe_un un_neg pe_int))) (pv 1)) rfl))) pa_nil))))))), ?_⟩
    obtain ⟨tp0, d, hA, q⟩ := h
    rcases tupOr hA with ⟨a, xs, ds, rfl, rfl, ha, pr⟩ | ⟨⟨_, nty, nt'⟩, no⟩
    rotate_left
    · refine ⟨_, rfl, _, _, _, _, false, rfl, .ty _, nty, nt', false, rfl, ?_⟩
      have q' := q H (Same.refl H)
      rw [gameD_no no] at q'
      exact iteT (iteT q')
    have el : xs.length = ds.length := paired_len pr
    refine ⟨_, rfl, _, _, _, _, true, rfl, .ty _, .base (.tup ha), kit_ty (a := "tuple") (by decide +kernel), true, rfl, ?_⟩
    refine iteF ⟨_, rfl, a, _, rfl, .inr (SqT.of ha), _, _, rfl, rfl, decide (1 ≤ (xs.length : Int)), rfl, ?_⟩
    by_cases c1 : 1 ≤ ds.length
    rotate_left
    · rw [decide_eq_false (show ¬ (1 ≤ (xs.length : Int)) by omega)]
      have q' := q H (Same.refl H)
      rw [gameD_off fun z => c1 z.1] at q'
      exact iteF ⟨false, rfl, iteT q'⟩
    rw [decide_eq_true (show 1 ≤ (xs.length : Int) by omega)]
    refine iteT ⟨_, _, rfl, rfl, decide ((xs.length : Int) ≤ 600), rfl, ?_⟩
    by_cases c2 : ds.length ≤ 600
    rotate_left
    · rw [decide_eq_false (show ¬ ((xs.length : Int) ≤ 600) by omega)]
      have q' := q H (Same.refl H)
      rw [gameD_off fun z => c2 z.2] at q'
      exact iteT q'
    rw [decide_eq_true (show (xs.length : Int) ≤ 600 by omega)]
    refine iteF ⟨_, rfl, a, rfl, ⟨_, SqT.of ha⟩, fun D hD => ?_⟩
    refine lcS (walk_tup (K := K) (a := a) (xs := xs)) stays_bl ds (fun _ => true) (fun e => rowsD e 60) el (by omega) (fun H1 g => SqT.of (g _ _ ha)) hD ?_ ?_
    · rintro i x e H1 H2 Nx hw ⟨rfl, hx⟩ sm _ yes
      obtain ⟨e', he', hAe⟩ := paired_at pr i _ hx
      have ee : e' = e := Option.some.inj (he'.symm.trans hw)
      subst ee
      refine ⟨rfl, ?_⟩
      exact ⟨_, rfl, x, rfl, tp0, e', At.same sm _ _ hAe, fun H3 g3 => yes rfl _ _ g3 rfl⟩
    intro H1 sm l
    rw [filter_all] at l
    have ea : ((ds.map fun e => rowsD e 60).all id) = ds.all (fun e => rowsD e 60) := by
      rw [List.all_map]
      rfl
    cases eb : ds.all (fun e => rowsD e 60) with
    | false =>
      refine ⟨D, _, rfl, sql_bl l, false, by rw [ea, eb], ?_⟩
      have q' := q H1 sm
      rw [gameD_bad eb] at q'
      exact iteT (iteT q')
    | true =>
      refine ⟨D, _, rfl, sql_bl l, true, by rw [ea, eb], ?_⟩
      rw [gameD_of c1 c2 eb] at q
      obtain ⟨pa, okr⟩ := rows_at pr eb
      have lr : (ds.map wsOfD).length = ds.length := List.length_map ..
      generalize ds.map wsOfD = rs at q pa okr lr
      have gm : GmAt H a rs := ⟨xs, ha, pa⟩
      refine iteF ⟨_, rfl, a, rfl, rs, gm.keep (tups_same sm), by omega, fun H2 g2 => ⟨ascB rs, rfl, ?_⟩⟩
      have sm2 := sm.trans g2
      cases ec : ascB rs with
      | false =>
        have q' := q H2 sm2
        unfold gmB at q'
        rw [ec, Bool.false_and] at q'
        exact iteT q'
      | true =>
      unfold gmB at q
      rw [ec, Bool.true_and] at q
      refine iteF ?_
      have gm2 := gm.keep (tups_same sm2)
      refine ⟨_, rfl, a, rfl, ⟨_, SqT.of (sm2 _ _ ha)⟩, fun D2 hD2 => ?_⟩
      refine dcT_true (K := K) gm2 (by omega) hD2 (fun i r ws H3 Nx hw g3 hr ⟨ents, e1, e2, e3⟩ => ⟨rfl, _, rfl, ents, keyRow ws, r, rfl, e1, by rw [kV_row]; exact hr, e2, e3⟩) ?_
      intro H3 ents ks g3 hD3 hk mem
      have sm3 := sm2.trans g3
      refine ⟨_, rfl, a, rfl, ⟨_, SqT.of (sm3 _ _ ha)⟩, fun D4 hD4 => ?_⟩
      refine lcS (walk_tup (K := K) (a := a) (xs := xs)) stays_bl rs (fun _ => true) (fun r => decide (r.dropLast ∈ rs)) (by omega) (by omega) (fun H1 g => SqT.of (g _ _ (sm3 _ _ ha))) hD4 ?_ ?_
      · rintro i x ws H4 H5 Nx hw ⟨rfl, hx⟩ sm4 _ yes
        obtain ⟨ws', hw', r, rfl, hr⟩ := paired_at pa i _ hx
        have e : ws' = ws := Option.some.inj (hw'.symm.trans hw)
        subst e
        refine ⟨rfl, ?_⟩
        refine ⟨_, rfl, 1, rfl, _, rfl, sl_last (sm4 _ _ (sm3 _ _ hr)) fun r2 H5 g5 hr2 => ?_⟩
        refine ⟨_, rfl, D2, valV ents (keyRow ws'.dropLast), rfl, DGet.t (g5 _ _ (sm4 _ _ hD3)) (by rw [kV_row, List.map_dropLast]; exact hr2), ?_⟩
        rw [keys_isSome hk]
        exact yes rfl _ _ g5 (congrArg V.bl (decide_eq_decide.mpr (mem _)))
      · intro H4 sm4 l4
        refine ⟨D4, _, rfl, sql_bl l4, ?_⟩
        rw [filter_all, List.all_map]
        exact q H4 (sm3.trans sm4)
end
end K01
namespace K01
open PySem L2 Nm
open C8 (Cal Mak pe_c pe_mk pe_gc)
open RZ (ItzT pi_zipA)
section
variable {P : Program} {w : World} {K : PySem.W.Frag} {mg : Str → Option Value} {base : Heap}
def sp__law_tape (K : PySem.W.Frag) : Sp := fun vs H Q _ => ∃ (a : Addr), vs = [.ref a] ∧ ∃ ns : List Int, SqL K H a (ns.map V.int) ∧ ∀ tp l H', Same H H' → H tp = none → TapeAt H' tp l → Q (.ref tp) H'
theorem c__law_tape (T : Txt K mg) : Cal P w K mg base 1 "_law_tape" (sp__law_tape K) [] := by
  have sc := sc__law_tape
  refine cal_of T.d__law_tape sc (fun _ _ _ _ _ _ us hl => match us, hl with | [_], _ => rfl) (fun vs H Q E h => ?_) (fun f cdv A outer s H vs Q E hr h => ?_)
  · obtain ⟨a, rfl, _⟩ := h
    rfl
  · obtain ⟨a, rfl, h⟩ := h
    refine ⟨_, (pss_one (ps_ret (pe_lst (pa_cons (pe_callTy call_list_of rfl T.m_list (by decide +kernel) (pa_cons (pv 0) pa_nil)) (pa_cons pe_int (pa_cons pe_int (pa_cons pe_int (pa_cons pe_int pa_nil)))))))), ?_⟩
    obtain ⟨ns, hs, q⟩ := h
    refine ⟨_, rfl, a, _, rfl, .inl hs, fun l hl => ⟨(by show 5 ≤ PySem.sizeLine; decide), fun tp ht => ?_⟩⟩
    have g1 : Same H (upd H l (.lst (ns.map V.int))) := same_new hl
    exact q tp l _ (g1.trans (same_new ht)) (g1.free ht) ⟨ns, 0, 0, 1, 0, upd_same, same_new ht _ _ upd_same, Int.le_refl 0⟩
end
end K01
namespace K01
open PySem L2 Nm
open C8 (Cal Mak pe_c pe_mk pe_gc)
open RZ (ItzT pi_zipA)
section
variable {P : Program} {w : World} {K : PySem.W.Frag} {mg : Str → Option Value} {base : Heap}
def sp__law_pick (K : PySem.W.Frag) : Sp := fun vs H Q _ => ∃ (tp : Addr) (size : Int), vs = [.ref tp, .int size] ∧ ∃ l, TapeAt H tp l ∧ 1 ≤ size ∧ size ≤ 1000 ∧ ∀ r H', 0 ≤ r → r < size → TapeAt H' tp l → Mov tp H H' → Q (.int r) H'
theorem c__law_pick (T : Txt K mg) : Cal P w K mg base 1 "_law_pick" (sp__law_pick K) [] := by
  have sc := sc__law_pick
  refine cal_of T.d__law_pick sc (fun _ _ _ _ _ _ us hl => match us, hl with | [_, _], _ => rfl) (fun vs H Q E h => ?_) (fun f cdv A outer s H vs Q E hr h => ?_)
  · obtain ⟨tp, size, rfl, _⟩ := h
    rfl
  · obtain ⟨tp, size, rfl, h⟩ := h
    refine ⟨_, (pss_cons (ps_if (pt_cmpR op_gt (pe_ix ix_list (pv 0) pe_int (fun _ _ => rfl)) pe_int (nomark _)) (pss_cons (ps_set (i := 2) sc.nd rfl (Or.inl rfl) (pe_op op_mod (pe_callTy call_int1 rfl T.m_int (by decide +kernel) (pa_cons (pe_ix ix_list (pv 0) pe_int (fun _ _ => rfl)) pa_nil)) (pv 1)))
  (pss_cons (ps_asg (pe_op op_fdiv (pe_ix ix_list (pv 0) pe_int (fun _ _ => rfl)) (pv 1)) (pg_sub (pv 0) pe_int set_list))
  (pss_one (ps_ret (pv 2))))) pss_nil)
  (pss_cons (ps_asg (pe_op op_add (pe_ix ix_list (pv 0) pe_int (fun _ _ => rfl)) pe_int) (pg_sub (pv 0) pe_int set_list))
  (pss_cons (ps_set (i := 3) sc.nd rfl (Or.inl rfl) pe_int)
  (C8.pss_cut (ps_if (pt_cmpR op_lt (pe_ix ix_list (pv 0) pe_int (fun _ _ => rfl)) (pe_callB (r := Nm.rLenS K) (id := "len") Nm.call_lenS rfl T.m_len (by decide +kernel) (pa_cons (pe_ix ix_list (pv 0) pe_int (fun _ _ => rfl)) pa_nil)) (nomark _)) (pss_cons (ps_set (i := 3) sc.nd rfl (Or.inl rfl) (pe_ix ix_list (pe_ix ix_list (pv 0) pe_int (fun _ _ => rfl)) (pe_ix ix_list (pv 0) pe_int (fun _ _ => rfl)) (fun _ _ => rfl)))
  (pss_one (ps_asg (pe_op op_add (pe_ix ix_list (pv 0) pe_int (fun _ _ => rfl)) pe_int) (pg_sub (pv 0) pe_int set_list)))) pss_nil)
  (pss_cons (ps_if (pt_cmpR op_ge (pv 3) (pe_op op_pow pe_int pe_int) (nomark _)) (pss_cons (ps_asg (pe_op op_fdiv (pv 3) (pv 1)) (pg_sub (pv 0) pe_int set_list))
  (pss_one (ps_ret (pe_op op_mod (pe_callTy call_int1 rfl T.m_int (by decide +kernel) (pa_cons (pv 3) pa_nil)) (pv 1))))) pss_nil)
  (pss_cons (ps_set (i := 4) sc.nd rfl (Or.inl rfl) (pe_op op_mod (pe_callTy call_int1 rfl T.m_int (by decide +kernel) (pa_cons (pe_op op_add (pe_op op_add (pe_op op_mul (pe_ix ix_list (pv 0) pe_int (fun _ _ => rfl)) pe_int) (pe_op op_mod (pe_callTy call_int1 rfl T.m_int (by decide +kernel) (pa_cons (pv 3) pa_nil)) pe_int)) (pe_op op_mul (pe_ix ix_list (pv 0) pe_int (fun _ _ => rfl)) pe_int)) pa_nil)) pe_int))
  (pss_cons (ps_set (i := 4) sc.nd rfl (Or.inl rfl) (pe_op op_mod (pe_callTy call_int1 rfl T.m_int (by decide +kernel) (pa_cons (pe_op op_mul (pv 4) (pe_op op_add (pe_op op_fdiv (pv 4) pe_int) pe_int)) pa_nil)) pe_int))
  (pss_cons (ps_asg (pv 4) (pg_sub (pv 0) pe_int set_list))
  (pss_one (ps_ret (pe_op op_mod (pe_callTy call_int1 rfl T.m_int (by decide +kernel) (pa_cons (pe_op op_fdiv (pv 4) pe_int) pa_nil)) (pv 1)))))))))))), ?_⟩
    obtain ⟨l, ⟨ns, i, c, m, n, ht, hl, h0⟩, s1, s2, q⟩ := h
    have nl : l ≠ tp := tape_ne ht hl
    have pos : (0 : Int) < size := by omega
    refine ⟨_, rfl, tp, _, 2, .int c, rfl, rfl, SqL.of ht, rfl, _, _, rfl, rfl, _, rfl, ?_⟩
    refine ite2 (fun _ => ?_) (fun _ => ?_)
    · refine ⟨_, rfl, tp, _, 2, .int c, rfl, rfl, SqL.of ht, rfl, .inl ⟨c, rfl, _, rfl, c, size, rfl, rfl, pos, ?_⟩⟩
      refine ⟨_, rfl, tp, _, 2, .int c, rfl, rfl, SqL.of ht, rfl, _, rfl, c, size, rfl, rfl, ⟨pos, by omega⟩, ?_⟩
      refine ⟨_, rfl, tp, _, 2, 2, rfl, rfl, ht, rfl, _, rfl, ?_⟩
      exact q _ _ (Int.emod_nonneg _ (by omega)) (Int.emod_lt_of_pos _ pos) ⟨ns, i, c / size, m, n, upd_same, by rw [upd_ne nl]; exact hl, h0⟩ mov_upd
    · refine ⟨_, rfl, tp, _, 4, .int n, rfl, rfl, SqL.of ht, rfl, n, 1, rfl, rfl, _, rfl, tp, _, 4, 4, rfl, rfl, ht, rfl, ?_⟩
      have ht1 : upd H tp (.lst [.ref l, .int i, .int c, .int m, .int (n + 1)]) tp = some (.lst [.ref l, .int i, .int c, .int m, .int (n + 1)]) := upd_same
      have hl1 : upd H tp (.lst [.ref l, .int i, .int c, .int m, .int (n + 1)]) l = some (.lst (ns.map V.int)) := by
        rw [upd_ne nl]
        exact hl
      refine ⟨fun σ H1 => ∃ cell j, σ = [some (.ref tp), some (.int size), none, some (.int cell), none] ∧ 0 ≤ j ∧ H1 tp = some (.lst [.ref l, .int j, .int c, .int m, .int (n + 1)]) ∧ H1 l = some (.lst (ns.map V.int)) ∧ Mov tp H H1, ?_, ?_⟩
      · refine ⟨_, rfl, tp, _, 1, .int i, rfl, rfl, SqL.of ht1, rfl, _, rfl, tp, _, 0, .ref l, rfl, rfl, SqL.of ht1, rfl, l, _, rfl, .inl (SqL.of hl1), _, _, rfl, rfl, _, rfl, ?_⟩
        rw [List.length_map]
        refine ite2 (fun z => ?_) (fun _ => ?_)
        · have z' : i < (ns.length : Int) := of_decide_eq_true z
          have at1 : atI (ns.map V.int) i = some (V.int (ns.getD i.toNat 0)) := by
            have e : i = ((i.toNat : Nat) : Int) := by omega
            rw [e, Int.toNat_natCast]
            exact at_getD (by omega)
          refine ⟨_, rfl, tp, _, 0, .ref l, rfl, rfl, SqL.of ht1, rfl, _, rfl, tp, _, 1, .int i, rfl, rfl, SqL.of ht1, rfl, l, _, i, _, rfl, rfl, SqL.of hl1, at1, ?_⟩
          refine ⟨_, rfl, tp, _, 1, .int i, rfl, rfl, SqL.of ht1, rfl, i, 1, rfl, rfl, _, rfl, tp, _, 1, 1, rfl, rfl, ht1, rfl, ?_⟩
          exact ⟨_, i + 1, rfl, by omega, upd_same, by rw [upd_ne nl]; exact hl1, mov_upd.trans mov_upd⟩
        · exact ⟨0, i, rfl, h0, ht1, hl1, mov_upd⟩
      · rintro σ H1 ⟨cell, j, rfl, j0, ht2, hl2, mv⟩
        refine ⟨_, rfl, _, _, rfl, rfl, ⟨by decide, by decide, by decide⟩, _, _, rfl, rfl, _, rfl, ?_⟩
        refine ite2 (fun _ => ?_) (fun _ => ?_)
        · refine ⟨_, rfl, _, rfl, cell, size, rfl, rfl, ⟨pos, by omega⟩, _, rfl, tp, _, 2, 2, rfl, rfl, ht2, rfl, ?_⟩
          refine ⟨_, rfl, .inl ⟨cell, rfl, _, rfl, cell, size, rfl, rfl, pos, ?_⟩⟩
          exact q _ _ (Int.emod_nonneg _ (by omega)) (Int.emod_lt_of_pos _ pos) ⟨ns, j, cell / size, m, n + 1, upd_same, by rw [upd_ne nl]; exact hl2, j0⟩ (mv.trans mov_upd)
        · refine ⟨_, rfl, tp, _, 3, .int m, rfl, rfl, SqL.of ht2, rfl, _, _, rfl, rfl, .inr ⟨by decide, by decide⟩, _, rfl, .inl ⟨cell, rfl, cell, _, rfl, rfl, (by show (0 : Int) < _; decide), ?_⟩⟩
          refine ⟨_, _, rfl, rfl, _, rfl, tp, _, 4, .int (n + 1), rfl, rfl, SqL.of ht2, rfl, _, _, rfl, rfl, .inr ⟨by decide, by decide⟩, ?_⟩
          refine ⟨_, _, rfl, rfl, .inl ⟨_, rfl, _, _, rfl, rfl, (by show (0 : Int) < _; decide), ?_⟩⟩
          have x0 : 0 ≤ (m * 48271 + cell % 2147483629 + (n + 1) * 69621) % 2147483647 := Int.emod_nonneg _ (by decide)
          have x1 : (m * 48271 + cell % 2147483629 + (n + 1) * 69621) % 2147483647 < 2147483647 := Int.emod_lt_of_pos _ (by decide)
          refine ⟨_, rfl, _, rfl, _, _, rfl, rfl, ⟨by decide, by decide⟩, _, _, rfl, rfl, _, _, rfl, rfl, .inl ⟨by omega, by omega⟩, .inl ⟨_, rfl, _, _, rfl, rfl, (by show (0 : Int) < _; decide), ?_⟩⟩
          refine ⟨_, rfl, _, rfl, tp, _, 3, 3, rfl, rfl, ht2, rfl, ?_⟩
          refine ⟨_, rfl, _, _, rfl, rfl, ⟨by decide, by decide⟩, .inl ⟨_, rfl, _, rfl, _, size, rfl, rfl, pos, ?_⟩⟩
          exact q _ _ (Int.emod_nonneg _ (by omega)) (Int.emod_lt_of_pos _ pos) ⟨ns, j, c, _, n + 1, upd_same, by rw [upd_ne nl]; exact hl2, j0⟩ (mv.trans mov_upd)
end
end K01
namespace K01
open PySem L2 Nm
open C8 (Cal Mak pe_c pe_mk pe_gc)
open RZ (ItzT pi_zipA)
theorem kit_tl_int {K : PySem.W.Frag} : PySem.W.kitAny K (.type "int") [.type "tuple", .type "list"] = some false := kitAny_cons (b := false) (kit_ty (by decide +kernel)) (fun _ => kitAny_cons (b := false) (kit_ty (by decide +kernel)) (fun _ => kitAny_nil) (fun z => absurd z (by decide))) (fun z => absurd z (by decide))
theorem kit_tl_str {K : PySem.W.Frag} : PySem.W.kitAny K (.type "str") [.type "tuple", .type "list"] = some false := kitAny_cons (b := false) (kit_ty (by decide +kernel)) (fun _ => kitAny_cons (b := false) (kit_ty (by decide +kernel)) (fun _ => kitAny_nil) (fun z => absurd z (by decide))) (fun z => absurd z (by decide))
section
variable {P : Program} {w : World} {K : PySem.W.Frag} {mg : Str → Option Value} {base : Heap}
/-- the same number, or the same text, told twice -/
def sp_same : Sp := fun vs H Q _ => ∃ (x : V), vs = [x, x] ∧ ((∃ i, x = .int i) ∨ ∃ z, x = .str z) ∧ ∀ H', Same H H' → Q (.bl true) H'
theorem c_same (T : Txt K mg) : Cal P w K mg base 1 "_law_is" sp_same [] := by
  have C__law_is : Cal P w K mg base 0 "_law_is" (fun _ _ _ _ => False) [] := cal_void T.d__law_is (ps := ["told", "due"]) (fun _ _ _ _ _ _ us hl => match us, hl with | [_, _], _ => rfl) fun vs H Q E h => h
  have sc := sc__law_is
  refine cal_of (k := 0) T.d__law_is sc (fun _ _ _ _ _ _ us hl => match us, hl with | [_, _], _ => rfl) (fun vs H Q E h => ?_) (fun f cdv A outer s H vs Q E hr h => ?_)
  · obtain ⟨x, rfl, _⟩ := h
    rfl
  obtain ⟨x, rfl, okd, q⟩ := h
  refine ⟨_, (pss_cons (ps_if (pt_val (pe_callB call_isiT rfl T.m_isinstance (by decide +kernel) (pa_cons (pv 1) (pa_cons (pe_tup (pa_cons (pe_bltn (v := .ty "tuple") (u := .type "tuple") rfl T.m_tuple (by decide +kernel) rfl) (pa_cons (pe_bltn (v := .ty "list") (u := .type "list") rfl T.m_list (by decide +kernel) rfl) pa_nil))) pa_nil)))) (pss_cons (ps_if (PW.pt (pw_or (pt_cmpR op_ne (pe_callB call_isi rfl T.m_isinstance (by decide +kernel) (pa_cons (pv 0) (pa_cons (pe_bltn (v := .ty "tuple") (u := .type "tuple") rfl T.m_tuple (by decide +kernel) rfl) pa_nil))) (pe_callB call_isi rfl T.m_isinstance (by decide +kernel) (pa_cons (pv 1) (pa_cons (pe_bltn (v := .ty "tuple") (u := .type "tuple") rfl T.m_tuple (by decide +kernel) rfl) pa_nil))) (nomark _)) (pw_or1 (pt_not (pt_val (pe_callB call_isiT rfl T.m_isinstance (by decide +kernel) (pa_cons (pv 0) (pa_cons (pe_tup (pa_cons (pe_bltn (v := .ty "tuple") (u := .type "tuple") rfl T.m_tuple (by decide +kernel) rfl) (pa_cons (pe_bltn (v := .ty "list") (u := .type "list") rfl T.m_list (by decide +kernel) rfl) pa_nil))) pa_nil)))))))) (pss_one (ps_ret pe_bl)) pss_nil)
  (pss_one (ps_ret (pe_and (pe_cmpR op_eq (pe_callB (r := Nm.rLenS K) (id := "len") Nm.call_lenS rfl T.m_len (by decide +kernel) (pa_cons (pv 0) pa_nil)) (pe_callB (r := Nm.rLenS K) (id := "len") Nm.call_lenS rfl T.m_len (by decide +kernel) (pa_cons (pv 1) pa_nil)) (nomark _)) (pe_one (pe_callB (cr_all rfl) rfl T.m_all (by decide +kernel) (pa_cons (pe_lc (own := [("one", 2), ("two", 3)]) (g := gTup K 2 (gCons (gName 2) (gCons (gName 3) gNil))) rfl sc.nd (pi_zipA rfl T.m_zip (pa_cons (pv 0) (pa_cons (pv 1) pa_nil))) (blkOk_by (own := [("one", 2), ("two", 3)]) (N := ["told", "due", "one", "two"]) (sc := defScope s__law_is) (by decide +kernel)) (fun _ _ _ _ _ => (pg_tup rfl (pgs_cons (pg_name (i := 2) sc.nd rfl (Or.inl rfl)) (pgs_cons (pg_name (i := 3) sc.nd rfl (Or.inl rfl)) pgs_nil)))) (fun _ _ _ _ _ => pts_nil) (fun _ _ _ _ _ => (pe_c C__law_is hr (by omega) rfl (pa_cons (pv 2) (pa_cons (pv 3) pa_nil))))) pa_nil))))))) pss_nil)
  (pss_one (ps_ret (pe_and (pe_cmpR op_eq (pe_callB call_isi rfl T.m_isinstance (by decide +kernel) (pa_cons (pv 0) (pa_cons (pe_bltn (v := .ty "bool") (u := .type "bool") rfl T.m_bool (by decide +kernel) rfl) pa_nil))) (pe_callB call_isi rfl T.m_isinstance (by decide +kernel) (pa_cons (pv 1) (pa_cons (pe_bltn (v := .ty "bool") (u := .type "bool") rfl T.m_bool (by decide +kernel) rfl) pa_nil))) (nomark _)) (pe_one (pe_cmpR op_eq (pv 0) (pv 1) (nomark _))))))), ?_⟩
  rcases okd with ⟨i, rfl⟩ | ⟨z, rfl⟩
  · refine ⟨_, rfl, two, fun tq htq => ?_⟩
    have g0 := same_new (o := .tup [V.ty "tuple", V.ty "list"]) htq
    refine ⟨_, tq, _, _, _, false, rfl, upd_same, .cons (.ty _) (.cons (.ty _) .nil), .base (.int i), kit_tl_int, false, rfl, ?_⟩
    refine iteF ?_
    refine ⟨_, rfl, _, _, _, _, false, rfl, .ty _, .base (.int i), kit_ty (a := "int") (b := "bool") (by decide +kernel), _, rfl, _, _, _, _, false, rfl, .ty _, .base (.int i), kit_ty (a := "int") (b := "bool") (by decide +kernel), rfl, _, rfl, ?_⟩
    refine iteP rfl ⟨_, rfl, _, rfl, rfl, ?_⟩
    have e := q _ g0
    rw [← decide_eq_true (show V.int i = V.int i from rfl)] at e
    exact e
  · refine ⟨_, rfl, two, fun tq htq => ?_⟩
    have g0 := same_new (o := .tup [V.ty "tuple", V.ty "list"]) htq
    refine ⟨_, tq, _, _, _, false, rfl, upd_same, .cons (.ty _) (.cons (.ty _) .nil), .base (.str z), kit_tl_str, false, rfl, ?_⟩
    refine iteF ?_
    refine ⟨_, rfl, _, _, _, _, false, rfl, .ty _, .base (.str z), kit_ty (a := "str") (b := "bool") (by decide +kernel), _, rfl, _, _, _, _, false, rfl, .ty _, .base (.str z), kit_ty (a := "str") (b := "bool") (by decide +kernel), rfl, _, rfl, ?_⟩
    refine iteP rfl ⟨_, rfl, _, rfl, rfl, ?_⟩
    have e := q _ g0
    rw [← decide_eq_true (show V.str z = V.str z from rfl)] at e
    exact e
end
end K01
namespace K01
open PySem L2 Nm
open C8 (Cal Mak pe_c pe_mk pe_gc)
open RZ (ItzT pi_zipA)
section
variable {P : Program} {w : World} {K : PySem.W.Frag} {mg : Str → Option Value} {base : Heap}
def sp__law_flag (K : PySem.W.Frag) : Sp := fun vs H Q _ => ∃ (b c : Bool), vs = [.bl b, .bl c] ∧ Q (.bl (decide (b = c))) H
theorem c__law_flag (T : Txt K mg) : Cal P w K mg base 1 "_law_flag" (sp__law_flag K) [] := by
  have sc := sc__law_flag
  refine cal_of T.d__law_flag sc (fun _ _ _ _ _ _ us hl => match us, hl with | [_, _], _ => rfl) (fun vs H Q E h => ?_) (fun f cdv A outer s H vs Q E hr h => ?_)
  · obtain ⟨b, c, rfl, _⟩ := h
    rfl
  · obtain ⟨b, c, rfl, h⟩ := h
    refine ⟨_, (pss_one (ps_ret (pe_and (pe_callB call_isi rfl T.m_isinstance (by decide +kernel) (pa_cons (pv 0) (pa_cons (pe_bltn (v := .ty "bool") (u := .type "bool") rfl T.m_bool (by decide +kernel) rfl) pa_nil))) (pe_one (pe_cmpR op_eq (pv 0) (pv 1) (nomark _)))))), ?_⟩
    obtain ⟨t, t1, t2⟩ := tyc_bl (K := K) (H := H) b
    refine ⟨_, rfl, _, _, t, _, true, rfl, .ty _, t1, t2, true, rfl, ?_⟩
    refine iteT ⟨_, rfl, _, rfl, rfl, ?_⟩
    have e : decide (V.bl b = V.bl c) = decide (b = c) := by cases b <;> cases c <;> rfl
    show Q (V.bl (decide (V.bl b = V.bl c))) H
    rw [e]
    exact h
end
end K01
namespace K01
open PySem L2 Nm
open C8 (Cal Mak pe_c pe_mk pe_gc)
open RZ (ItzT pi_zipA)
theorem at_ok {xs : List V} {r : Int} (h0 : 0 ≤ r) (h1 : r < (xs.length : Int)) : ∃ x, atI xs r = some x ∧ x ∈ xs := by
  obtain ⟨k, rfl⟩ : ∃ k : Nat, r = (k : Int) := ⟨r.toNat, by omega⟩
  have e : xs[k]? = some (xs[k]'(by omega)) := List.getElem?_eq_getElem (by omega)
  exact ⟨_, atI_nat e, List.mem_of_getElem? e⟩
section
variable {P : Program} {w : World} {K : PySem.W.Frag} {mg : Str → Option Value} {base : Heap}
def sp__law_some (K : PySem.W.Frag) : Sp := fun vs H Q _ => ∃ (tp p : Addr), vs = [.ref tp, .ref p] ∧ ∃ l xs, TapeAt H tp l ∧ H p = some (.tup xs) ∧ 1 ≤ xs.length ∧ xs.length ≤ 1000 ∧ ∀ (x : V) (H' : Hp), x ∈ xs → TapeAt H' tp l → Mov tp H H' → Q x H'
theorem c__law_some (T : Txt K mg) : Cal P w K mg base 2 "_law_some" (sp__law_some K) [] := by
  have C__law_pick := c__law_pick (P := P) (w := w) (base := base) T
  have sc := sc__law_some
  refine cal_of T.d__law_some sc (fun _ _ _ _ _ _ us hl => match us, hl with | [_, _], _ => rfl) (fun vs H Q E h => ?_) (fun f cdv A outer s H vs Q E hr h => ?_)
  · obtain ⟨tp, p, rfl, _⟩ := h
    rfl
  · obtain ⟨tp, p, rfl, h⟩ := h
    refine ⟨_, (pss_one (ps_ret (pe_ix ix_tup (pv 1) (pe_c C__law_pick hr (by omega) rfl (pa_cons (pv 0) (pa_cons (pe_callB (r := Nm.rLenS K) (id := "len") Nm.call_lenS rfl T.m_len (by decide +kernel) (pa_cons (pv 1) pa_nil)) pa_nil))) (fun _ _ => rfl)))), ?_⟩
    obtain ⟨l, xs, t, hp, l1, l2', q⟩ := h
    refine ⟨_, rfl, _, rfl, _, rfl, p, _, rfl, .inr (SqT.of hp), tp, _, rfl, l, t, by omega, by omega, fun r H1 r0 r1 t1 mv => ?_⟩
    obtain ⟨x, hx, mx⟩ := at_ok r0 r1
    exact ⟨p, _, r, x, rfl, rfl, SqT.of ((t.keep mv).tups _ _ hp), hx, q x H1 mx t1 mv⟩
end
end K01
namespace K01
open PySem L2 Nm
open C8 (Cal Mak pe_c pe_mk pe_gc)
open RZ (ItzT pi_zipA)
theorem few_ok : ∀ x ∈ [V.str "a", V.str "b", V.str "c", V.str "a", V.str "b", V.str "ab", V.str "zz", V.str "c", V.str "aa", V.str "qwertyuiopasdfghjklz"], ∃ z, x = .str z ∧ wordOk z := by
  intro x hx
  simp only [List.mem_cons, List.not_mem_nil, or_false] at hx
  rcases hx with rfl | rfl | rfl | rfl | rfl | rfl | rfl | rfl | rfl | rfl <;> exact ⟨_, rfl, by decide +kernel, by decide +kernel⟩
section
variable {P : Program} {w : World} {K : PySem.W.Frag} {mg : Str → Option Value} {base : Heap}
def sp__law_word (K : PySem.W.Frag) : Sp := fun vs H Q _ => ∃ (tp : Addr), vs = [.ref tp] ∧ ∃ l, TapeAt H tp l ∧ ∀ z H', wordOk z → TapeAt H' tp l → Mov tp H H' → Q (.str z) H'
theorem c__law_word (T : Txt K mg) : Cal P w K mg base 2 "_law_word" (sp__law_word K) [] := by
  have C__law_pick := c__law_pick (P := P) (w := w) (base := base) T
  have sc := sc__law_word
  refine cal_of T.d__law_word sc (fun _ _ _ _ _ _ us hl => match us, hl with | [_], _ => rfl) (fun vs H Q E h => ?_) (fun f cdv A outer s H vs Q E hr h => ?_)
  · obtain ⟨tp, rfl, _⟩ := h
    rfl
  · obtain ⟨tp, rfl, h⟩ := h
    refine ⟨_, (pss_cons (ps_set (i := 1) sc.nd rfl (Or.inl rfl) (pe_lst (pa_cons pe_str (pa_cons pe_str (pa_cons pe_str (pa_cons pe_str (pa_cons pe_str (pa_cons pe_str (pa_cons pe_str (pa_cons pe_str (pa_cons pe_str (pa_cons pe_str pa_nil))))))))))))
  (pss_one (ps_ret (pe_ix ix_list (pv 1) (pe_c C__law_pick hr (by omega) rfl (pa_cons (pv 0) (pa_cons pe_int pa_nil))) (fun _ _ => rfl))))), ?_⟩
    obtain ⟨l, t, q⟩ := h
    refine ⟨(by show 10 ≤ PySem.sizeLine; decide), fun p hp => ?_⟩
    have np := t.new hp
    have g := same_new (o := .lst [V.str "a", V.str "b", V.str "c", V.str "a", V.str "b", V.str "ab", V.str "zz", V.str "c", V.str "aa", V.str "qwertyuiopasdfghjklz"]) hp
    refine ⟨_, rfl, _, rfl, tp, 10, rfl, l, t.same g, by decide, by decide, fun r H1 r0 r1 t1 mv => ?_⟩
    obtain ⟨x, hx, mx⟩ := at_ok (xs := [V.str "a", V.str "b", V.str "c", V.str "a", V.str "b", V.str "ab", V.str "zz", V.str "c", V.str "aa", V.str "qwertyuiopasdfghjklz"]) r0 r1
    obtain ⟨z, rfl, hz⟩ := few_ok x mx
    exact ⟨p, _, r, _, rfl, rfl, SqL.of (mv _ _ upd_same np.1), hx, q z H1 hz t1 ((mov_same g).trans mv)⟩
end
end K01
namespace K01
open PySem L2 Nm
open C8 (Cal Mak pe_c pe_mk pe_gc)
open RZ (ItzT pi_zipA)
/-- the rows that have grown so far -/
structure Grow (rs : List (List Str)) (i : Nat) : Prop where
  nil : [] ∈ rs
  nd : rs.Nodup
  pre : ∀ r ∈ rs, r.dropLast ∈ rs
  ok : ∀ r ∈ rs, r.length ≤ i ∧ ∀ z ∈ r, wordOk z
  len : rs.length ≤ i + 1
theorem Grow.next {rs : List (List Str)} {i : Nat} (g : Grow rs i) : Grow rs (i + 1) := ⟨g.nil, g.nd, g.pre, fun r hr => ⟨by have := (g.ok r hr).1; omega, (g.ok r hr).2⟩, by have := g.len; omega⟩
theorem Grow.more {rs : List (List Str)} {i : Nat} (g : Grow rs i) {row : List Str} (hr : row ∈ rs) {w : Str} (hw : wordOk w) (n : row ++ [w] ∉ rs) : Grow (rs ++ [row ++ [w]]) (i + 1) := by
  refine ⟨List.mem_append_left _ g.nil, List.nodup_append.mpr ⟨g.nd, List.pairwise_singleton _ _, fun a ha b hb e => n (by rw [← List.mem_singleton.mp hb, ← e]; exact ha)⟩, fun r hr' => ?_, fun r hr' => ?_, ?_⟩
  · rcases List.mem_append.mp hr' with h | h
    · exact List.mem_append_left _ (g.pre r h)
    · rw [List.mem_singleton.mp h, List.dropLast_concat]
      exact List.mem_append_left _ hr
  · rcases List.mem_append.mp hr' with h | h
    · exact ⟨by have := (g.ok r h).1; omega, (g.ok r h).2⟩
    · rw [List.mem_singleton.mp h]
      refine ⟨by rw [List.length_append, List.length_singleton]; have := (g.ok row hr).1; omega, fun z hz => ?_⟩
      rcases List.mem_append.mp hz with m | m
      · exact (g.ok row hr).2 z m
      · rw [List.mem_singleton.mp m]
        exact hw
  · rw [List.length_append, List.length_singleton]
    have := g.len
    omega
theorem Grow.game {rs gs : List (List Str)} {i : Nat} (g : Grow rs i) (i6 : i ≤ 60) (up : gs.Pairwise bef) (pm : gs.Perm rs) : IsG gs :=
  ⟨up, pm.mem_iff.mpr g.nil, fun r hr => pm.mem_iff.mpr (g.pre r (pm.mem_iff.mp hr)), fun r hr => ⟨by have := (g.ok r (pm.mem_iff.mp hr)).1; omega, (g.ok r (pm.mem_iff.mp hr)).2⟩, by rw [pm.length_eq]; have := g.len; omega⟩
section
variable {P : Program} {w : World} {K : PySem.W.Frag} {mg : Str → Option Value} {base : Heap}
def sp__law_game (K : PySem.W.Frag) : Sp := fun vs H Q _ => ∃ (tp : Addr) (most : Int), vs = [.ref tp, .int most] ∧ ∃ l, TapeAt H tp l ∧ 1 ≤ most ∧ most ≤ 60 ∧
  ∀ (p : Addr) (gs : List (List Str)) (H' : Hp), GmAt H' p gs → IsG gs → (gs.length : Int) ≤ most → (∀ r ∈ gs, (r.length : Int) < most) → TapeAt H' tp l → Mov tp H H' → Q (.ref p) H'
theorem c__law_game (T : Txt K mg) : Cal P w K mg base 3 "_law_game" (sp__law_game K) [] := by
  have C__law_pick := c__law_pick (P := P) (w := w) (base := base) T
  have C__law_word := c__law_word (P := P) (w := w) (base := base) T
  have sc := sc__law_game
  refine cal_of T.d__law_game sc (fun _ _ _ _ _ _ us hl => match us, hl with | [_, _], _ => rfl) (fun vs H Q E h => ?_) (fun f cdv A outer s H vs Q E hr h => ?_)
  · obtain ⟨tp, most, rfl, _⟩ := h
    rfl
  · obtain ⟨tp, most, rfl, h⟩ := h
    refine ⟨_, (pss_cons (ps_set (i := 2) sc.nd rfl (Or.inl rfl) (pe_lst (pa_cons (pe_tup pa_nil) pa_nil)))
  (pss_cons (ps_for PassesOwn.never rfl (pi_range1 rfl T.m_range (pa_cons (pe_c C__law_pick hr (by omega) rfl (pa_cons (pv 0) (pa_cons (pv 1) pa_nil))) pa_nil)) (pg_name (i := 3) sc.nd rfl (Or.inl rfl)) (pss_cons (ps_set (i := 4) sc.nd rfl (Or.inl rfl) (pe_ix ix_list (pv 2) (pe_c C__law_pick hr (by omega) rfl (pa_cons (pv 0) (pa_cons (pe_callB (r := Nm.rLenS K) (id := "len") Nm.call_lenS rfl T.m_len (by decide +kernel) (pa_cons (pv 2) pa_nil)) pa_nil))) (fun _ _ => rfl)))
  (C8.pss_cut (ps_if (pt_cmpR op_gt (pe_c C__law_pick hr (by omega) rfl (pa_cons (pv 0) (pa_cons pe_int pa_nil))) pe_int (nomark _)) (pss_one (ps_set (i := 4) sc.nd rfl (Or.inl rfl) (pe_ix ix_list (pv 2) (pe_un un_neg pe_int) (fun _ _ => rfl)))) pss_nil)
  (pss_cons (ps_set (i := 5) sc.nd rfl (Or.inl rfl) (pe_op op_catA (pv 4) (pe_tup (pa_cons (pe_c C__law_word hr (by omega) rfl (pa_cons (pv 0) pa_nil)) pa_nil))))
  (pss_one (ps_if (pt_cmpR (op_notInD (u65 hr)) (pv 5) (pv 2) rfl) (pss_one (ps_expr (pe_bm PySem.F.plainAttrs_list PySem.F.slot_list_append PySem.F.type_list_append mt_append (pv 2) (pa_cons (pv 5) pa_nil)))) pss_nil))))))
  (pss_one (ps_ret (pe_callTy call_tuple_of rfl T.m_tuple (by decide +kernel) (pa_cons (pe_callB (NmD.cr_sortD (u66 hr)) rfl T.m_sorted (by decide +kernel) (pa_cons (pv 2) pa_nil)) pa_nil)))))), ?_⟩
    obtain ⟨l, t0, m1, m6, q⟩ := h
    refine ⟨nought, fun e0 he0 => ⟨(by show 1 ≤ PySem.sizeLine; decide), fun D hD => ?_⟩⟩
    have g0 := (same_new (o := .tup []) he0).trans (same_new (o := .lst [V.ref e0]) hD)
    have t1 := t0.same g0
    have nD := (t0.same (same_new (o := .tup []) he0)).new hD
    have hD1 : upd (upd H e0 (.tup [])) D (.lst [V.ref e0]) D = some (.lst [V.ref e0]) := upd_same
    have he1 : upd (upd H e0 (.tup [])) D (.lst [V.ref e0]) e0 = some (.tup (([] : List Str).map V.str)) := by
      rw [upd_ne (fun z => by rw [← z, upd_same] at hD; cases hD)]
      exact upd_same
    have hDn : H D = none := by
      cases e : H D with
      | none => rfl
      | some o => rw [same_new (o := .tup []) he0 _ _ e] at hD; cases hD
    generalize upd (upd H e0 (.tup [])) D (.lst [V.ref e0]) = H1 at g0 t1 hD1 he1
    refine ⟨_, rfl, _, rfl, tp, most, rfl, l, t1, by omega, by omega, fun r H2 r0 r1 t2 mv2 => ⟨r, rfl, by omega, by omega, ?_⟩⟩
    have m02 := (mov_same g0).trans mv2
    refine for_range (lo := 0) (n := r.toNat) (fun i σ H' => ∃ xs rs v3 v4 v5, σ = [some (.ref tp), some (.int most), some (.ref D), v3, v4, v5] ∧ H' D = some (.lst xs) ∧ Paired (RwAt H') xs rs ∧ Grow rs i ∧ TapeAt H' tp l ∧ Mov tp H H')
      ⟨_, [[]], _, _, _, rfl, mv2 _ _ hD1 nD.1, .cons ⟨e0, rfl, (t1.keep mv2).tups _ _ he1⟩ .nil, ⟨List.mem_singleton.mpr rfl, List.pairwise_singleton _ _, fun r hr => by rw [List.mem_singleton.mp hr]; exact List.mem_singleton.mpr rfl, fun r hr => by rw [List.mem_singleton.mp hr]; exact ⟨Nat.le_refl _, fun z hz => absurd hz (List.not_mem_nil)⟩, Nat.le_refl _⟩, t2, m02⟩ ?_ ?_
    · rintro i σ H3 hi ⟨xs, rs, v3, v4, v5, rfl, hD3, pa, gr, t3, m3⟩
      have el := paired_len pa
      have len := gr.len
      have one : 1 ≤ rs.length := List.length_pos_of_mem gr.nil
      refine ⟨_, rfl, _, rfl, _, rfl, D, _, rfl, .inl (SqL.of hD3), tp, _, rfl, l, t3, by omega, by omega, fun r4 H4 r40 r41 t4 mv4 => ?_⟩
      obtain ⟨x, hx, mx⟩ := at_ok r40 r41
      have hD4 := mv4 _ _ hD3 nD.1
      have pa4 := paired_mono (fun _ _ => stays_rw _ _ _ _ (t3.keep mv4).tups) pa
      refine ⟨D, _, r4, x, rfl, rfl, SqL.of hD4, hx, ?_⟩
      obtain ⟨i4, hi4⟩ := List.mem_iff_getElem?.mp mx
      obtain ⟨row4, hrow4, hx4⟩ := paired_at pa4 i4 x hi4
      have mrow4 := List.mem_of_getElem? hrow4
      refine ⟨fun σ H5 => ∃ y row, σ = [some (.ref tp), some (.int most), some (.ref D), some (.int (0 + (i : Int))), some y, v5] ∧ RwAt H5 y row ∧ row ∈ rs ∧ H5 D = some (.lst xs) ∧ Paired (RwAt H5) xs rs ∧ TapeAt H5 tp l ∧ Mov tp H H5, ?_, ?_⟩
      · refine ⟨_, rfl, tp, 3, rfl, l, t4, by decide, by decide, fun r5 H5 r50 r51 t5 mv5 => ⟨_, _, rfl, rfl, _, rfl, ?_⟩⟩
        have hD5 := mv5 _ _ hD4 nD.1
        have pa5 := paired_mono (fun _ _ => stays_rw _ _ _ _ (t4.keep mv5).tups) pa4
        have m5 := (m3.trans mv4).trans mv5
        refine ite2 (fun _ => ?_) (fun _ => ?_)
        · obtain ⟨y, hy, my⟩ := at_ok (xs := xs) (r := (xs.length : Int) - 1) (by omega) (by omega)
          have hy' : atI xs (-1) = some y := by
            unfold atI ixN at hy ⊢
            rw [if_pos (by omega), if_pos (by omega)] at hy
            rw [if_neg (by decide), if_pos (by omega)]
            have e : ((-1 : Int) + (xs.length : Int)).toNat = ((xs.length : Int) - 1).toNat := by omega
            show xs[((-1 : Int) + (xs.length : Int)).toNat]? = some y
            rw [e]
            exact hy
          obtain ⟨i5, hi5⟩ := List.mem_iff_getElem?.mp my
          obtain ⟨row5, hrow5, hx5⟩ := paired_at pa5 i5 y hi5
          exact ⟨_, rfl, 1, rfl, D, _, -1, y, rfl, rfl, SqL.of hD5, hy', y, row5, rfl, hx5, List.mem_of_getElem? hrow5, hD5, pa5, t5, m5⟩
        · exact ⟨x, row4, rfl, stays_rw _ _ _ _ (t4.keep mv5).tups hx4, mrow4, hD5, pa5, t5, m5⟩
      · rintro σ H5 ⟨y, row, rfl, ⟨yr, rfl, hy⟩, mrow, hD5, pa5, t5, m5⟩
        refine ⟨_, rfl, _, rfl, tp, rfl, l, t5, fun z H6 hz t6 mv6 => ⟨(by show 1 ≤ PySem.sizeLine; decide), fun c hc => ?_⟩⟩
        have g6 := same_new (o := .tup [V.str z]) hc
        have hy6 := g6 _ _ ((t5.keep mv6).tups _ _ hy)
        have lrow := (gr.ok row mrow).1
        refine cat_tups hy6 upd_same (by rw [List.length_map]; show row.length + 1 ≤ 4000; omega) fun b H7 g7 hb => ?_
        have mv7 := (mv6.trans (mov_same g6)).trans (mov_same g7)
        have hD7 := mv7 _ _ hD5 nD.1
        have pa7 := paired_mono (fun _ _ => stays_rw _ _ _ _ (t5.keep mv7).tups) pa5
        have hb' : H7 b = some (.tup ((row ++ [z]).map V.str)) := by
          rw [List.map_append]
          exact hb
        have t7 := (t6.same g6).same g7
        have okrow := (gr.ok row mrow).2
        have okz : ∀ u ∈ row ++ [z], wordOk u := fun u hu => by
          rcases List.mem_append.mp hu with m | m
          · exact okrow u m
          · rw [List.mem_singleton.mp m]
            exact hz
        refine ⟨_, rfl, _, rfl, rowD (row ++ [z]), rs.map rowD, dp_row hb', dp_gameL ⟨xs, hD7, pa7⟩, shaped_rw okz, shaped_gameL fun r hr => (gr.ok r hr).2, ?_⟩
        rw [any_row]
        by_cases c8 : row ++ [z] ∈ rs
        · rw [decide_eq_true c8]
          exact ⟨false, rfl, iteF ⟨xs, rs, _, _, _, rfl, hD7, pa7, gr.next, t7, m5.trans mv7⟩⟩
        · rw [decide_eq_false c8]
          refine ⟨true, rfl, iteT ?_⟩
          have big : (1000 : Nat) < PySem.sizeLine := by decide
          refine ⟨_, rfl, .inl ⟨rfl, _, SqL.of hD7⟩, _, rfl, D, xs, .ref b, rfl, rfl, hD7, by omega, ?_⟩
          have tl := tups_lst (vs := xs ++ [V.ref b]) hD7
          exact ⟨xs ++ [.ref b], rs ++ [row ++ [z]], _, _, _, rfl, upd_same, paired_snoc (paired_mono (fun _ _ => stays_rw _ _ _ _ tl) pa7) ⟨b, rfl, tl _ _ hb'⟩, gr.more mrow hz c8, t7.upd nD, mov_mut (m5.trans mv7) hDn⟩
    · rintro σ H3 ⟨xs, rs, v3, v4, v5, rfl, hD3, pa, gr, t3, m3⟩
      have back : ∀ x ∈ xs, ∃ ws, RwAt H3 x ws := fun x hx => by
        obtain ⟨i, hi⟩ := List.mem_iff_getElem?.mp hx
        obtain ⟨ws, _, h⟩ := paired_at pa i x hi
        exact ⟨ws, h⟩
      refine ⟨_, rfl, D, xs, fun x => rowL (rowOf H3 x), rfl, SqL.of hD3, fun x hx => ?_, fun x _ y _ => alike_rowL _ _, fun ys p srt stb hp => ⟨p, ys, rfl, .inl ⟨SqL.of upd_same, fun p2 hp2 => ?_⟩⟩⟩
      · obtain ⟨ws, r, rfl, hr⟩ := back x hx
        refine ⟨⟨r, rfl⟩, ?_, pure_rowL _, by rw [depth_rowL]; decide⟩
        show Dp K H3 (.ref r) (.tuple (rowL (rowOf H3 (.ref r))))
        rw [rowOf_at hr]
        exact dp_row hr
      obtain ⟨s1, s2, s3⟩ := sorted_rows pa gr.nd srt stb
      have g3 := (same_new (o := .lst ys) hp).trans (same_new (o := .tup ys) hp2)
      have len := gr.len
      exact q p2 (ys.map (rowOf H3)) _ ⟨ys, upd_same, paired_mono (fun _ _ => stays_rw _ _ _ _ (tups_same g3)) s1⟩ (gr.game (by omega) s2 s3) (by rw [s3.length_eq]; omega) (fun r hr => by have := (gr.ok r (s3.mem_iff.mp hr)).1; omega) (t3.same g3) (m3.trans (mov_same g3))
end
end K01
namespace K01
open PySem L2 Nm
open C8 (Cal Mak pe_c pe_mk pe_gc)
open RZ (ItzT pi_zipA)
theorem alphabet (c : Nat) : decide (c ∈ ("abcdefghijklmnopqrstuvwxyz" : Str).cps.toList) = (decide (97 ≤ c) && decide (c ≤ 122)) := by
  have e : ("abcdefghijklmnopqrstuvwxyz" : Str).cps.toList = (List.range 26).map (97 + ·) := by decide +kernel
  rw [e]
  by_cases h : 97 ≤ c ∧ c ≤ 122
  · rw [decide_eq_true h.1, decide_eq_true h.2]
    exact decide_eq_true (List.mem_map.mpr ⟨c - 97, List.mem_range.mpr (by omega), by omega⟩)
  · rw [decide_eq_false fun m => h (by
      obtain ⟨i, hi, z⟩ := List.mem_map.mp m
      have := List.mem_range.mp hi
      have z' : 97 + i = c := z
      omega)]
    by_cases a : 97 ≤ c
    · rw [decide_eq_true a, decide_eq_false (fun b => h ⟨a, b⟩)]
      rfl
    · rw [decide_eq_false a]
      rfl
section
variable {P : Program} {w : World} {K : PySem.W.Frag} {mg : Str → Option Value} {base : Heap}
def sp__law_is_word (K : PySem.W.Frag) : Sp := fun vs H Q _ => ∃ (x : V) (most : Int), vs = [x, .int most] ∧ ∃ tp d, At K tp H x d ∧ ∀ H', Same H H' → Q (.bl (letD d most)) H'
theorem c__law_is_word (T : Txt K mg) : Cal P w K mg base 1 "_law_is_word" (sp__law_is_word K) [] := by
  have sc := sc__law_is_word
  refine cal_of T.d__law_is_word sc (fun _ _ _ _ _ _ us hl => match us, hl with | [_, _], _ => rfl) (fun vs H Q E h => ?_) (fun f cdv A outer s H vs Q E hr h => ?_)
  · obtain ⟨x, most, rfl, _⟩ := h
    rfl
  · obtain ⟨x, most, rfl, h⟩ := h
    refine ⟨_, (pss_cons (ps_if (PW.pt (pw_or (pt_not (pt_val (pe_callB call_isi rfl T.m_isinstance (by decide +kernel) (pa_cons (pv 0) (pa_cons (pe_bltn (v := .ty "str") (u := .type "str") rfl T.m_str (by decide +kernel) rfl) pa_nil))))) (pw_or (pt_cmpR op_lt (pe_callB call_len_str rfl T.m_len (by decide +kernel) (pa_cons (pv 0) pa_nil)) pe_int (nomark _)) (pw_or1 (pt_cmpR op_gt (pe_callB call_len_str rfl T.m_len (by decide +kernel) (pa_cons (pv 0) pa_nil)) (pv 1) (nomark _)))))) (pss_one (ps_ret pe_bl)) pss_nil)
  (pss_one (ps_ret (pe_callB (cr_all rfl) rfl T.m_all (by decide +kernel) (pa_cons (pe_lc (own := [("sign", 2)]) (g := gName 2) rfl sc.nd (pi_str (pv 0)) (blkOk_by (own := [("sign", 2)]) (N := ["thing", "most", "sign"]) (sc := defScope s__law_is_word) (by decide +kernel)) (fun _ _ _ _ _ => (pg_name (i := 2) sc.nd rfl (Or.inl rfl))) (fun _ _ _ _ _ => pts_nil) (fun _ _ _ _ _ => (pe_cmpR op_in_sign (pv 2) pe_str rfl))) pa_nil))))), ?_⟩
    obtain ⟨tp0, d, hA, q⟩ := h
    rcases strOr hA with ⟨z, rfl, rfl, hz⟩ | ⟨⟨_, nty, ns⟩, no⟩
    rotate_left
    · refine ⟨_, rfl, _, _, _, _, false, rfl, .ty _, nty, ns, false, rfl, ?_⟩
      refine iteT (iteT ?_)
      have q' := q H (Same.refl H)
      rw [no most] at q'
      exact q'
    have q : ∀ H', Same H H' → Q (.bl (letB z most)) H' := q
    have fit : z.length ≤ sizeLine := Nat.le_trans hz (by decide)
    refine ⟨_, rfl, _, _, _, _, true, rfl, .ty _, .base (.str z), kit_ty (a := "str") (by decide +kernel), true, rfl, ?_⟩
    refine iteF ⟨_, rfl, z, rfl, fit, _, _, rfl, rfl, _, rfl, ?_⟩
    refine ite2 (fun c => iteT ?_) (fun c => ?_)
    · have e : letB z most = false := by
        have := of_decide_eq_true c
        unfold letB
        rw [decide_eq_false (show ¬ (1 ≤ (z.length : Int)) by omega), Bool.false_and, Bool.false_and]
      have q' := q H (Same.refl H)
      rw [e] at q'
      exact q'
    have c1 : 1 ≤ (z.length : Int) := by
      have := of_decide_eq_false (Bool.eq_false_iff.mpr c)
      omega
    refine ⟨_, rfl, z, rfl, fit, _, rfl, _, _, rfl, rfl, _, rfl, ?_⟩
    refine ite2 (fun c => ?_) (fun c => ?_)
    · have e : letB z most = false := by
        have := of_decide_eq_true c
        unfold letB
        rw [decide_eq_false (show ¬ ((z.length : Int) ≤ most) by omega), Bool.and_false, Bool.false_and]
      have q' := q H (Same.refl H)
      rw [e] at q'
      exact q'
    have c2 : (z.length : Int) ≤ most := by
      have := of_decide_eq_false (Bool.eq_false_iff.mpr c)
      omega
    refine ⟨_, rfl, z, rfl, fun D hD => ?_⟩
    refine lc_it walk_str (fun i H1 => H1 D = some (.lst ((z.cps.toList.take i).map fun c => V.bl (decide (97 ≤ c) && decide (c ≤ 122)))) ∧ Same H H1) ⟨upd_same, same_new hD⟩ (fun _ _ _ _ => trivial) ?_ ?_
    · rintro i x H0 H1 hi ⟨hl, g⟩ ⟨rfl, c, hc, rfl⟩
      refine ⟨rfl, ?_⟩
      have hc' : z.cps.toList[i]? = some c := by rw [Array.getElem?_toList]; exact hc
      refine ⟨_, rfl, c, _, rfl, rfl, _, hl, ?_, ?_, same_mut g hD⟩
      · rw [List.length_map, List.length_take]
        have a : z.cps.toList.length = z.length := by rw [Array.length_toList]; rfl
        have b : (1000 : Nat) < sizeLine := by decide
        omega
      · rw [upd_same, alphabet, take_one hc', List.map_append]
        rfl
    · rintro H1 ⟨hl, g⟩
      have hn : z.cps.toList.take z.cps.size = z.cps.toList := List.take_of_length_le (by rw [Array.length_toList]; exact Nat.le_refl _)
      rw [hn] at hl
      refine ⟨D, z.cps.toList.map (fun c => decide (97 ≤ c) && decide (c ≤ 122)), rfl, SqL.of (by rw [hl, List.map_map]; rfl), ?_⟩
      have e : letB z most = ((z.cps.toList.map (fun c => decide (97 ≤ c) && decide (c ≤ 122))).all id) := by
        unfold letB
        rw [decide_eq_true c1, decide_eq_true c2, List.all_map]
        rfl
      have q' := q H1 g
      rw [e] at q'
      exact q'
end
end K01
namespace K01
open PySem L2 Nm
open C8 (Cal Mak pe_c pe_mk pe_gc)
open RZ (ItzT pi_zipA)
section
variable {P : Program} {w : World} {K : PySem.W.Frag} {mg : Str → Option Value} {base : Heap}
def sp__law_is_row (K : PySem.W.Frag) : Sp := fun vs H Q _ => ∃ (x : V) (most : Int), vs = [x, .int most] ∧ most ≤ 1000 ∧ ∃ tp d, At K tp H x d ∧ ∀ H', Same H H' → Q (.bl (rowsD d most)) H'
theorem c__law_is_row (T : Txt K mg) : Cal P w K mg base 2 "_law_is_row" (sp__law_is_row K) [] := by
  have C__law_is_word := c__law_is_word (P := P) (w := w) (base := base) T
  have sc := sc__law_is_row
  refine cal_of T.d__law_is_row sc (fun _ _ _ _ _ _ us hl => match us, hl with | [_, _], _ => rfl) (fun vs H Q E h => ?_) (fun f cdv A outer s H vs Q E hr h => ?_)
  · obtain ⟨x, most, rfl, _⟩ := h
    rfl
  · obtain ⟨x, most, rfl, h⟩ := h
    refine ⟨_, (pss_one (ps_ret (pe_and (pe_callB call_isi rfl T.m_isinstance (by decide +kernel) (pa_cons (pv 0) (pa_cons (pe_bltn (v := .ty "tuple") (u := .type "tuple") rfl T.m_tuple (by decide +kernel) rfl) pa_nil))) (pe_and (pe_cmpR op_le (pe_callB (r := Nm.rLenS K) (id := "len") Nm.call_lenS rfl T.m_len (by decide +kernel) (pa_cons (pv 0) pa_nil)) (pv 1) (nomark _)) (pe_one (pe_callB (cr_all rfl) rfl T.m_all (by decide +kernel) (pa_cons (pe_lc (own := [("word", 2)]) (g := gName 2) rfl sc.nd (pi_tup (pv 0)) (blkOk_by (own := [("word", 2)]) (N := ["thing", "most", "word"]) (sc := defScope s__law_is_row) (by decide +kernel)) (fun _ _ _ _ _ => (pg_name (i := 2) sc.nd rfl (Or.inl rfl))) (fun _ _ _ _ _ => pts_nil) (fun _ _ _ _ _ => (pe_c C__law_is_word hr (by omega) rfl (pa_cons (pv 2) (pa_cons pe_int pa_nil))))) pa_nil))))))), ?_⟩
    obtain ⟨m1, tp0, d, hA, q⟩ := h
    rcases tupOr hA with ⟨a, xs, ds, rfl, rfl, ha, pr⟩ | ⟨⟨_, nty, nt'⟩, no⟩
    · have el : xs.length = ds.length := paired_len pr
      refine ⟨_, rfl, _, _, _, _, true, rfl, .ty _, .base (.tup ha), kit_ty (a := "tuple") (by decide +kernel), true, rfl, ?_⟩
      refine iteT ⟨_, rfl, a, _, rfl, .inr (SqT.of ha), _, rfl, _, _, rfl, rfl, decide ((xs.length : Int) ≤ most), rfl, ?_⟩
      by_cases c : (xs.length : Int) ≤ most
      · rw [decide_eq_true c]
        refine iteT ⟨_, rfl, a, rfl, ⟨_, SqT.of ha⟩, fun D hD => ?_⟩
        refine lc_tup (K := K) (a := a) (xs := xs) (fun i H1 => H1 D = some (.lst ((ds.take i).map fun e => V.bl (letD e 20))) ∧ Same H H1) ⟨upd_same, same_new hD⟩ (fun i H1 _ p => SqT.of (p.2 _ _ ha)) ?_ ?_
        · rintro i x H1 hx ⟨hl1, g⟩
          obtain ⟨e, he, hAe⟩ := paired_at pr i x hx
          refine ⟨rfl, ?_⟩
          refine ⟨_, rfl, x, 20, rfl, _, e, At.same g e _ hAe, fun H2 g2 => ?_⟩
          refine ⟨_, g2 _ _ hl1, ?_, ?_, ?_⟩
          · rw [List.length_map, List.length_take]
            have b : (1000 : Nat) < sizeLine := by decide
            omega
          · rw [upd_same, take_one he, List.map_append]
            rfl
          · exact same_mut (g.trans g2) hD
        · rintro H1 ⟨hl1, g⟩
          rw [el, List.take_length] at hl1
          refine ⟨D, ds.map (fun e => letD e 20), rfl, SqL.of (by rw [hl1, List.map_map]; rfl), ?_⟩
          have e : rowsD (.tuple ds) most = (ds.map (fun e => letD e 20)).all id := by
            show (decide ((ds.length : Int) ≤ most) && ds.all (fun e => letD e 20)) = _
            rw [decide_eq_true (by omega), Bool.true_and, List.all_map]
            rfl
          have q' := q H1 g
          rw [e] at q'
          exact q'
      · rw [decide_eq_false c]
        refine iteF ?_
        have e : rowsD (.tuple ds) most = false := by
          show (decide ((ds.length : Int) ≤ most) && ds.all (fun e => letD e 20)) = _
          rw [decide_eq_false (by omega), Bool.false_and]
        have q' := q H (Same.refl H)
        rw [e] at q'
        exact q'
    · refine ⟨_, rfl, _, _, _, _, false, rfl, .ty _, nty, nt', false, rfl, ?_⟩
      refine iteF ?_
      have q' := q H (Same.refl H)
      rw [rowsD_no no] at q'
      exact q'
end
end K01
namespace K01
open PySem L2 Nm
open C8 (Cal Mak pe_c pe_mk pe_gc)
open RZ (ItzT pi_zipA)
theorem asc_cons {a b : List Str} {r : List (List Str)} : ascB (a :: b :: r) = (rowLt a b && ascB (b :: r)) := rfl
theorem asc_up : ∀ {rs : List (List Str)}, ascB rs = true → rs.Pairwise bef
  | [], _ => .nil
  | [a], _ => List.pairwise_singleton _ _
  | a :: b :: r, h => by
    rw [asc_cons, Bool.and_eq_true] at h
    have ih := asc_up h.2
    refine List.pairwise_cons.mpr ⟨fun c hc => ?_, ih⟩
    rcases List.mem_cons.mp hc with rfl | hc
    · exact h.1
    · exact rowLt_tr h.1 ((List.pairwise_cons.mp ih).1 c hc)
theorem up_asc : ∀ {rs : List (List Str)}, rs.Pairwise bef → ascB rs = true
  | [], _ => rfl
  | [a], _ => rfl
  | a :: b :: r, h => by
    obtain ⟨h1, h2⟩ := List.pairwise_cons.mp h
    rw [asc_cons, up_asc h2, h1 b List.mem_cons_self]
    rfl
/-- the first row of ascending rows with all their beginnings is the empty one -/
theorem first_nil {r : List Str} {t : List (List Str)} (h : gmB (r :: t) = true) : r = [] := by
  unfold gmB at h
  rw [Bool.and_eq_true] at h
  have up := asc_up h.1
  have m := of_decide_eq_true (List.all_eq_true.mp h.2 r List.mem_cons_self)
  by_cases c : r = []
  · exact c
  have lt : bef r.dropLast r := bef_pre (List.dropLast_prefix r) fun e => by
    have := congrArg List.length e
    rw [List.length_dropLast] at this
    have : 0 < r.length := List.length_pos_iff.mpr c
    omega
  rcases List.mem_cons.mp m with e | m
  · rw [e] at lt
    unfold bef at lt
    rw [rowLt_irr] at lt
    cases lt
  · exact absurd ((List.pairwise_cons.mp up).1 _ m) (bef_not lt)
section
variable {P : Program} {w : World} {K : PySem.W.Frag} {mg : Str → Option Value} {base : Heap}
def sp__law_is_game (K : PySem.W.Frag) : Sp := fun vs H Q _ => ∃ (x : V), vs = [x] ∧ ∃ tp d, At K tp H x d ∧ ∀ H', Same H H' → Q (.bl (K01.gameD d)) H'
theorem c__law_is_game (T : Txt K mg) : Cal P w K mg base 3 "_law_is_game" (sp__law_is_game K) [] := by
  have C__law_is_row := c__law_is_row (P := P) (w := w) (base := base) T
  have sc := sc__law_is_game
  refine cal_of T.d__law_is_game sc (fun _ _ _ _ _ _ us hl => match us, hl with | [_], _ => rfl) (fun vs H Q E h => ?_) (fun f cdv A outer s H vs Q E hr h => ?_)
  · obtain ⟨x, rfl, _⟩ := h
    rfl
  · obtain ⟨x, rfl, h⟩ := h
    refine ⟨_, (pss_cons (ps_if (PW.pt (pw_or (pt_not (pt_val (pe_callB call_isi rfl T.m_isinstance (by decide +kernel) (pa_cons (pv 0) (pa_cons (pe_bltn (v := .ty "tuple") (u := .type "tuple") rfl T.m_tuple (by decide +kernel) rfl) pa_nil))))) (pw_or (pt_cmpR op_lt (pe_callB (r := Nm.rLenS K) (id := "len") Nm.call_lenS rfl T.m_len (by decide +kernel) (pa_cons (pv 0) pa_nil)) pe_int (nomark _)) (pw_or1 (pt_cmpR op_gt (pe_callB (r := Nm.rLenS K) (id := "len") Nm.call_lenS rfl T.m_len (by decide +kernel) (pa_cons (pv 0) pa_nil)) pe_int (nomark _)))))) (pss_one (ps_ret pe_bl)) pss_nil)
  (pss_cons (ps_if (PW.pt (pw_or (pt_not (pt_val (pe_callB (cr_all rfl) rfl T.m_all (by decide +kernel) (pa_cons (pe_lc (own := [("row", 2)]) (g := gName 2) rfl sc.nd (pi_tup (pv 0)) (blkOk_by (own := [("row", 2)]) (N := ["thing", "known", "row", "one", "other"]) (sc := defScope s__law_is_game) (by decide +kernel)) (fun _ _ _ _ _ => (pg_name (i := 2) sc.nd rfl (Or.inl rfl))) (fun _ _ _ _ _ => pts_nil) (fun _ _ _ _ _ => (pe_c C__law_is_row hr (by omega) rfl (pa_cons (pv 2) (pa_cons pe_int pa_nil))))) pa_nil)))) (pw_or1 (pt_cmpR (op_neD hr.units) (pe_ix ix_tup (pv 0) pe_int (fun _ _ => rfl)) (pe_tup pa_nil) (nomark _))))) (pss_one (ps_ret pe_bl)) pss_nil)
  (pss_cons (ps_set (i := 1) sc.nd rfl (Or.inr rfl) pe_dnewT)
  (pss_cons (ps_for PassesOwn.never rfl (pi_tup (pv 0)) (pg_name (i := 2) sc.nd rfl (Or.inl rfl)) (pss_one (ps_dput (hu_of hr) (pv 1) (pv 2) pe_bl rfl)))
  (pss_cons (ps_if (pt_not (pt_val (pe_callB (cr_all rfl) rfl T.m_all (by decide +kernel) (pa_cons (pe_lc (own := [("row", 2)]) (g := gName 2) rfl sc.nd (pi_tup (pv 0)) (blkOk_by (own := [("row", 2)]) (N := ["thing", "known", "row", "one", "other"]) (sc := defScope s__law_is_game) (by decide +kernel)) (fun _ _ _ _ _ => (pg_name (i := 2) sc.nd rfl (Or.inl rfl))) (fun _ _ _ _ _ => pts_nil) (fun _ _ _ _ _ => (pe_cmp (pc_din (hu_of hr) (pe_slice (r := rSlA K) sl_tupA (pv 2) po_none (po_some (pe_un un_neg pe_int))) (pv 1)) rfl))) pa_nil)))) (pss_one (ps_ret pe_bl)) pss_nil)
  (pss_one (ps_ret (pe_callB (cr_all rfl) rfl T.m_all (by decide +kernel) (pa_cons (pe_lc (own := [("one", 3), ("other", 4)]) (g := gTup K 2 (gCons (gName 3) (gCons (gName 4) gNil))) rfl sc.nd (pi_zipA rfl T.m_zip (pa_cons (pv 0) (pa_cons (pe_slice sl_tupA (pv 0) (po_some pe_int) po_none) pa_nil))) (blkOk_by (own := [("one", 3), ("other", 4)]) (N := ["thing", "known", "row", "one", "other"]) (sc := defScope s__law_is_game) (by decide +kernel)) (fun _ _ _ _ _ => (pg_tup rfl (pgs_cons (pg_name (i := 3) sc.nd rfl (Or.inl rfl)) (pgs_cons (pg_name (i := 4) sc.nd rfl (Or.inl rfl)) pgs_nil)))) (fun _ _ _ _ _ => pts_nil) (fun _ _ _ _ _ => (pe_cmpR (r := Nm.rLtDt K) (Nm.op_ltDt (u65 hr)) (pv 3) (pv 4) (nomark _)))) pa_nil))))))))), ?_⟩
    obtain ⟨tp0, d, hA, q⟩ := h
    rcases tupOr hA with ⟨a, xs, ds, rfl, rfl, ha, pr⟩ | ⟨⟨_, nty, nt'⟩, no⟩
    rotate_left
    · refine ⟨_, rfl, _, _, _, _, false, rfl, .ty _, nty, nt', false, rfl, ?_⟩
      have q' := q H (Same.refl H)
      rw [gameD_no no] at q'
      exact iteT (iteT q')
    have el : xs.length = ds.length := paired_len pr
    refine ⟨_, rfl, _, _, _, _, true, rfl, .ty _, .base (.tup ha), kit_ty (a := "tuple") (by decide +kernel), true, rfl, ?_⟩
    refine iteF ⟨_, rfl, a, _, rfl, .inr (SqT.of ha), _, _, rfl, rfl, _, rfl, ?_⟩
    refine ite2 (fun z => iteT ?_) (fun z => ?_)
    · have c := of_decide_eq_true z
      have q' := q H (Same.refl H)
      rw [gameD_off fun w => by omega] at q'
      exact q'
    have c1 := of_decide_eq_false (Bool.eq_false_iff.mpr z)
    refine ⟨_, rfl, a, _, rfl, .inr (SqT.of ha), _, _, rfl, rfl, _, rfl, ?_⟩
    refine ite2 (fun z => ?_) (fun z => ?_)
    · have c := of_decide_eq_true z
      have q' := q H (Same.refl H)
      rw [gameD_off fun w => by omega] at q'
      exact q'
    have c2 := of_decide_eq_false (Bool.eq_false_iff.mpr z)
    have d1 : 1 ≤ ds.length := by omega
    have d2 : ds.length ≤ 600 := by omega
    refine ⟨_, rfl, a, rfl, ⟨_, SqT.of ha⟩, fun D hD => ?_⟩
    refine lcS (walk_tup (K := K) (a := a) (xs := xs)) stays_bl ds (fun _ => true) (fun e => rowsD e 60) el (by omega) (fun H1 g => SqT.of (g _ _ ha)) hD ?_ ?_
    · rintro i x e H1 H2 Nx hw ⟨rfl, hx⟩ sm _ yes
      obtain ⟨e', he', hAe⟩ := paired_at pr i _ hx
      have ee : e' = e := Option.some.inj (he'.symm.trans hw)
      subst ee
      refine ⟨rfl, ?_⟩
      exact ⟨_, rfl, x, 60, rfl, by decide, tp0, e', At.same sm _ _ hAe, fun H3 g3 => yes rfl _ _ g3 rfl⟩
    intro H1 sm l
    rw [filter_all] at l
    have ea : ((ds.map fun e => rowsD e 60).all id) = ds.all (fun e => rowsD e 60) := by
      rw [List.all_map]
      rfl
    cases eb : ds.all (fun e => rowsD e 60) with
    | false =>
      refine ⟨D, _, rfl, sql_bl l, false, by rw [ea, eb], ?_⟩
      have q' := q H1 sm
      rw [gameD_bad eb] at q'
      exact iteT (iteT q')
    | true =>
      refine ⟨D, _, rfl, sql_bl l, true, by rw [ea, eb], ?_⟩
      rw [gameD_of d1 d2 eb] at q
      obtain ⟨pa, okr⟩ := rows_at pr eb
      have lr : (ds.map wsOfD).length = ds.length := List.length_map ..
      generalize ds.map wsOfD = rs at q pa okr lr
      obtain ⟨r0, rt, rfl⟩ : ∃ r0 rt, rs = r0 :: rt := by
        cases rs with
        | nil => simp at lr; omega
        | cons r0 rt => exact ⟨r0, rt, rfl⟩
      obtain ⟨x0, hx0⟩ : ∃ x0, xs[0]? = some x0 := ⟨xs[0]'(by omega), List.getElem?_eq_getElem (by omega)⟩
      obtain ⟨w0, hw0, y0, rfl, hy0⟩ := paired_at pa 0 _ hx0
      have e0 : r0 = w0 := Option.some.inj hw0
      subst e0
      have gm : GmAt H a (r0 :: rt) := ⟨xs, ha, pa⟩
      refine iteF ⟨_, rfl, a, xs, 0, .ref y0, rfl, rfl, SqT.of (sm _ _ ha), atI_nat (j := 0) hx0, nought, fun t0 ht0 => ?_⟩
      have g0 := sm.trans (same_new (o := .tup []) ht0)
      refine ⟨rowD r0, rowD [], dp_row (g0 _ _ hy0), dp_row (ws := []) upd_same, shaped_rw fun z hz => (okr r0 List.mem_cons_self).2 z hz, shaped_rw fun z hz => absurd hz (List.not_mem_nil), ?_⟩
      rw [eqv_row]
      generalize upd H1 t0 (.tup []) = H1' at g0
      by_cases c0 : r0 = []
      rotate_left
      · rw [decide_eq_false c0]
        have q' := q H1' g0
        rw [show gmB (r0 :: rt) = false from Bool.eq_false_iff.mpr fun z => c0 (first_nil z)] at q'
        exact ⟨_, rfl, iteT q'⟩
      rw [decide_eq_true c0]
      refine ⟨_, rfl, iteF ?_⟩
      generalize r0 :: rt = rs at q pa okr lr gm
      refine fun D2 hD2 => ?_
      refine ⟨_, rfl, a, rfl, ⟨_, SqT.of ((g0.trans (same_new hD2)) _ _ ha)⟩, ?_⟩
      refine for_it (walk_tup (K := K) (a := a) (xs := xs)) (fun i σ H' => ∃ v2 v3 v4 ents ks, σ = [some (.ref a), some (.ref D2), v2, v3, v4] ∧ Same H H' ∧ H' D2 = some (.dT ents) ∧ ents.length ≤ i ∧ ents.map (·.1) = ks.map keyRow ∧ ks.Nodup ∧ ∀ x, x ∈ ks ↔ x ∈ rs.take i)
        ⟨_, _, _, [], [], rfl, g0.trans (same_new hD2), upd_same, Nat.le_refl _, rfl, .nil, fun x => by simp⟩ (fun i σ H' _ ⟨_, _, _, _, _, _, g, _⟩ => SqT.of (g _ _ ha)) ?_ ?_
      · rintro i x σ H2 H3 hi ⟨v2, v3, v4, ents, ks, rfl, g2, hd2, le2, hk, nd, mem⟩ ⟨rfl, hx⟩
        obtain ⟨ws, hw, y, rfl, hy⟩ := paired_at pa i x hx
        have in60 : i < rs.length := (List.getElem?_eq_some_iff.mp hw).1
        have big : (1000000 : Nat) < PySem.sizeLine := by decide
        have more := length_putK ents (keyRow ws) (V.bl true)
        refine ⟨_, rfl, _, rfl, D2, _, rfl, DPut.t hd2 (by rw [kV_row]; exact g2 _ _ hy) (by omega), ?_⟩
        refine ⟨_, _, _, _, plusR ks ws, rfl, same_mut g2 (g0.free hD2), upd_same, by omega, keys_put hk nd _ _, plusR_nd nd _, fun z => ?_⟩
        rw [mem_plusR, mem z, take_one hw, List.mem_append, List.mem_singleton]
      · rintro σ H2 ⟨v2, v3, v4, ents, ks, rfl, g2, hd2, le2, hk, nd, mem⟩
        rw [el, show ds.length = rs.length by omega, List.take_length] at mem
        refine ⟨_, rfl, a, rfl, ⟨_, SqT.of (g2 _ _ ha)⟩, fun D4 hD4 => ?_⟩
        refine lcS (walk_tup (K := K) (a := a) (xs := xs)) stays_bl rs (fun _ => true) (fun r => decide (r.dropLast ∈ rs)) (by omega) (by omega) (fun H1 g => SqT.of (g _ _ (g2 _ _ ha))) hD4 ?_ ?_
        · rintro i x ws H4 H5 Nx hw ⟨rfl, hx⟩ sm4 _ yes
          obtain ⟨ws', hw', r, rfl, hr⟩ := paired_at pa i _ hx
          have e : ws' = ws := Option.some.inj (hw'.symm.trans hw)
          subst e
          refine ⟨rfl, ?_⟩
          refine ⟨_, rfl, 1, rfl, _, rfl, sl_last (sm4 _ _ (g2 _ _ hr)) fun r2 H5 g5 hr2 => ?_⟩
          refine ⟨_, rfl, D2, valV ents (keyRow ws'.dropLast), rfl, DGet.t (g5 _ _ (sm4 _ _ hd2)) (by rw [kV_row, List.map_dropLast]; exact hr2), ?_⟩
          rw [keys_isSome hk]
          exact yes rfl _ _ g5 (congrArg V.bl (decide_eq_decide.mpr (mem _)))
        · intro H4 sm4 l4
          have g4 := g2.trans sm4
          rw [filter_all] at l4
          have ep : ((rs.map fun r => decide (r.dropLast ∈ rs)).all id) = rs.all fun r => decide (r.dropLast ∈ rs) := by
            rw [List.all_map]
            rfl
          cases eq : rs.all fun r => decide (r.dropLast ∈ rs) with
          | false =>
            refine ⟨D4, _, rfl, sql_bl l4, false, by rw [ep, eq], ?_⟩
            have q' := q H4 g4
            unfold gmB at q'
            rw [eq, Bool.and_false] at q'
            exact iteT q'
          | true =>
            refine ⟨D4, _, rfl, sql_bl l4, true, by rw [ep, eq], ?_⟩
            unfold gmB at q
            rw [eq, Bool.and_true] at q
            refine iteF ⟨_, rfl, _, rfl, 1, rfl, ?_⟩
            dsimp only [tNoPart]
            refine sl_from1 (g4 _ _ ha) fun b H5 g5 hb => ?_
            have pb := paired_drop pa 1
            refine ⟨a, b, xs, xs.drop 1, rfl, .inr ⟨SqT.of (g5 _ _ (g4 _ _ ha)), SqT.of hb, fun D6 hD6 => ?_⟩⟩
            have lz : (rs.zip (rs.drop 1)).length = min xs.length (xs.drop 1).length := by
              rw [List.length_zip, el, List.length_drop, List.length_drop, el]
              omega
            refine lcS (walk_zipT (K := K) (a := a) (b := b) (xs := xs) (ys := xs.drop 1) rfl) stays_bl (rs.zip (rs.drop 1)) (fun _ => true) (fun p => rowLt p.1 p.2) lz.symm (by rw [List.length_zip]; omega) (fun H2 g => ⟨SqT.of (g _ _ (g5 _ _ (g4 _ _ ha))), SqT.of (g _ _ hb)⟩) hD6 ?_ ?_
            · rintro i x p H2 H3 Nx hp ⟨t3, x1, y1, rfl, hn, rfl, e1, e2⟩ sm _ yes
              obtain ⟨w1, hw1, r1, rfl, hr1⟩ := paired_at pa i _ e1
              obtain ⟨w2, hw2, r2, rfl, hr2⟩ := paired_at pb i _ e2
              have hz : p = (w1, w2) := by
                have z : (rs.zip (rs.drop 1))[i]? = some (w1, w2) := by
                  rw [List.getElem?_zip_eq_some]
                  exact ⟨hw1, hw2⟩
                rw [z] at hp
                exact (Option.some.inj hp).symm
              subst hz
              have g3 := ((g4.trans g5).trans sm).trans (same_new (o := .tup [V.ref r1, V.ref r2]) hn)
              refine ⟨t3, [.ref r1, .ref r2], rfl, SqT.of upd_same, rfl, _, _, rfl, _, _, rfl, rfl, rfl, ?_⟩
              refine ⟨_, rfl, _, rfl, rowL w1, rowL w2, dp_row (g3 _ _ hr1), dp_row (g3 _ _ hr2), alike_rowL _ _, by rw [depth_rowL]; decide, ?_⟩
              exact yes rfl _ _ (same_new hn) rfl
            · intro H2 sm l
              refine ⟨D6, _, rfl, sql_bl l, ?_⟩
              have e : (((rs.zip (rs.drop 1)).filter fun _ => true).map fun p => rowLt p.1 p.2).all id = ascB rs := by
                rw [filter_all, List.all_map]
                rfl
              rw [e]
              exact q H2 ((g4.trans g5).trans sm)
end
end K01
namespace K01
open PySem L2 Nm
open C8 (Cal Mak pe_c pe_mk pe_gc)
open RZ (ItzT pi_zipA)
section
variable {P : Program} {w : World} {K : PySem.W.Frag} {mg : Str → Option Value} {base : Heap}
/-- the number that mover tells, or that it tells none -/
def movD (d : PyData) : V := match d with
  | .tuple ds => if rowsD (.tuple ds) 60 = true then .int ((ds.length : Int) % 2) else .str "none"
  | _ => .str "none"
theorem movD_no {d : PyData} (h : rowsD d 60 = false) : movD d = .str "none" := by
  cases d with
  | tuple ds =>
    show (if rowsD (.tuple ds) 60 = true then _ else _) = _
    rw [h, if_neg Bool.false_ne_true]
  | _ => rfl
theorem movD_yes {ds : List PyData} (h : rowsD (.tuple ds) 60 = true) : movD (.tuple ds) = .int ((ds.length : Int) % 2) := if_pos h
def sp__law_mover (K : PySem.W.Frag) : Sp := fun vs H Q _ => ∃ (x : V), vs = [x] ∧ ∃ tp d, At K tp H x d ∧ ∀ H', Same H H' → Q (movD d) H'
theorem c__law_mover (T : Txt K mg) : Cal P w K mg base 8 "_law_mover" (sp__law_mover K) [] := by
  obtain ⟨CE, fi, fdi, B_NoRow, ex, FI⟩ := T.err_NoRow
  obtain ⟨fm, fdm, hmM, kM, bM, FM⟩ := c_mover (P := P) (w := w) (base := base) T B_NoRow FI
  have sc := sc__law_mover
  refine cal_of (k := 7) T.d__law_mover sc (fun _ _ _ _ _ _ us hl => match us, hl with | [_], _ => rfl) (fun vs H Q E h => ?_) (fun f cdv A outer s H vs Q E hr h => ?_)
  · obtain ⟨x, rfl, _⟩ := h
    rfl
  · obtain ⟨x, rfl, tp, d, hA, q⟩ := h
    refine ⟨_, (pss_cons (ps_set (i := 1) sc.nd rfl (Or.inl rfl) pe_non)
  (pss_cons (ps_try_only (tb := fun W => tAsg (tCallS (sp_mover K CE) (WE W) (tCons (tVar 0) tNil)) (gName 1)) (ts := fun _ _ _ => tAsg (tC (.str "none")) (gName 1)) (Wout := fun _ _ _ _ => False) rfl rfl ⟨rfl, by decide, .inl B_NoRow.hm⟩ takes0 (fun W pn xe tk _ => pss_one (ps_set (i := 1) sc.nd rfl (Or.inl rfl) (pe_callS FM (hr.mono (by omega)) rfl hmM kM bM (fun σ => passAt tk σ) (pa_cons (pv 0) pa_nil)))) (fun _ _ _ _ _ _ _ => pss_one (ps_set (i := 1) sc.nd rfl (Or.inl rfl) pe_str)))
  (pss_one (ps_ret (pv 1))))), ?_⟩
    refine ⟨_, rfl, x, tp, d, rfl, hA, fun ds e ok H1 g1 => ?_, fun no H1 g1 => ?_⟩
    · subst e
      have q' := q H1 g1
      rw [movD_yes ok] at q'
      exact ⟨_, rfl, q'⟩
    · refine ⟨true, ex, fun _ a0 ha0 => ?_, fun z => Bool.noConfusion z⟩
      have q' := q H1 g1
      rw [movD_no no] at q'
      exact ⟨_, rfl, q'⟩
end
end K01
namespace K01
open PySem L2 Nm
open C8 (Cal Mak pe_c pe_mk pe_gc)
open RZ (ItzT pi_zipA)
/-- things, each of some kind -/
def Ats (K : PySem.W.Frag) (tp : Addr) (H : Hp) (xs : List V) : Prop := ∀ x ∈ xs, ∃ d, At K tp H x d
theorem Ats.nil {K : PySem.W.Frag} {tp : Addr} {H : Hp} : Ats K tp H [] := fun _ h => absurd h (List.not_mem_nil)
theorem Ats.cons {K : PySem.W.Frag} {tp : Addr} {H : Hp} {x : V} {xs : List V} {d : PyData} (h : At K tp H x d) (t : Ats K tp H xs) : Ats K tp H (x :: xs) := fun y hy => by
  rcases List.mem_cons.mp hy with rfl | hy
  · exact ⟨d, h⟩
  · exact t y hy
theorem Ats.append {K : PySem.W.Frag} {tp : Addr} {H : Hp} {xs ys : List V} (a : Ats K tp H xs) (b : Ats K tp H ys) : Ats K tp H (xs ++ ys) := fun y hy => by
  rcases List.mem_append.mp hy with h | h
  · exact a y h
  · exact b y h
theorem Ats.sub {K : PySem.W.Frag} {tp : Addr} {H : Hp} {xs ys : List V} (a : Ats K tp H xs) (s : ∀ y ∈ ys, y ∈ xs) : Ats K tp H ys := fun y hy => a y (s y hy)
theorem Ats.same {K : PySem.W.Frag} {tp : Addr} {H H' : Hp} {xs : List V} (a : Ats K tp H xs) (g : Same H H') : Ats K tp H' xs := fun y hy => by
  obtain ⟨d, h⟩ := a y hy
  exact ⟨d, At.same g d y h⟩
theorem Ats.tape {K : PySem.W.Frag} {tp l : Addr} {H H' : Hp} {xs : List V} (a : Ats K tp H xs) (t : TapeAt H tp l) (g : Mov tp H H') : Ats K tp H' xs := fun y hy => by
  obtain ⟨d, h⟩ := a y hy
  exact ⟨d, At.tape h t g⟩
theorem Ats.all {K : PySem.W.Frag} {tp : Addr} {H : Hp} : ∀ {xs : List V}, Ats K tp H xs → ∃ ds, AtAll K tp H xs ds
  | [], _ => ⟨[], .nil⟩
  | x :: xs, a => by
    obtain ⟨d, h⟩ := a x List.mem_cons_self
    obtain ⟨ds, t⟩ := Ats.all (xs := xs) fun y hy => a y (List.mem_cons_of_mem _ hy)
    exact ⟨d :: ds, .cons h t⟩
theorem Ats.tup {K : PySem.W.Frag} {tp : Addr} {H : Hp} {a : Addr} {xs : List V} (h : H a = some (.tup xs)) (all : Ats K tp H xs) : ∃ d, At K tp H (.ref a) d := by
  obtain ⟨ds, t⟩ := all.all
  exact ⟨_, .tup h t⟩
theorem Ats.lst {K : PySem.W.Frag} {tp : Addr} {H : Hp} {a : Addr} {xs : List V} (n : a ≠ tp) (h : H a = some (.lst xs)) (all : Ats K tp H xs) : ∃ d, At K tp H (.ref a) d := by
  obtain ⟨ds, t⟩ := all.all
  exact ⟨_, .lst n h t⟩
theorem at_okI {xs : List V} {r : Int} (h0 : 0 ≤ r) (h1 : r < (xs.length : Int)) : ∃ x, atI xs r = some x ∧ x ∈ xs := by
  obtain ⟨k, rfl⟩ : ∃ k : Nat, r = (k : Int) := ⟨r.toNat, by omega⟩
  have e : xs[k]? = some (xs[k]'(by omega)) := List.getElem?_eq_getElem (by omega)
  exact ⟨_, atI_nat e, List.mem_of_getElem? e⟩
theorem one1 : 1 ≤ PySem.sizeLine := by decide
theorem k4000 : 4000 ≤ PySem.sizeLine := by decide
section
variable {P : Program} {w : World} {K : PySem.W.Frag} {mg : Str → Option Value} {base : Heap}
def sp__law_odd_word (K : PySem.W.Frag) : Sp := fun vs H Q _ => ∃ (tp : Addr), vs = [.ref tp] ∧ ∃ l, TapeAt H tp l ∧ ∀ x d H', At K tp H' x d → TapeAt H' tp l → Mov tp H H' → Q x H'
theorem c__law_odd_word (T : Txt K mg) : Cal P w K mg base 2 "_law_odd_word" (sp__law_odd_word K) [] := by
  have C__law_pick := c__law_pick (P := P) (w := w) (base := base) T
  have sc := sc__law_odd_word
  refine cal_of T.d__law_odd_word sc (fun _ _ _ _ _ _ us hl => match us, hl with | [_], _ => rfl) (fun vs H Q E h => ?_) (fun f cdv A outer s H vs Q E hr h => ?_)
  · obtain ⟨tp, rfl, _⟩ := h
    rfl
  · obtain ⟨tp, rfl, h⟩ := h
    refine ⟨_, (pss_one (ps_ret (pe_ix ix_list (pe_lst (pa_cons pe_str (pa_cons pe_str (pa_cons pe_str (pa_cons pe_str (pa_cons (pe_op Nm.op_mulS pe_str pe_int) (pa_cons pe_non (pa_cons pe_int (pa_cons pe_bl (pa_cons (pe_lst (pa_cons pe_str pa_nil)) (pa_cons (pe_tup (pa_cons pe_str pa_nil)) (pa_cons pe_str (pa_cons (pe_op Nm.op_mulS pe_str pe_int) pa_nil))))))))))))) (pe_c C__law_pick hr (by omega) rfl (pa_cons (pv 0) (pa_cons pe_int pa_nil))) (fun _ _ => rfl)))), ?_⟩
    obtain ⟨l, t, q⟩ := h
    refine ⟨_, 21, rfl, rfl, by decide, by decide, by decide +kernel, by decide +kernel, by decide +kernel, ?_⟩
    refine ⟨one1, fun q1 h1 => ⟨one1, fun q2 h2 => ?_⟩⟩
    refine ⟨_, 20, rfl, rfl, by decide, by decide, by decide +kernel, by decide +kernel, by decide +kernel, ?_⟩
    refine ⟨(by show 12 ≤ PySem.sizeLine; decide), fun p hp => ?_⟩
    have s3 := same_new (o := .lst [V.str "", V.str "A", V.str "a b", V.str "a1", V.str ⟨(List.replicate (21 : Int).toNat ("a" : Str).cps).foldl (· ++ ·) #[]⟩, V.non, V.int 5, V.bl true, V.ref q1, V.ref q2, V.str "a-", V.str ⟨(List.replicate (20 : Int).toNat ("z" : Str).cps).foldl (· ++ ·) #[]⟩]) hp
    have s1 := same_new (o := .lst [V.str "a"]) h1
    have s2 := same_new (o := .tup [V.str "a"]) h2
    have n1 := t.new h1
    have np := (t.same (s1.trans s2)).new hp
    have tb := t.same ((s1.trans s2).trans s3)
    refine ⟨_, rfl, tp, 12, rfl, l, tb, by decide, by decide, fun r7 H7 r70 r71 t7 mv7 => ?_⟩
    obtain ⟨v, hv, mv⟩ := at_okI (xs := [V.str "", V.str "A", V.str "a b", V.str "a1", V.str ⟨(List.replicate (21 : Int).toNat ("a" : Str).cps).foldl (· ++ ·) #[]⟩, V.non, V.int 5, V.bl true, V.ref q1, V.ref q2, V.str "a-", V.str ⟨(List.replicate (20 : Int).toNat ("z" : Str).cps).foldl (· ++ ·) #[]⟩]) r70 r71
    have e1 := mv7 _ _ ((s2.trans s3) _ _ (upd_same (o := .lst [V.str "a"]))) n1.1
    have e2 := (tb.keep mv7).tups _ _ (s3 _ _ (upd_same (o := .tup [V.str "a"])))
    have ats : Ats K tp H7 [V.str "", V.str "A", V.str "a b", V.str "a1", V.str ⟨(List.replicate (21 : Int).toNat ("a" : Str).cps).foldl (· ++ ·) #[]⟩, V.non, V.int 5, V.bl true, V.ref q1, V.ref q2, V.str "a-", V.str ⟨(List.replicate (20 : Int).toNat ("z" : Str).cps).foldl (· ++ ·) #[]⟩] :=
      .cons (.str _ (by decide +kernel)) (.cons (.str _ (by decide +kernel)) (.cons (.str _ (by decide +kernel)) (.cons (.str _ (by decide +kernel)) (.cons (.str _ (by decide +kernel)) (.cons .non (.cons (.int 5) (.cons (.bl true)
        (.cons (.lst n1.1 e1 (.cons (.str _ (by decide +kernel)) .nil)) (.cons (.tup e2 (.cons (.str _ (by decide +kernel)) .nil)) (.cons (.str _ (by decide +kernel)) (.cons (.str _ (by decide +kernel)) .nil)))))))))))
    obtain ⟨d, hd⟩ := ats v mv
    exact ⟨p, _, r7, v, rfl, rfl, SqL.of (mv7 _ _ upd_same np.1), hv, q v d H7 hd t7 ((mov_same ((s1.trans s2).trans s3)).trans mv7)⟩
end
end K01
namespace K01
open PySem L2 Nm
open C8 (Cal Mak pe_c pe_mk pe_gc)
open RZ (ItzT pi_zipA)
theorem ats_strs {K : PySem.W.Frag} {tp : Addr} {H : Hp} {ws : List Str} (h : ∀ z ∈ ws, z.length ≤ 1000) : Ats K tp H (ws.map V.str) := fun y hy => by
  obtain ⟨z, hz, rfl⟩ := List.mem_map.mp hy
  exact ⟨_, .str z (h z hz)⟩
theorem at_row {K : PySem.W.Frag} {tp : Addr} {H : Hp} {x : V} {ws : List Str} (h : RwAt H x ws) (ok : ∀ z ∈ ws, z.length ≤ 1000) : At K tp H x (.tuple (ws.map PyData.str)) := by
  obtain ⟨r, rfl, hr⟩ := h
  exact .tup hr (at_strs ws ok)
theorem ats_rows {K : PySem.W.Frag} {tp : Addr} {H : Hp} : ∀ {xs : List V} {rs : List (List Str)}, Paired (RwAt H) xs rs → (∀ r ∈ rs, ∀ z ∈ r, z.length ≤ 1000) → Ats K tp H xs
  | _, _, .nil, _ => .nil
  | _, _, .cons h t, ok => .cons (at_row h (ok _ List.mem_cons_self)) (ats_rows t fun r hr => ok r (List.mem_cons_of_mem _ hr))
theorem take_sub {α : Type} {xs : List α} {n : Nat} : ∀ y ∈ xs.take n, y ∈ xs := fun _ h => List.mem_of_mem_take h
theorem drop_sub {α : Type} {xs : List α} {n : Nat} : ∀ y ∈ xs.drop n, y ∈ xs := fun _ h => List.mem_of_mem_drop h
section
variable {P : Program} {w : World} {K : PySem.W.Frag} {mg : Str → Option Value} {base : Heap}
def sp__law_bent (K : PySem.W.Frag) : Sp := fun vs H Q _ => ∃ (tp a : Addr), vs = [.ref tp, .ref a] ∧ ∃ l rs, TapeAt H tp l ∧ GmAt H a rs ∧ (∀ r ∈ rs, rwOk r) ∧ 1 ≤ rs.length ∧ rs.length ≤ 60 ∧
  ∀ x d H', At K tp H' x d → TapeAt H' tp l → Mov tp H H' → Q x H'
theorem c__law_bent (T : Txt K mg) : Cal P w K mg base 4 "_law_bent" (sp__law_bent K) [] := by
  have C__law_odd_word := c__law_odd_word (P := P) (w := w) (base := base) T
  have C__law_pick := c__law_pick (P := P) (w := w) (base := base) T
  have C__law_word := c__law_word (P := P) (w := w) (base := base) T
  have sc := sc__law_bent
  refine cal_of T.d__law_bent sc (fun _ _ _ _ _ _ us hl => match us, hl with | [_, _], _ => rfl) (fun vs H Q E h => ?_) (fun f cdv A outer s H vs Q E hr h => ?_)
  · obtain ⟨tp, a, rfl, _⟩ := h
    rfl
  · obtain ⟨tp, a, rfl, h⟩ := h
    refine ⟨_, (pss_cons (ps_set (i := 2) sc.nd rfl (Or.inl rfl) (pe_c C__law_pick hr (by omega) rfl (pa_cons (pv 0) (pa_cons pe_int pa_nil))))
  (pss_cons (ps_set (i := 3) sc.nd rfl (Or.inl rfl) (pe_c C__law_pick hr (by omega) rfl (pa_cons (pv 0) (pa_cons (pe_callB (r := Nm.rLenS K) (id := "len") Nm.call_lenS rfl T.m_len (by decide +kernel) (pa_cons (pv 1) pa_nil)) pa_nil))))
  (pss_cons (ps_set (i := 4) sc.nd rfl (Or.inr rfl) (pe_ix ix_tup (pv 1) (pv 3) (fun _ _ => rfl)))
  (pss_cons (ps_if (pt_cmpR op_eq (pv 2) pe_int (nomark _)) (pss_one (ps_ret (pe_ix ix_list (pe_lst (pa_cons pe_non (pa_cons (pe_callTy call_list_of rfl T.m_list (by decide +kernel) (pa_cons (pv 1) pa_nil)) (pa_cons (pe_tup pa_nil) (pa_cons pe_str (pa_cons pe_dnewK (pa_cons pe_int (pa_cons (pe_op op_repT (pe_tup (pa_cons (pe_tup pa_nil) pa_nil)) pe_int) (pa_cons (pe_tup (pa_cons (pe_tup (pa_cons pe_str pa_nil)) pa_nil)) (pa_cons (pe_lst (pa_cons (pe_tup pa_nil) pa_nil)) (pa_cons pe_bl pa_nil))))))))))) (pe_c C__law_pick hr (by omega) rfl (pa_cons (pv 0) (pa_cons pe_int pa_nil))) (fun _ _ => rfl)))) pss_nil)
  (pss_cons (ps_if (pt_cmpR op_eq (pv 2) pe_int (nomark _)) (pss_one (ps_ret (pe_op op_catA (pe_slice sl_tupA (pv 1) po_none (po_some (pv 3))) (pe_slice sl_tupA (pv 1) (po_some (pe_op op_add (pv 3) pe_int)) po_none)))) pss_nil)
  (pss_cons (ps_if (pt_cmpR op_eq (pv 2) pe_int (nomark _)) (pss_one (ps_ret (pe_op op_catA (pe_op op_catA (pe_slice sl_tupA (pv 1) po_none (po_some (pv 3))) (pe_tup (pa_cons (pv 4) pa_nil))) (pe_slice sl_tupA (pv 1) (po_some (pv 3)) po_none)))) pss_nil)
  (pss_cons (ps_if (pt_cmpR op_eq (pv 2) pe_int (nomark _)) (pss_one (ps_ret (Nm.pe_revT (pv 1)))) pss_nil)
  (pss_cons (ps_if (pt_cmpR op_eq (pv 2) pe_int (nomark _)) (pss_one (ps_ret (pe_op op_catA (pe_op op_catA (pe_slice sl_tupA (pv 1) po_none (po_some (pv 3))) (pe_tup (pa_cons (pe_op op_catA (pv 4) (pe_tup (pa_cons (pe_c C__law_odd_word hr (by omega) rfl (pa_cons (pv 0) pa_nil)) pa_nil))) pa_nil))) (pe_slice sl_tupA (pv 1) (po_some (pe_op op_add (pv 3) pe_int)) po_none)))) pss_nil)
  (pss_cons (ps_if (pt_cmpR op_eq (pv 2) pe_int (nomark _)) (pss_one (ps_ret (pe_op op_catA (pe_op op_catA (pe_slice sl_tupA (pv 1) po_none (po_some (pv 3))) (pe_tup (pa_cons (pe_ix ix_list (pe_lst (pa_cons (pe_callTy call_list_of rfl T.m_list (by decide +kernel) (pa_cons (pv 4) pa_nil)) (pa_cons pe_non (pa_cons pe_str (pa_cons pe_int (pa_cons (pe_tup (pa_cons (pv 4) pa_nil)) pa_nil)))))) (pe_c C__law_pick hr (by omega) rfl (pa_cons (pv 0) (pa_cons pe_int pa_nil))) (fun _ _ => rfl)) pa_nil))) (pe_slice sl_tupA (pv 1) (po_some (pe_op op_add (pv 3) pe_int)) po_none)))) pss_nil)
  (pss_cons (ps_if (pt_cmpR op_eq (pv 2) pe_int (nomark _)) (pss_one (ps_ret (pe_callTy call_tuple_of rfl T.m_tuple (by decide +kernel) (pa_cons (pe_callB (NmD.cr_sortD (u66 hr)) rfl T.m_sorted (by decide +kernel) (pa_cons (pe_op op_cat (pe_callTy call_list_of rfl T.m_list (by decide +kernel) (pa_cons (pv 1) pa_nil)) (pe_lst (pa_cons (pe_op op_catA (pv 4) (pe_tup (pa_cons (pe_c C__law_word hr (by omega) rfl (pa_cons (pv 0) pa_nil)) (pa_cons (pe_c C__law_word hr (by omega) rfl (pa_cons (pv 0) pa_nil)) pa_nil)))) pa_nil))) pa_nil)) pa_nil)))) pss_nil)
  (pss_one (ps_ret (pe_callTy call_tuple_of rfl T.m_tuple (by decide +kernel) (pa_cons (pe_callB (NmD.cr_sortD (u66 hr)) rfl T.m_sorted (by decide +kernel) (pa_cons (pe_op op_cat (pe_lc (own := [("one", 5)]) (g := gName 5) rfl sc.nd (pi_tup (pv 1)) (blkOk_by (own := [("one", 5)]) (N := ["tape", "game", "kind", "at", "row", "one"]) (sc := defScope s__law_bent) (by decide +kernel)) (fun _ _ _ _ _ => (pg_name (i := 5) sc.nd rfl (Or.inl rfl))) (fun _ _ _ _ _ => (pts_one (pt_cmpR (r := rNeD K) (op_neD hr.units) (pv 5) (pv 4) (nomark _)))) (fun _ _ _ _ _ => (pv 5))) (pe_lst (pa_cons (pe_op op_catA (pv 4) (pe_tup (pa_cons (pe_c C__law_word hr (by omega) rfl (pa_cons (pv 0) pa_nil)) pa_nil))) pa_nil))) pa_nil)) pa_nil)))))))))))))), ?_⟩
    obtain ⟨l, rs, t0, ⟨xs, ha, pa⟩, ok, l1, l60, q⟩ := h
    have el := paired_len pa
    have okz : ∀ r ∈ rs, ∀ z ∈ r, z.length ≤ 1000 := fun r hr z hz => ((ok r hr).2 z hz).2
    have fin : ∀ {x : V} {H' : Hp}, (∃ d, At K tp H' x d) → TapeAt H' tp l → Mov tp H H' → Q x H' := fun {x H'} ⟨d, h⟩ t m => q x d H' h t m
    refine ⟨_, rfl, tp, 10, rfl, l, t0, by decide, by decide, fun r1 H1 r10 r11 t1 mv1 => ?_⟩
    have ha1 := (t0.keep mv1).tups _ _ ha
    refine ⟨_, rfl, _, rfl, a, _, rfl, .inr (SqT.of ha1), tp, _, rfl, l, t1, by omega, by omega, fun r2 H2 r20 r21 t2 mv2 => ?_⟩
    have ha2 := (t1.keep mv2).tups _ _ ha1
    have m2 := mv1.trans mv2
    have pa2 := paired_mono (fun _ _ => stays_rw _ _ _ _ (t0.keep m2).tups) pa
    obtain ⟨n, rfl⟩ : ∃ n : Nat, r2 = (n : Int) := ⟨r2.toNat, by omega⟩
    obtain ⟨x, hx⟩ : ∃ x, xs[n]? = some x := ⟨xs[n]'(by omega), List.getElem?_eq_getElem (by omega)⟩
    obtain ⟨row, hrow, y, rfl, hy⟩ := paired_at pa2 n x hx
    have mrow := List.mem_of_getElem? hrow
    have lrow := (ok row mrow).1
    have zrow := okz row mrow
    refine ⟨_, rfl, _, rfl, a, _, _, _, rfl, rfl, SqT.of ha2, atI_nat hx, ?_⟩
    have ats : Ats K tp H2 xs := ats_rows pa2 okz
    have atr : ∃ d, At K tp H2 (.ref y) d := ⟨_, at_row ⟨y, rfl, hy⟩ zrow⟩
    clear t1 mv1 mv2 ha1 pa t0
    -- another thing at all
    refine ⟨_, rfl, rfl, _, rfl, ?_⟩
    refine ite2 (fun _ => ?_) (fun _ => ?_)
    · refine ⟨_, rfl, a, xs, rfl, .inr (SqT.of ha2), fun q1 h1 => ⟨nought, fun q2 h2 => fun q3 h3 => ⟨nought, fun q4 h4 => ⟨one1, fun q5 h5 => ⟨q5, 2, [V.ref q4], rfl, rfl, SqT.of upd_same, List.cons_ne_nil _ _, by decide, by decide, (by show 1 ≤ 1000; decide), fun q6 h6 => ⟨one1, fun q7 h7 => ⟨one1, fun q8 h8 => ⟨nought, fun q9 h9 => ⟨one1, fun q10 h10 => ⟨(by show 10 ≤ PySem.sizeLine; decide), fun p hp => ?_⟩⟩⟩⟩⟩⟩⟩⟩⟩⟩
      have g1 := same_new (o := .lst xs) h1
      have g2 := same_new (o := .tup []) h2
      have g3 := same_new (o := .dK []) h3
      have g4 := same_new (o := .tup []) h4
      have g5 := same_new (o := .tup [V.ref q4]) h5
      have g6 := same_new (o := .tup (List.replicate (2 : Int).toNat [V.ref q4]).flatten) h6
      have g7 := same_new (o := .tup [V.str "a"]) h7
      have g8 := same_new (o := .tup [V.ref q7]) h8
      have g9 := same_new (o := .tup []) h9
      have g10 := same_new (o := .lst [V.ref q9]) h10
      have g11 := same_new (o := .lst [V.non, V.ref q1, V.ref q2, V.str "game", V.ref q3, V.int 0, V.ref q6, V.ref q8, V.ref q10, V.bl true]) hp
      have b10 := g10.trans g11
      have b9 := g9.trans b10
      have b8 := g8.trans b9
      have b7 := g7.trans b8
      have b6 := g6.trans b7
      have b5 := g5.trans b6
      have b4 := g4.trans b5
      have b3 := g3.trans b4
      have b2 := g2.trans b3
      have b1 := g1.trans b2
      have f9 := g1.trans (g2.trans (g3.trans (g4.trans (g5.trans (g6.trans (g7.trans (g8.trans g9)))))))
      have n1 := t2.new h1
      have n10 := (t2.same f9).new h10
      have np := (t2.same (f9.trans g10)).new hp
      have tb := t2.same b1
      refine ⟨_, rfl, tp, 10, rfl, l, tb, by decide, by decide, fun r7 H7 r70 r71 t7 mv7 => ?_⟩
      have kk := tb.keep mv7
      have e1 : H7 q1 = some (.lst xs) := mv7 _ _ (b2 _ _ upd_same) n1.1
      have e2 : H7 q2 = some (.tup []) := kk.tups _ _ (b3 _ _ upd_same)
      have e3 : H7 q3 = some (.dK []) := kk _ _ (b4 _ _ upd_same) (fun _ e => nomatch e)
      have e4 : H7 q4 = some (.tup []) := kk.tups _ _ (b5 _ _ upd_same)
      have e6 : H7 q6 = some (.tup [V.ref q4, V.ref q4]) := kk.tups _ _ (b7 _ _ upd_same)
      have e7 : H7 q7 = some (.tup [V.str "a"]) := kk.tups _ _ (b8 _ _ upd_same)
      have e8 : H7 q8 = some (.tup [V.ref q7]) := kk.tups _ _ (b9 _ _ upd_same)
      have e9 : H7 q9 = some (.tup []) := kk.tups _ _ (b10 _ _ upd_same)
      have e10 : H7 q10 = some (.lst [V.ref q9]) := mv7 _ _ (g11 _ _ upd_same) n10.1
      have ats7 : Ats K tp H7 xs := (ats.same b1).tape tb mv7
      obtain ⟨dl, hdl⟩ := ats7.all
      obtain ⟨v, hv, mv⟩ := at_okI (xs := [V.non, V.ref q1, V.ref q2, V.str "game", V.ref q3, V.int 0, V.ref q6, V.ref q8, V.ref q10, V.bl true]) r70 r71
      have all : Ats K tp H7 [V.non, V.ref q1, V.ref q2, V.str "game", V.ref q3, V.int 0, V.ref q6, V.ref q8, V.ref q10, V.bl true] :=
        .cons .non (.cons (.lst n1.1 e1 hdl) (.cons (.tup e2 .nil) (.cons (.str _ (by decide +kernel)) (.cons (.dct e3) (.cons (.int 0) (.cons (.tup e6 (.cons (.tup e4 .nil) (.cons (.tup e4 .nil) .nil))) (.cons (.tup e8 (.cons (.tup e7 (.cons (.str _ (by decide +kernel)) .nil)) .nil))
          (.cons (.lst n10.1 e10 (.cons (.tup e9 .nil) .nil)) (.cons (.bl true) .nil)))))))))
      exact ⟨p, _, r7, v, rfl, rfl, SqL.of (mv7 _ _ upd_same np.1), hv, fin (all v mv) t7 (m2.trans ((mov_same b1).trans mv7))⟩
    -- one left out
    refine ⟨_, rfl, rfl, _, rfl, ?_⟩
    refine ite2 (fun _ => ?_) (fun _ => ?_)
    · refine ⟨_, rfl, _, rfl, _, rfl, sl_takeE (k := n) rfl ha2 fun b H3 g3 hb => ?_⟩
      refine ⟨_, rfl, _, rfl, _, _, rfl, rfl, _, rfl, ?_⟩
      dsimp only [tNoPart]
      refine sl_dropE (k := n + 1) (by omega) (g3 _ _ ha2) fun c H4 g4 hc => ?_
      refine cat_tups (g4 _ _ hb) hc (by rw [List.length_take, List.length_drop]; omega) fun r H5 g5 hr5 => ?_
      have g := (g3.trans g4).trans g5
      exact fin (Ats.tup hr5 (((ats.same g).sub take_sub).append ((ats.same g).sub drop_sub))) (t2.same g) (m2.trans (mov_same g))
    -- one twice
    refine ⟨_, rfl, rfl, _, rfl, ?_⟩
    refine ite2 (fun _ => ?_) (fun _ => ?_)
    · refine ⟨_, rfl, _, rfl, _, rfl, sl_takeE (k := n) rfl ha2 fun b H3 g3 hb => ?_⟩
      refine ⟨_, rfl, one1, fun c hc => ?_⟩
      have gc := same_new (o := .tup [V.ref y]) hc
      refine cat_tups (gc _ _ hb) upd_same (by rw [List.length_take, List.length_singleton]; omega) fun e H4 g4 he => ?_
      have g34 := (g3.trans gc).trans g4
      refine ⟨_, rfl, _, rfl, _, rfl, ?_⟩
      dsimp only [tNoPart]
      refine sl_dropE (k := n) rfl (g34 _ _ ha2) fun d H5 g5 hd => ?_
      refine cat_tups (g5 _ _ he) hd (by rw [List.length_append, List.length_take, List.length_drop, List.length_singleton]; omega) fun r H6 g6 hr6 => ?_
      have g := (g34.trans g5).trans g6
      obtain ⟨d', hd'⟩ := atr
      exact fin (Ats.tup hr6 ((((ats.same g).sub take_sub).append (.cons (At.same g _ _ hd') .nil)).append ((ats.same g).sub drop_sub))) (t2.same g) (m2.trans (mov_same g))
    -- the other way about
    refine ⟨_, rfl, rfl, _, rfl, ?_⟩
    refine ite2 (fun _ => ?_) (fun _ => ?_)
    · refine ⟨_, rfl, a, xs, rfl, SqT.of ha2, fun e => ?_, fun p hp => ?_⟩
      · rw [e] at el
        simp at el
        omega
      · have g := same_new (o := .tup xs.reverse) hp
        exact fin (Ats.tup upd_same ((ats.same g).sub fun z hz => List.mem_reverse.mp hz)) (t2.same g) (m2.trans (mov_same g))
    -- a row with an odd word
    refine ⟨_, rfl, rfl, _, rfl, ?_⟩
    refine ite2 (fun _ => ?_) (fun _ => ?_)
    · refine ⟨_, rfl, _, rfl, _, rfl, sl_takeE (k := n) rfl ha2 fun b H3 g3 hb => ?_⟩
      have t3 := t2.same g3
      refine ⟨_, rfl, _, rfl, tp, rfl, l, t3, fun z dz H4 hz t4 mv4 => ⟨one1, fun c hc => ?_⟩⟩
      have gc := same_new (o := .tup [z]) hc
      have up4 : Mov tp H2 (upd H4 c (.tup [z])) := ((mov_same g3).trans mv4).trans (mov_same gc)
      refine cat_tups (gc _ _ ((t3.keep mv4).tups _ _ (g3 _ _ hy))) upd_same (by rw [List.length_map, List.length_singleton]; omega) fun e H5 g5 he => ?_
      refine ⟨one1, fun f hf => ?_⟩
      have gf := same_new (o := .tup [V.ref e]) hf
      have g4f := (gc.trans g5).trans gf
      refine cat_tups (g4f _ _ ((t3.keep mv4).tups _ _ hb)) upd_same (by rw [List.length_take, List.length_singleton]; omega) fun i H6 g6 hi => ?_
      have g46 := g4f.trans g6
      have tk6 : Tups H2 H6 := fun u us hu => g46 _ _ ((t3.keep mv4).tups _ _ (g3 _ _ hu))
      refine ⟨_, rfl, _, rfl, _, _, rfl, rfl, _, rfl, ?_⟩
      dsimp only [tNoPart]
      refine sl_dropE (k := n + 1) (by omega) (tk6 _ _ ha2) fun j H7 g7 hj => ?_
      refine cat_tups (g7 _ _ hi) hj (by rw [List.length_append, List.length_take, List.length_drop, List.length_singleton]; omega) fun r H8 g8 hr8 => ?_
      have g48 := (g46.trans g7).trans g8
      have m8 : Mov tp H2 H8 := ((mov_same g3).trans mv4).trans (mov_same g48)
      have ats8 : Ats K tp H8 xs := ats.tape t2 m8
      have he8 := (g5.trans (gf.trans (g6.trans (g7.trans g8))))
      have hh : H8 e = some (.tup (row.map V.str ++ [z])) := ((gf.trans g6).trans (g7.trans g8)) _ _ he
      obtain ⟨d', hd'⟩ := Ats.tup hh ((ats_strs zrow).append (.cons (At.same g48 _ _ hz) .nil))
      exact fin (Ats.tup hr8 (((ats8.sub take_sub).append (.cons hd' .nil)).append (ats8.sub drop_sub))) (t4.same g48) (m2.trans m8)
    -- something else in a row's place
    refine ⟨_, rfl, rfl, _, rfl, ?_⟩
    refine ite2 (fun _ => ?_) (fun _ => ?_)
    · refine ⟨_, rfl, _, rfl, _, rfl, sl_takeE (k := n) rfl ha2 fun b H3 g3 hb => ?_⟩
      refine ⟨_, rfl, y, _, rfl, .inr (SqT.of (g3 _ _ hy)), fun q1 h1 => ⟨_, rfl, one1, fun q2 h2 => ⟨(by show 5 ≤ PySem.sizeLine; decide), fun p hp => ?_⟩⟩⟩
      have k1 := same_new (o := .lst (row.map V.str)) h1
      have k2 := same_new (o := .tup [V.ref y]) h2
      have k3 := same_new (o := .lst [V.ref q1, V.non, V.str "a", V.int 0, V.ref q2]) hp
      have n1 := (t2.same g3).new h1
      have np := (t2.same (g3.trans (k1.trans k2))).new hp
      have b3 := g3.trans (k1.trans (k2.trans k3))
      have tb := t2.same b3
      refine ⟨_, rfl, tp, 5, rfl, l, tb, by decide, by decide, fun r7 H7 r70 r71 t7 mv7 => ?_⟩
      have kk := tb.keep mv7
      have e1 : H7 q1 = some (.lst (row.map V.str)) := mv7 _ _ ((k2.trans k3) _ _ upd_same) n1.1
      have e2 : H7 q2 = some (.tup [V.ref y]) := kk.tups _ _ (k3 _ _ upd_same)
      have ats7 : Ats K tp H7 xs := (ats.same b3).tape tb mv7
      obtain ⟨dy, hdy⟩ := atr
      have hdy7 := At.tape (At.same b3 _ _ hdy) tb mv7
      obtain ⟨dl, hdl⟩ := (ats_strs (K := K) (tp := tp) (H := H7) zrow).all
      have all : Ats K tp H7 [V.ref q1, V.non, V.str "a", V.int 0, V.ref q2] := .cons (.lst n1.1 e1 hdl) (.cons .non (.cons (.str _ (by decide +kernel)) (.cons (.int 0) (.cons (.tup e2 (.cons hdy7 .nil)) .nil))))
      obtain ⟨v, hv, mv⟩ := at_okI (xs := [V.ref q1, V.non, V.str "a", V.int 0, V.ref q2]) r70 r71
      refine ⟨p, _, r7, v, rfl, rfl, SqL.of (mv7 _ _ upd_same np.1), hv, one1, fun c hc => ?_⟩
      have gc := same_new (o := .tup [v]) hc
      have hb7 := kk.tups _ _ ((k1.trans (k2.trans k3)) _ _ hb)
      refine cat_tups (gc _ _ hb7) upd_same (by rw [List.length_take, List.length_singleton]; omega) fun e H8 g8 he => ?_
      refine ⟨_, rfl, _, rfl, _, _, rfl, rfl, _, rfl, ?_⟩
      dsimp only [tNoPart]
      have ha8 := (gc.trans g8) _ _ (kk.tups _ _ (b3 _ _ ha2))
      refine sl_dropE (k := n + 1) (by omega) ha8 fun j H9 g9 hj => ?_
      refine cat_tups (g9 _ _ he) hj (by rw [List.length_append, List.length_take, List.length_drop, List.length_singleton]; omega) fun r H10 g10 hr10 => ?_
      have g := (gc.trans g8).trans (g9.trans g10)
      obtain ⟨dv, hdv⟩ := all v mv
      have ats10 : Ats K tp H10 xs := ats7.same g
      exact fin (Ats.tup hr10 (((ats10.sub take_sub).append (.cons (At.same g _ _ hdv) .nil)).append (ats10.sub drop_sub))) (t7.same g) (m2.trans (((mov_same b3).trans mv7).trans (mov_same g)))
    -- a row two words longer
    refine ⟨_, rfl, rfl, _, rfl, ?_⟩
    refine ite2 (fun _ => ?_) (fun _ => ?_)
    · refine ⟨_, rfl, a, xs, rfl, .inr (SqT.of ha2), fun q1 h1 => ?_⟩
      have k1 := same_new (o := .lst xs) h1
      have n1 := t2.new h1
      have t3 := t2.same k1
      refine ⟨_, rfl, _, rfl, tp, rfl, l, t3, fun z1 H4 hz1 t4 mv4 => ⟨_, rfl, tp, rfl, l, t4, fun z2 H5 hz2 t5 mv5 => ⟨two, fun c hc => ?_⟩⟩⟩
      have gc := same_new (o := .tup [V.str z1, V.str z2]) hc
      have m5 : Mov tp H2 H5 := ((mov_same k1).trans mv4).trans mv5
      have m35 := mv4.trans mv5
      refine cat_tups (gc _ _ ((t2.keep m5).tups _ _ hy)) upd_same (by rw [List.length_map]; show row.length + 2 ≤ 4000; omega) fun e H6 g6 he => ?_
      refine ⟨one1, fun f hf => ?_⟩
      have gf := same_new (o := .lst [V.ref e]) hf
      have g := (gc.trans g6).trans gf
      have hq1 := g _ _ (m35 _ _ (upd_same (o := .lst xs)) n1.1)
      refine ⟨q1, f, xs, [V.ref e], rfl, rfl, hq1, upd_same, Nat.le_trans (by rw [List.length_singleton]; omega) k4000, fun u hu => ?_⟩
      have gu := same_new (o := .lst (xs ++ [V.ref e])) hu
      have gg := g.trans gu
      have tk : Tups H2 (upd (upd H6 f (.lst [V.ref e])) u (.lst (xs ++ [V.ref e]))) := fun b us hb => gg _ _ ((t2.keep m5).tups _ _ hb)
      have pa8 := paired_snoc (paired_mono (fun _ _ => stays_rw _ _ _ _ tk) pa2) (show RwAt (upd (upd H6 f (.lst [V.ref e])) u (.lst (xs ++ [V.ref e]))) (V.ref e) (row ++ [z1, z2]) from ⟨e, rfl, by rw [List.map_append]; exact (gf.trans gu) _ _ he⟩)
      have ok8 : ∀ r ∈ rs ++ [row ++ [z1, z2]], ∀ z ∈ r, z.length ≤ 1000 := fun r hr z hz => by
        rcases List.mem_append.mp hr with h | h
        · exact okz r h z hz
        · rw [List.mem_singleton.mp h] at hz
          rcases List.mem_append.mp hz with h | h
          · exact zrow z h
          · rcases List.mem_cons.mp h with rfl | h
            · exact hz1.2
            · rw [List.mem_singleton.mp h]
              exact hz2.2
      have m8 := (m2.trans m5).trans (mov_same gg)
      have t8 := t5.same gg
      have hu8 : upd (upd H6 f (.lst [V.ref e])) u (.lst (xs ++ [V.ref e])) u = some (.lst (xs ++ [V.ref e])) := upd_same
      generalize upd (upd H6 f (.lst [V.ref e])) u (.lst (xs ++ [V.ref e])) = H8 at pa8 m8 t8 hu8
      have back : ∀ x ∈ xs ++ [V.ref e], ∃ ws, RwAt H8 x ws := fun x hx => by
        obtain ⟨i, hi⟩ := List.mem_iff_getElem?.mp hx
        obtain ⟨ws, _, h⟩ := paired_at pa8 i x hi
        exact ⟨ws, h⟩
      refine ⟨u, _, fun x => rowL (rowOf H8 x), rfl, SqL.of hu8, fun x hx => ?_, fun x _ y _ => alike_rowL _ _, fun ys p srt stb hp => ⟨p, ys, rfl, .inl ⟨SqL.of upd_same, fun p2 hp2 => ?_⟩⟩⟩
      · obtain ⟨ws, r, rfl, hr⟩ := back x hx
        refine ⟨⟨r, rfl⟩, ?_, pure_rowL _, by rw [depth_rowL]; decide⟩
        show Dp K H8 (.ref r) (.tuple (rowL (rowOf H8 (.ref r))))
        rw [rowOf_at hr]
        exact dp_row hr
      · have g9 := (same_new (o := .lst ys) hp).trans (same_new (o := .tup ys) hp2)
        exact fin (Ats.tup upd_same (((ats_rows pa8 ok8).same g9).sub fun z hz => stb.perm.mem_iff.mp hz)) (t8.same g9) (m8.trans (mov_same g9))
    -- a row put in another one's place
    refine ⟨_, rfl, a, rfl, ⟨_, SqT.of ha2⟩, fun D hD => ?_⟩
    refine lcS (walk_tup (K := K) (a := a) (xs := xs)) stays_rw rs (fun r => !decide (r = row)) (fun r => r) el (by omega) (fun H1 g => SqT.of (g _ _ ha2)) hD ?_ ?_
    · rintro i x ws H4 H5 Nx hw ⟨rfl, hx⟩ sm no yes
      obtain ⟨ws', hw', r, rfl, hr⟩ := paired_at pa2 i _ hx
      have e : ws' = ws := Option.some.inj (hw'.symm.trans hw)
      subst e
      refine ⟨rfl, ?_⟩
      refine ⟨_, rfl, _, rfl, rowD ws', rowD row, dp_row (sm _ _ hr), dp_row (sm _ _ hy), shaped_rw (ok ws' (List.mem_of_getElem? hw)).2, shaped_rw (ok row mrow).2, ?_⟩
      rw [eqv_row]
      refine ⟨_, rfl, ?_⟩
      by_cases c : ws' = row
      · rw [decide_eq_true c]
        exact iteF (no (by rw [decide_eq_true c]; rfl) _ (Same.refl _))
      · rw [decide_eq_false c]
        exact iteT ⟨_, rfl, yes (by rw [decide_eq_false c]; rfl) _ _ (Same.refl _) ⟨r, rfl, sm _ _ hr⟩⟩
    intro H3 k1 l4
    obtain ⟨us, hD3, pu⟩ := l4
    rw [List.map_id'] at pu
    have lus : us.length ≤ rs.length := by
      rw [paired_len pu]
      exact List.length_filter_le _ _
    have okf : ∀ r ∈ rs.filter (fun r => !decide (r = row)), ∀ z ∈ r, z.length ≤ 1000 := fun r hr => okz r (List.mem_filter.mp hr).1
    generalize rs.filter (fun r => !decide (r = row)) = fs at pu okf
    have n1 := t2.new hD
    have t3 := t2.same k1
    refine ⟨_, rfl, _, rfl, tp, rfl, l, t3, fun z1 H5 hz1 t5 mv5 => ⟨one1, fun c hc => ?_⟩⟩
    have gc := same_new (o := .tup [V.str z1]) hc
    have m5 : Mov tp H2 H5 := (mov_same k1).trans mv5
    refine cat_tups (gc _ _ ((t2.keep m5).tups _ _ hy)) upd_same (by rw [List.length_map]; show row.length + 1 ≤ 4000; omega) fun e H6 g6 he => ?_
    refine ⟨one1, fun f hf => ?_⟩
    have gf := same_new (o := .lst [V.ref e]) hf
    have g := (gc.trans g6).trans gf
    have hq1 := g _ _ (mv5 _ _ hD3 n1.1)
    refine ⟨D, f, us, [V.ref e], rfl, rfl, hq1, upd_same, Nat.le_trans (by rw [List.length_singleton]; omega) k4000, fun u hu => ?_⟩
    have gu := same_new (o := .lst (us ++ [V.ref e])) hu
    have gg := g.trans gu
    have tk : Tups H3 (upd (upd H6 f (.lst [V.ref e])) u (.lst (us ++ [V.ref e]))) := fun b vs hb => gg _ _ ((t3.keep mv5).tups _ _ hb)
    have pa8 := paired_snoc (paired_mono (fun _ _ => stays_rw _ _ _ _ tk) pu) (show RwAt (upd (upd H6 f (.lst [V.ref e])) u (.lst (us ++ [V.ref e]))) (V.ref e) (row ++ [z1]) from ⟨e, rfl, by rw [List.map_append]; exact (gf.trans gu) _ _ he⟩)
    have ok8 : ∀ r ∈ fs ++ [row ++ [z1]], ∀ z ∈ r, z.length ≤ 1000 := fun r hr z hz => by
      rcases List.mem_append.mp hr with h | h
      · exact okf r h z hz
      · rw [List.mem_singleton.mp h] at hz
        rcases List.mem_append.mp hz with h | h
        · exact zrow z h
        · rw [List.mem_singleton.mp h]
          exact hz1.2
    have m8 := (m2.trans m5).trans (mov_same gg)
    have t8 := t5.same gg
    have hu8 : upd (upd H6 f (.lst [V.ref e])) u (.lst (us ++ [V.ref e])) u = some (.lst (us ++ [V.ref e])) := upd_same
    generalize upd (upd H6 f (.lst [V.ref e])) u (.lst (us ++ [V.ref e])) = H8 at pa8 m8 t8 hu8
    have back : ∀ x ∈ us ++ [V.ref e], ∃ ws, RwAt H8 x ws := fun x hx => by
      obtain ⟨i, hi⟩ := List.mem_iff_getElem?.mp hx
      obtain ⟨ws, _, h⟩ := paired_at pa8 i x hi
      exact ⟨ws, h⟩
    refine ⟨u, _, fun x => rowL (rowOf H8 x), rfl, SqL.of hu8, fun x hx => ?_, fun x _ y _ => alike_rowL _ _, fun ys p srt stb hp => ⟨p, ys, rfl, .inl ⟨SqL.of upd_same, fun p2 hp2 => ?_⟩⟩⟩
    · obtain ⟨ws, r, rfl, hr⟩ := back x hx
      refine ⟨⟨r, rfl⟩, ?_, pure_rowL _, by rw [depth_rowL]; decide⟩
      show Dp K H8 (.ref r) (.tuple (rowL (rowOf H8 (.ref r))))
      rw [rowOf_at hr]
      exact dp_row hr
    · have g9 := (same_new (o := .lst ys) hp).trans (same_new (o := .tup ys) hp2)
      exact fin (Ats.tup upd_same (((ats_rows pa8 ok8).same g9).sub fun z hz => stb.perm.mem_iff.mp hz)) (t8.same g9) (m8.trans (mov_same g9))
end
end K01
namespace K01
open PySem L2 Nm
open C8 (Cal Mak pe_c pe_mk pe_gc)
open RZ (ItzT pi_zipA)
/-- no word, no row, no game -/
structure Bad (d : PyData) : Prop where
  w : letD d 20 = false
  r : rowsD d 60 = false
  g : K01.gameD d = false
theorem bad_no {d : PyData} (h1 : letD d 20 = false) (h : ∀ ds, d ≠ .tuple ds) : Bad d := ⟨h1, rowsD_no h 60, gameD_no h⟩
theorem row_bad {ds : List PyData} (h : ∃ d ∈ ds, letD d 20 = false) : rowsD (.tuple ds) 60 = false := by
  obtain ⟨d, hd, e⟩ := h
  show (decide ((ds.length : Int) ≤ 60) && ds.all (fun e => letD e 20)) = false
  have z : ds.all (fun e => letD e 20) = false := by
    cases c : ds.all (fun e => letD e 20) with
    | false => rfl
    | true =>
      have := List.all_eq_true.mp c d hd
      rw [e] at this
      cases this
  rw [z, Bool.and_false]
theorem game_bad {ds : List PyData} (h : ∃ d ∈ ds, rowsD d 60 = false) : K01.gameD (.tuple ds) = false := by
  obtain ⟨d, hd, e⟩ := h
  refine gameD_bad ?_
  cases c : ds.all (fun e => rowsD e 60) with
  | false => rfl
  | true =>
    have := List.all_eq_true.mp c d hd
    rw [e] at this
    cases this
section
variable {P : Program} {w : World} {K : PySem.W.Frag} {mg : Str → Option Value} {base : Heap}
def sp__law_deep (K : PySem.W.Frag) : Sp := fun vs H Q _ => ∃ (kind : Int), vs = [.int kind] ∧ 0 ≤ kind ∧ kind < 4 ∧ ∃ tp o, H tp = some o ∧ ∀ x d H', Same H H' → At K tp H' x d → Bad d → Q x H'
theorem c__law_deep (T : Txt K mg) : Cal P w K mg base 1 "_law_deep" (sp__law_deep K) [] := by
  have sc := sc__law_deep
  refine cal_of T.d__law_deep sc (fun _ _ _ _ _ _ us hl => match us, hl with | [_], _ => rfl) (fun vs H Q E h => ?_) (fun f cdv A outer s H vs Q E hr h => ?_)
  · obtain ⟨kind, rfl, _⟩ := h
    rfl
  · obtain ⟨kind, rfl, h⟩ := h
    refine ⟨_, (pss_cons (ps_set (i := 1) sc.nd rfl (Or.inl rfl) (pe_tup pa_nil))
  (pss_cons (ps_for PassesOwn.never rfl (pi_range1 rfl T.m_range (pa_cons pe_int pa_nil)) (pg_name (i := 2) sc.nd rfl (Or.inl rfl)) (pss_one (ps_set (i := 1) sc.nd rfl (Or.inl rfl) (pe_ix ix_list (pe_lst (pa_cons (pe_tup (pa_cons pe_str (pa_cons (pe_tup (pa_cons (pv 1) pa_nil)) pa_nil))) (pa_cons (pe_tup (pa_cons (pe_tup (pa_cons (pv 1) pa_nil)) pa_nil)) (pa_cons (pe_lst (pa_cons (pe_lst (pa_cons (pv 1) pa_nil)) pa_nil)) (pa_cons (pe_disp (pps_cons pe_str (pe_disp (pps_cons pe_str (pv 1) pps_nil) rfl rfl (List.cons_ne_nil _ _) (by show 1 ≤ 15; decide)) pps_nil) rfl rfl (List.cons_ne_nil _ _) (by show 1 ≤ 15; decide)) pa_nil))))) (pv 0) (fun _ _ => rfl)))))
  (pss_one (ps_ret (pv 1))))), ?_⟩
    obtain ⟨k0, k4, tp, o, hT, q⟩ := h
    refine ⟨nought, fun e0 he0 => ⟨18, rfl, by decide, by decide, ?_⟩⟩
    refine for_range (lo := 0) (n := 18) (fun i σ H1 => ∃ v d v2, σ = [some (.int kind), some v, v2] ∧ Same H H1 ∧ At K tp H1 v d ∧ letD d 20 = false ∧ (i = 0 ∨ Bad d)) ⟨_, .tuple [], _, rfl, same_new he0, .tup upd_same .nil, rfl, .inl rfl⟩ ?_ ?_
    · rintro i σ H1 hi ⟨v, d, v2, rfl, g, hA, nw, _⟩
      refine ⟨_, rfl, one1, fun q1 h1 => ⟨two, fun q2 h2 => ?_⟩⟩
      refine ⟨_, rfl, one1, fun q3 h3 => ⟨one1, fun q4 h4 => ?_⟩⟩
      refine ⟨_, rfl, one1, fun q5 h5 => ⟨one1, fun q6 h6 => ?_⟩⟩
      have s1 := same_new (o := .tup [v]) h1
      have s2 := same_new (o := .tup [V.str "all", V.ref q1]) h2
      have s3 := same_new (o := .tup [v]) h3
      have s4 := same_new (o := .tup [V.ref q3]) h4
      have s5 := same_new (o := .lst [v]) h5
      have s6 := same_new (o := .lst [V.ref q5]) h6
      have f6 := s1.trans (s2.trans (s3.trans (s4.trans (s5.trans s6))))
      have f5 := s1.trans (s2.trans (s3.trans (s4.trans s5)))
      have f4 := s1.trans (s2.trans (s3.trans s4))
      refine fun q7 h7 => fun q8 h8 => ⟨_, rfl, upd_same, [(Sum.inr "b", v)], rfl, (by show 1 ≤ 15; decide), ?_⟩
      have n78 : q7 ≠ q8 := fun e => by
        rw [← e, upd_same] at h8
        cases h8
      refine ⟨by rw [upd_ne n78, upd_ne n78, upd_same], [(Sum.inr "a", V.ref q8)], rfl, (by show 1 ≤ 15; decide), ?_⟩
      refine ⟨(by show 4 ≤ PySem.sizeLine; decide), fun p hp => ?_⟩
      have ga := same_new (o := .dK []) h7
      have gb := same_new (o := .dK []) h8
      have gd := same_mut (o := .dK (mergeK [] [(Sum.inr "a", V.ref q8)])) (ga.trans (same_mut (o := .dK (mergeK [] [(Sum.inr "b", v)])) gb h8)) h7
      have gp := same_new (o := .lst [V.ref q2, V.ref q4, V.ref q6, V.ref q7]) hp
      have fa := f6.trans (gd.trans gp)
      have hA' := At.same fa _ _ hA
      have ntp : ∀ {H5 : Hp} {b : Addr}, Same H H5 → H5 b = none → b ≠ tp := fun {H5 b} g5 hb e => by
        rw [e, g5 _ _ hT] at hb
        cases hb
      have c : kind = 0 ∨ kind = 1 ∨ kind = 2 ∨ kind = 3 := by omega
      rcases c with rfl | rfl | rfl | rfl
      · refine ⟨_, rfl, p, _, 0, .ref q2, rfl, rfl, SqL.of upd_same, rfl, _, .tuple [.str "all", .tuple [d]], _, rfl, g.trans fa, ?_, rfl, .inr ?_⟩
        · exact .tup ((s3.trans (s4.trans (s5.trans (s6.trans (gd.trans gp))))) _ _ upd_same) (.cons (.str _ (by decide +kernel)) (.cons (.tup ((s2.trans (s3.trans (s4.trans (s5.trans (s6.trans (gd.trans gp)))))) _ _ upd_same) (.cons hA' .nil)) .nil))
        · exact ⟨rfl, row_bad ⟨_, List.mem_cons_of_mem _ List.mem_cons_self, rfl⟩, game_bad ⟨_, List.mem_cons_self, rfl⟩⟩
      · refine ⟨_, rfl, p, _, 1, .ref q4, rfl, rfl, SqL.of upd_same, rfl, _, .tuple [.tuple [d]], _, rfl, g.trans fa, ?_, rfl, .inr ?_⟩
        · exact .tup ((s5.trans (s6.trans (gd.trans gp))) _ _ upd_same) (.cons (.tup ((s4.trans (s5.trans (s6.trans (gd.trans gp)))) _ _ upd_same) (.cons hA' .nil)) .nil)
        · exact ⟨rfl, row_bad ⟨_, List.mem_cons_self, rfl⟩, game_bad ⟨_, List.mem_cons_self, row_bad ⟨_, List.mem_cons_self, nw⟩⟩⟩
      · refine ⟨_, rfl, p, _, 2, .ref q6, rfl, rfl, SqL.of upd_same, rfl, _, .list [.list [d]], _, rfl, g.trans fa, ?_, rfl, .inr (bad_no rfl fun _ e => nomatch e)⟩
        exact .lst (ntp (g.trans f5) h6) ((gd.trans gp) _ _ upd_same) (.cons (.lst (ntp (g.trans f4) h5) ((s6.trans (gd.trans gp)) _ _ upd_same) (.cons hA' .nil)) .nil)
      · refine ⟨_, rfl, p, _, 3, .ref q7, rfl, rfl, SqL.of upd_same, rfl, _, .dict [], _, rfl, g.trans fa, ?_, rfl, .inr (bad_no rfl fun _ e => nomatch e)⟩
        exact .dct (gp _ _ upd_same)
    · rintro σ H1 ⟨v, d, v2, rfl, g, hA, nw, h18⟩
      rcases h18 with h | bad
      · cases h
      · exact ⟨_, rfl, q v d H1 g hA bad⟩
end
theorem rowsD_row {r : List Str} (h : rwOk r) : rowsD (rowD r) 60 = true := (rowsD_strs r 60).trans (rowB_of h)
theorem wsOfD_row (r : List Str) : wsOfD (rowD r) = r := by
  show (r.map PyData.str).map strOfD = r
  rw [List.map_map]
  have e : (strOfD ∘ PyData.str) = id := rfl
  rw [e, List.map_id]
theorem gameD_rows {rs : List (List Str)} (ok : ∀ r ∈ rs, rwOk r) : K01.gameD (.tuple (rs.map rowD)) = ((decide (1 ≤ rs.length) && decide (rs.length ≤ 600)) && gmB rs) := by
  show ((decide (1 ≤ (rs.map rowD).length) && decide ((rs.map rowD).length ≤ 600)) && ((rs.map rowD).all (fun e => rowsD e 60) && gmB ((rs.map rowD).map wsOfD))) = _
  have e1 : (rs.map rowD).all (fun e => rowsD e 60) = true := by
    rw [List.all_map, List.all_eq_true]
    exact fun r hr => rowsD_row (ok r hr)
  have e2 : (rs.map rowD).map wsOfD = rs := by
    rw [List.map_map]
    have e : (wsOfD ∘ rowD) = id := funext wsOfD_row
    rw [e, List.map_id]
  rw [e1, e2, List.length_map, Bool.true_and]
theorem atAll_rows {K : PySem.W.Frag} {tp : Addr} {H : Hp} : ∀ {xs : List V} {rs : List (List Str)}, Paired (RwAt H) xs rs → (∀ r ∈ rs, ∀ z ∈ r, z.length ≤ 1000) → AtAll K tp H xs (rs.map rowD)
  | _, _, .nil, _ => .nil
  | _, _, .cons h t, ok => .cons (at_row h (ok _ List.mem_cons_self)) (atAll_rows t fun r hr => ok r (List.mem_cons_of_mem _ hr))
theorem at_game {K : PySem.W.Frag} {tp a : Addr} {H : Hp} {rs : List (List Str)} (h : GmAt H a rs) (ok : ∀ r ∈ rs, ∀ z ∈ r, z.length ≤ 1000) : At K tp H (.ref a) (.tuple (rs.map rowD)) := by
  obtain ⟨xs, ha, pa⟩ := h
  exact .tup ha (atAll_rows pa ok)
/-! ### a line and all its beginnings -/
def bs (k : Nat) : List Str := List.replicate k "b"
def lineR (n : Nat) : List (List Str) := (List.range n).map bs
theorem bs_take (n k : Nat) (h : k ≤ n) : (bs n).take k = bs k := by
  unfold bs
  rw [List.take_replicate, Nat.min_eq_left h]
theorem line_gm (n : Nat) : gmB (lineR n) = true := by
  unfold gmB
  rw [Bool.and_eq_true]
  refine ⟨up_asc ?_, List.all_eq_true.mpr fun r hr => decide_eq_true ?_⟩
  · unfold lineR
    rw [List.pairwise_map]
    refine List.pairwise_lt_range.imp fun {i j} h => bef_pre ?_ ?_
    · rw [← bs_take j i (by omega)]
      exact List.take_prefix _ _
    · intro e
      have := congrArg List.length e
      unfold bs at this
      rw [List.length_replicate, List.length_replicate] at this
      omega
  · obtain ⟨k, hk, rfl⟩ := List.mem_map.mp hr
    refine List.mem_map.mpr ⟨k - 1, List.mem_range.mpr (by have := List.mem_range.mp hk; omega), ?_⟩
    unfold bs
    rw [List.dropLast_replicate]
theorem b_ok : wordOk "b" := ⟨by decide +kernel, by decide +kernel⟩
theorem bs_words (k : Nat) : ∀ z ∈ bs k, wordOk z := fun z hz => by
  rw [List.eq_of_mem_replicate hz]
  exact b_ok
theorem bs_ok {k : Nat} (h : k ≤ 60) : rwOk (bs k) := ⟨by unfold bs; rw [List.length_replicate]; exact h, bs_words k⟩
theorem bs_no {k : Nat} (h : 60 < k) : rowsD (rowD (bs k)) 60 = false := by
  have e : rowsD (rowD (bs k)) 60 = rowB (bs k) 60 := rowsD_strs (bs k) 60
  rw [e]
  unfold rowB bs
  rw [List.length_replicate, decide_eq_false (by omega), Bool.false_and]
theorem line_game {n : Nat} (h1 : 59 ≤ n) (h2 : n ≤ 61) : K01.gameD (.tuple ((lineR (n + 1)).map rowD)) = decide ((n : Int) < 61) := by
  by_cases c : n ≤ 60
  · rw [gameD_rows fun r hr => ?_, line_gm, decide_eq_true (show (n : Int) < 61 by omega)]
    · unfold lineR
      rw [List.length_map, List.length_range, decide_eq_true (by omega), decide_eq_true (by omega)]
      rfl
    · obtain ⟨k, hk, rfl⟩ := List.mem_map.mp hr
      exact bs_ok (by have := List.mem_range.mp hk; omega)
  · rw [decide_eq_false (show ¬ ((n : Int) < 61) by omega)]
    refine game_bad ⟨rowD (bs n), List.mem_map.mpr ⟨bs n, List.mem_map.mpr ⟨n, List.mem_range.mpr (by omega), rfl⟩, rfl⟩, bs_no (by omega)⟩
theorem line_mov {n : Nat} : movD (rowD (bs n)) = if n ≤ 60 then .int ((n : Int) % 2) else .str "none" := by
  by_cases c : n ≤ 60
  · rw [if_pos c]
    have e := movD_yes (ds := (bs n).map PyData.str) (rowsD_row (bs_ok c))
    rw [List.length_map] at e
    unfold bs at e
    rw [List.length_replicate] at e
    exact e
  · rw [if_neg c]
    exact movD_no (bs_no (by omega))
/-! ### many rows -/
def S1 (c : Nat) : Str := ⟨#[c]⟩
def few23 : List Nat := ("abcdefghijklmnopqrstuvw" : Str).cps.toList
def blk (c : Nat) : List (List Str) := [S1 c] :: few23.map fun o => [S1 c, S1 c ++ S1 o]
def wideOf (cs : List Nat) : List (List Str) := [] :: cs.flatMap blk
def alpha : List Nat := ("abcdefghijklmnopqrstuvwxyz" : Str).cps.toList
theorem wide_len : (wideOf alpha).length = 625 := by decide +kernel
theorem wide_asc : ascB (wideOf alpha) = true := by decide +kernel
theorem wide_okB : (wideOf alpha).all (fun r => decide (r.length ≤ 60) && r.all fun z => letB z 20 && decide (z.length ≤ 1000)) = true := by decide +kernel
theorem wide_ok : ∀ r ∈ wideOf alpha, rwOk r := fun r hr => by
  have h := List.all_eq_true.mp wide_okB r hr
  rw [Bool.and_eq_true] at h
  refine ⟨of_decide_eq_true h.1, fun z hz => ?_⟩
  have h2 := List.all_eq_true.mp h.2 z hz
  rw [Bool.and_eq_true] at h2
  exact ⟨h2.1, of_decide_eq_true h2.2⟩
theorem wide_pre {cs : List Nat} : ∀ r ∈ wideOf cs, r.dropLast ∈ wideOf cs := fun r hr => by
  rcases List.mem_cons.mp hr with rfl | hr
  · exact List.mem_cons_self
  obtain ⟨c, hc, hb⟩ := List.mem_flatMap.mp hr
  rcases List.mem_cons.mp hb with rfl | hb
  · exact List.mem_cons_self
  · obtain ⟨o, _, rfl⟩ := List.mem_map.mp hb
    exact List.mem_cons_of_mem _ (List.mem_flatMap.mpr ⟨c, hc, List.mem_cons_self⟩)
theorem take_gm {rs : List (List Str)} (up : rs.Pairwise bef) (pre : ∀ r ∈ rs, r.dropLast ∈ rs) (k : Nat) : gmB (rs.take k) = true := by
  unfold gmB
  rw [Bool.and_eq_true]
  refine ⟨up_asc (up.sublist (List.take_sublist k rs)), List.all_eq_true.mpr fun r hr => decide_eq_true ?_⟩
  by_cases c : r = []
  · subst c
    exact hr
  have lt : bef r.dropLast r := bef_pre (List.dropLast_prefix r) fun e => by
    have := congrArg List.length e
    rw [List.length_dropLast] at this
    have : 0 < r.length := List.length_pos_iff.mpr c
    omega
  have m := pre r (List.mem_of_mem_take hr)
  rw [← List.take_append_drop k rs] at m up
  rcases List.mem_append.mp m with h | h
  · exact h
  · exact absurd ((List.pairwise_append.mp up).2.2 r hr _ h) (bef_not lt)
theorem wide_game {k : Nat} (h1 : 599 ≤ k) (h2 : k ≤ 601) : K01.gameD (.tuple (((wideOf alpha).take k).map rowD)) = decide ((k : Int) < 601) := by
  have up := asc_up wide_asc
  rw [gameD_rows fun r hr => wide_ok r (List.mem_of_mem_take hr), take_gm up wide_pre k, List.length_take, wide_len, Nat.min_eq_left (by omega), decide_eq_true (show 1 ≤ k by omega), Bool.true_and, Bool.and_true]
  exact decide_eq_decide.mpr ⟨fun h => by omega, fun h => by omega⟩
theorem cut_take {xs : List V} {k : Nat} : cutV xs none (some (k : Int)) = xs.take k := by
  unfold cutV
  rw [HT.sIx_nat, HT.sIx_none, List.drop_zero, Nat.sub_zero]
  by_cases c : k ≤ xs.length
  · rw [Nat.min_eq_left c]
  · rw [Nat.min_eq_right (by omega), List.take_length, List.take_of_length_le (by omega)]
theorem few_len : few23.length = 23 := by decide +kernel
theorem wide_more {cs : List Nat} {c i : Nat} (h : cs[i]? = some c) : wideOf (cs.take (i + 1)) = (wideOf (cs.take i) ++ [[S1 c]]) ++ few23.map fun o => [S1 c, S1 c ++ S1 o] := by
  unfold wideOf
  rw [take_one h, List.flatMap_append, List.flatMap_cons, List.flatMap_nil, List.append_nil, List.cons_append, List.cons_append, List.append_assoc]
  rfl
theorem wide_lenC : ∀ cs : List Nat, (wideOf cs).length = 1 + 24 * cs.length := by
  intro cs
  unfold wideOf
  rw [List.length_cons]
  induction cs with
  | nil => rfl
  | cons c cs ih =>
    rw [List.flatMap_cons, List.length_append, List.length_cons]
    have e : (blk c).length = 24 := by
      unfold blk
      rw [List.length_cons, List.length_map, few_len]
    omega
end K01
namespace K01
open PySem L2 Nm
open C8 (Cal Mak pe_c pe_mk pe_gc)
open RZ (ItzT pi_zipA)
theorem rep_flat {α : Type} (x : α) : ∀ n : Nat, (List.replicate n [x]).flatten = List.replicate n x
  | 0 => rfl
  | n + 1 => by
    rw [List.replicate_succ, List.flatten_cons, rep_flat x n]
    rfl
section
variable {P : Program} {w : World} {K : PySem.W.Frag} {mg : Str → Option Value} {base : Heap}
def sp_law (K : PySem.W.Frag) : Sp := fun vs H Q _ => ∃ (a : Addr) (ns : List Int), vs = [.ref a] ∧ SqL K H a (ns.map V.int) ∧ ∀ H', Q (.bl true) H'
theorem ok_law {f : Addr} {fd : FuncData} (F : Fun K "law" "law" s_law f fd) (T : Txt K mg) : FnOk P w K mg base CX0 10 f fd ["script"] (sp_law K) := by
  have C_Hall := c_Hall (P := P) (w := w) (base := base) T
  have C__law_bent := c__law_bent (P := P) (w := w) (base := base) T
  have C__law_deep := c__law_deep (P := P) (w := w) (base := base) T
  have C__law_flag := c__law_flag (P := P) (w := w) (base := base) T
  have C__law_game := c__law_game (P := P) (w := w) (base := base) T
  have C__law_is_game := c__law_is_game (P := P) (w := w) (base := base) T
  have C__law_is_row := c__law_is_row (P := P) (w := w) (base := base) T
  have C__law_mover := c__law_mover (P := P) (w := w) (base := base) T
  have C__law_odd_word := c__law_odd_word (P := P) (w := w) (base := base) T
  have C__law_pick := c__law_pick (P := P) (w := w) (base := base) T
  have C__law_some := c__law_some (P := P) (w := w) (base := base) T
  have C__law_tape := c__law_tape (P := P) (w := w) (base := base) T
  have C_is_game := c_is_game (P := P) (w := w) (base := base) T
  have sc := sc_law
  refine F.ok (k := 9) sc (fun vs H Q E h => ?_) (fun cdv A outer s H vs Q E hr h => ?_)
  · obtain ⟨s0, ns, rfl, _⟩ := h
    rfl
  · obtain ⟨s0, ns, rfl, h⟩ := h
    obtain ⟨CH, C_Hall⟩ := c_Hall (P := P) (w := w) (base := base) T
    -- have C_Hall
    have C__law_is := c_same (P := P) (w := w) (base := base) T
    obtain ⟨hs, q⟩ := h
    have HC : HallC K CH := by
      obtain ⟨_, _, _, _, _, _, hm, _, _⟩ := C_Hall.ex
      exact T.hall_K CH hm
    refine ⟨_, (pss_cons (ps_set (i := 1) sc.nd rfl (Or.inl rfl) (pe_c C__law_tape hr (by omega) rfl (pa_cons (pv 0) pa_nil)))
  (pss_cons (ps_for PassesOwn.never rfl (pi_range1 rfl T.m_range (pa_cons pe_int pa_nil)) (pg_name (i := 2) sc.nd rfl (Or.inl rfl)) (pss_cons (ps_set (i := 3) sc.nd rfl (Or.inl rfl) (pe_c C__law_game hr (by omega) rfl (pa_cons (pv 1) (pa_cons pe_int pa_nil))))
  (pss_cons (ps_set (i := 4) sc.nd rfl (Or.inl rfl) (pv 3))
  (C8.pss_cut (ps_if (pt_cmpR op_gt (pv 2) pe_int (nomark _)) (pss_one (ps_set (i := 4) sc.nd rfl (Or.inl rfl) (pe_c C__law_bent hr (by omega) rfl (pa_cons (pv 1) (pa_cons (pv 3) pa_nil))))) pss_nil)
  (pss_cons (ps_if (pt_not (pt_val (pe_c C__law_flag hr (by omega) rfl (pa_cons (pe_c C_is_game hr (by omega) rfl (pa_cons (pv 4) pa_nil)) (pa_cons (pe_c C__law_is_game hr (by omega) rfl (pa_cons (pv 4) pa_nil)) pa_nil))))) (pss_one (ps_ret pe_bl)) pss_nil)
  (pss_cons (ps_set (i := 5) sc.nd rfl (Or.inl rfl) (pe_c C__law_some hr (by omega) rfl (pa_cons (pv 1) (pa_cons (pv 3) pa_nil))))
  (C8.pss_cut (ps_if (pt_cmpR op_eq (pe_c C__law_pick hr (by omega) rfl (pa_cons (pv 1) (pa_cons pe_int pa_nil))) pe_int (nomark _)) (pss_one (ps_set (i := 5) sc.nd rfl (Or.inl rfl) (pe_op op_catA (pv 5) (pe_tup (pa_cons (pe_c C__law_odd_word hr (by omega) rfl (pa_cons (pv 1) pa_nil)) pa_nil))))) pss_nil)
  (pss_cons (ps_set (i := 6) sc.nd rfl (Or.inl rfl) pe_str)
  (C8.pss_cut (ps_if (pt_val (pe_c C__law_is_row hr (by omega) rfl (pa_cons (pv 5) (pa_cons pe_int pa_nil)))) (pss_one (ps_set (i := 6) sc.nd rfl (Or.inl rfl) (pe_op op_mod (pe_callB (r := Nm.rLenS K) (id := "len") Nm.call_lenS rfl T.m_len (by decide +kernel) (pa_cons (pv 5) pa_nil)) pe_int))) pss_nil)
  (pss_one (ps_if (pt_not (pt_val (pe_c C__law_is hr (by omega) rfl (pa_cons (pe_c C__law_mover hr (by omega) rfl (pa_cons (pv 5) pa_nil)) (pa_cons (pv 6) pa_nil))))) (pss_one (ps_ret pe_bl)) pss_nil)))))))))))
  (pss_cons (ps_set (i := 7) sc.nd rfl (Or.inl rfl) (pe_op op_add pe_int (pe_c C__law_pick hr (by omega) rfl (pa_cons (pv 1) (pa_cons pe_int pa_nil)))))
  (pss_cons (ps_set (i := 8) sc.nd rfl (Or.inr rfl) (pe_op op_repT (pe_tup (pa_cons pe_str pa_nil)) (pv 7)))
  (pss_cons (ps_if (PW.pt (pw_or (pt_not (pt_val (pe_c C__law_flag hr (by omega) rfl (pa_cons (pe_c C_is_game hr (by omega) rfl (pa_cons (pe_callTy call_tuple_of rfl T.m_tuple (by decide +kernel) (pa_cons (pe_lc (own := [("k", 13)]) (g := gName 13) rfl sc.nd (pi_range1 rfl T.m_range (pa_cons (pe_op op_add (pv 7) pe_int) pa_nil)) (blkOk_by (own := [("k", 13)]) (N := ["script", "tape", "turn", "game", "thing", "row", "due", "many", "long", "wide", "one", "size", "odd", "k", "other"]) (sc := defScope s_law) (by decide +kernel)) (fun _ _ _ _ _ => (pg_name (i := 13) sc.nd rfl (Or.inl rfl))) (fun _ _ _ _ _ => pts_nil) (fun _ _ _ _ _ => (pe_slice (r := rSlA K) sl_tupA (pv 8) po_none (po_some (pv 13))))) pa_nil)) pa_nil)) (pa_cons (pe_cmpR op_lt (pv 7) pe_int (nomark _)) pa_nil))))) (pw_or1 (pt_cmpR op_ne (pe_cmpR op_eq (pe_c C__law_mover hr (by omega) rfl (pa_cons (pv 8) pa_nil)) pe_str (nomark _)) (pe_cmpR op_gt (pv 7) pe_int (nomark _)) (nomark _))))) (pss_one (ps_ret pe_bl)) pss_nil)
  (pss_cons (ps_set (i := 9) sc.nd rfl (Or.inl rfl) (pe_lst (pa_cons (pe_tup pa_nil) pa_nil)))
  (pss_cons (ps_for PassesOwn.never rfl (pi_str pe_str) (pg_name (i := 10) sc.nd rfl (Or.inr rfl)) (pss_one (ps_set (i := 9) sc.nd rfl (Or.inl rfl) (pe_op op_cat (pe_op op_cat (pv 9) (pe_lst (pa_cons (pe_tup (pa_cons (pv 10) pa_nil)) pa_nil))) (pe_lc (own := [("other", 14)]) (g := gName 14) rfl sc.nd (pi_str pe_str) (blkOk_by (own := [("other", 14)]) (N := ["script", "tape", "turn", "game", "thing", "row", "due", "many", "long", "wide", "one", "size", "odd", "k", "other"]) (sc := defScope s_law) (by decide +kernel)) (fun _ _ _ _ _ => (pg_name (i := 14) sc.nd rfl (Or.inl rfl))) (fun _ _ _ _ _ => pts_nil) (fun _ _ _ _ _ => (pe_tup (pa_cons (pv 10) (pa_cons (pe_op op_add_str (pv 10) (pv 14)) pa_nil)))))))))
  (pss_cons (ps_set (i := 11) sc.nd rfl (Or.inl rfl) (pe_op op_add pe_int (pe_c C__law_pick hr (by omega) rfl (pa_cons (pv 1) (pa_cons pe_int pa_nil)))))
  (pss_cons (ps_set (i := 9) sc.nd rfl (Or.inl rfl) (pe_callTy call_tuple_of rfl T.m_tuple (by decide +kernel) (pa_cons (pe_slice sl_list (pe_callB (NmD.cr_sortD (u66 hr)) rfl T.m_sorted (by decide +kernel) (pa_cons (pv 9) pa_nil)) po_none (po_some (pv 11))) pa_nil)))
  (pss_cons (ps_set (i := 12) sc.nd rfl (Or.inl rfl) (pe_ix ix_list (pe_lst (pa_cons pe_non (pa_cons (pe_lst pa_nil) (pa_cons (pe_lst (pa_cons pe_str pa_nil)) (pa_cons pe_str (pa_cons pe_int (pa_cons pe_dnewK (pa_cons (pe_tup (pa_cons pe_int pa_nil)) (pa_cons (pe_tup (pa_cons pe_non pa_nil)) pa_nil))))))))) (pe_c C__law_pick hr (by omega) rfl (pa_cons (pv 1) (pa_cons pe_int pa_nil))) (fun _ _ => rfl)))
  (pss_cons (ps_for PassesOwn.never rfl (pi_list (pe_lst (pa_cons (pe_c C__law_deep hr (by omega) rfl (pa_cons (pe_c C__law_pick hr (by omega) rfl (pa_cons (pv 1) (pa_cons pe_int pa_nil))) pa_nil)) (pa_cons (pe_mk C_Hall hr (by omega) rfl (pa_cons (pe_tup (pa_cons (pe_tup (pa_cons pe_str (pa_cons pe_int (pa_cons (pe_tup pa_nil) pa_nil)))) pa_nil)) pa_nil)) (pa_cons (pe_tup (pa_cons (pe_c C__law_deep hr (by omega) rfl (pa_cons pe_int pa_nil)) pa_nil)) (pa_cons (pe_tup (pa_cons (pe_tup pa_nil) (pa_cons (pe_tup (pa_cons (pe_mk C_Hall hr (by omega) rfl (pa_cons (pe_tup (pa_cons (pe_tup (pa_cons pe_str (pa_cons pe_int (pa_cons (pe_tup pa_nil) pa_nil)))) pa_nil)) pa_nil)) pa_nil)) pa_nil))) pa_nil)))))) (pg_name (i := 4) sc.nd rfl (Or.inl rfl)) (pss_one (ps_if (PW.pt (pw_or (pt_not (pt_val (pe_c C__law_flag hr (by omega) rfl (pa_cons (pe_c C_is_game hr (by omega) rfl (pa_cons (pv 4) pa_nil)) (pa_cons pe_bl pa_nil))))) (pw_or1 (pt_cmpR op_ne (pe_c C__law_mover hr (by omega) rfl (pa_cons (pv 4) pa_nil)) pe_str (nomark _))))) (pss_one (ps_ret pe_bl)) pss_nil)))
  (pss_one (ps_ret (pe_and (pe_c C__law_flag hr (by omega) rfl (pa_cons (pe_c C_is_game hr (by omega) rfl (pa_cons (pv 9) pa_nil)) (pa_cons (pe_cmpR op_lt (pe_callB (r := Nm.rLenS K) (id := "len") Nm.call_lenS rfl T.m_len (by decide +kernel) (pa_cons (pv 9) pa_nil)) pe_int (nomark _)) pa_nil))) (pe_and (pe_cmpR op_eq (pe_c C__law_mover hr (by omega) rfl (pa_cons (pv 12) pa_nil)) pe_str (nomark _)) (pe_one (pe_cmpR op_eq (pe_c C__law_mover hr (by omega) rfl (pa_cons (pe_tup pa_nil) pa_nil)) pe_int (nomark _)))))))))))))))))), ?_⟩
    refine ⟨_, rfl, s0, rfl, ns, hs, fun tp l H1 g1 htp t1 => ?_⟩
    refine ⟨8, rfl, by decide, by decide, ?_⟩
    refine for_range (lo := 0) (n := 8) (fun i σ H2 => ∃ v2 v3 v4 v5 v6 v7 v8 v9 v10 v11 v12 v13 v14, σ = [some (.ref s0), some (.ref tp), v2, v3, v4, v5, v6, v7, v8, v9, v10, v11, v12, v13, v14] ∧ TapeAt H2 tp l)
      ⟨_, _, _, _, _, _, _, _, _, _, _, _, _, rfl, t1⟩ ?_ ?_
    · rintro i σ H2 hi ⟨v2, v3, v4, v5, v6, v7, v8, v9, v10, v11, v12, v13, v14, rfl, t2⟩
      refine ⟨_, rfl, tp, 14, rfl, l, t2, by decide, by decide, fun p gs H3 gm3 G few lenr t3 mv3 => ?_⟩
      have okz : ∀ r ∈ gs, ∀ z ∈ r, z.length ≤ 1000 := fun r hr z hz => ((G.ok r hr).2 z hz).2
      have one : 1 ≤ gs.length := List.length_pos_of_mem G.nil
      refine ⟨_, rfl, ?_⟩
      -- another thing
      refine ⟨fun σ H4 => ∃ x d, σ = [some (.ref s0), some (.ref tp), some (.int (0 + (i : Int))), some (.ref p), some x, v5, v6, v7, v8, v9, v10, v11, v12, v13, v14] ∧ TapeAt H4 tp l ∧ At K tp H4 x d ∧ GmAt H4 p gs, ?_, ?_⟩
      · refine ⟨_, rfl, _, _, rfl, rfl, _, rfl, ?_⟩
        refine ite2 (fun _ => ?_) (fun _ => ⟨_, _, rfl, t3, at_game gm3 okz, gm3⟩)
        exact ⟨_, rfl, _, rfl, tp, p, rfl, l, gs, t3, gm3, G.ok, one, by omega, fun x d H4 hA t4 mv4 => ⟨x, d, rfl, t4, hA, gm3.keep (t3.keep mv4).tups⟩⟩
      · rintro σ H4 ⟨x, d, rfl, t4, hA, gm4⟩
        refine ⟨_, rfl, x, rfl, tp, d, hA, fun H5 g5 => ⟨_, rfl, x, rfl, tp, d, At.same g5 _ _ hA, fun H6 g6 => ⟨_, _, rfl, _, rfl, ?_⟩⟩⟩
        rw [decide_eq_true (show K01.gameD d = K01.gameD d from rfl)]
        refine iteF ?_
        have g46 := g5.trans g6
        have t6 := t4.same g46
        obtain ⟨xs, hp, pa⟩ := gm4.keep (tups_same g46)
        have el := paired_len pa
        -- a row
        refine ⟨_, rfl, _, rfl, tp, p, rfl, l, xs, t6, hp, by omega, by omega, fun y0 H7 my t7 mv7 => ?_⟩
        obtain ⟨i7, hi7⟩ := List.mem_iff_getElem?.mp my
        obtain ⟨row, hrow, r7, rfl, hr7⟩ := paired_at pa i7 y0 hi7
        have hr7' := (t6.keep mv7).tups _ _ hr7
        have mrow := List.mem_of_getElem? hrow
        have lrow := lenr row mrow
        refine ⟨fun σ H8 => ∃ y zs ds, σ = [some (.ref s0), some (.ref tp), some (.int (0 + (i : Int))), some (.ref p), some x, some (.ref y), v6, v7, v8, v9, v10, v11, v12, v13, v14] ∧ TapeAt H8 tp l ∧ H8 y = some (.tup zs) ∧ AtAll K tp H8 zs ds, ?_, ?_⟩
        · refine ⟨_, rfl, tp, 3, rfl, l, t7, by decide, by decide, fun r8 H8 _ _ t8 mv8 => ⟨rfl, _, rfl, ?_⟩⟩
          have hr8 := (t7.keep mv8).tups _ _ hr7'
          refine ite2 (fun _ => ?_) (fun _ => ⟨r7, _, _, rfl, t8, hr8, at_strs row (okz row mrow)⟩)
          refine ⟨_, rfl, _, rfl, tp, rfl, l, t8, fun z dz H9 hz t9 mv9 => ⟨one1, fun c hc => ?_⟩⟩
          have gc := same_new (o := .tup [z]) hc
          refine cat_tups (gc _ _ ((t8.keep mv9).tups _ _ hr8)) upd_same (by rw [List.length_map]; show row.length + 1 ≤ 4000; omega) fun e H10 g10 he => ?_
          obtain ⟨ds, hds⟩ := ((ats_strs (K := K) (tp := tp) (H := H10) (okz row mrow)).append (.cons (At.same (gc.trans g10) _ _ hz) .nil)).all
          exact ⟨e, _, ds, rfl, t9.same (gc.trans g10), he, hds⟩
        · rintro σ H8 ⟨y, zs, ds, rfl, t8, hy, hds⟩
          have hA8 : At K tp H8 (.ref y) (.tuple ds) := .tup hy hds
          have lz : zs.length = ds.length := paired_len (atAll_paired hds)
          -- what is due
          refine ⟨fun σ H9 => σ = [some (.ref s0), some (.ref tp), some (.int (0 + (i : Int))), some (.ref p), some x, some (.ref y), some (movD (.tuple ds)), v7, v8, v9, v10, v11, v12, v13, v14] ∧ Same H8 H9, ?_, ?_⟩
          · refine ⟨_, rfl, .ref y, 60, rfl, by decide, tp, _, hA8, fun H9 g9 => ⟨_, rfl, ?_⟩⟩
            refine ite2 (fun z => ?_) (fun z => ?_)
            · refine ⟨_, rfl, y, _, rfl, .inr (SqT.of (g9 _ _ hy)), _, 2, rfl, rfl, (by show (0 : Int) < 2; decide), ?_, g9⟩
              rw [movD_yes z, lz]
              rfl
            · refine ⟨?_, g9⟩
              rw [movD_no (Bool.eq_false_iff.mpr z)]
              rfl
          · rintro σ H9 ⟨rfl, g9⟩
            have okd : (∃ i, movD (.tuple ds) = .int i) ∨ ∃ z, movD (.tuple ds) = .str z := by
              cases c : rowsD (.tuple ds) 60 with
              | true => exact .inl ⟨_, movD_yes c⟩
              | false => exact .inr ⟨_, movD_no c⟩
            refine ⟨_, rfl, .ref y, rfl, tp, _, At.same g9 _ _ hA8, fun H10 g10 => ⟨_, rfl, _, rfl, okd, fun H11 g11 => ⟨_, rfl, iteF ?_⟩⟩⟩
            exact ⟨_, _, _, _, _, _, _, _, _, _, _, _, _, rfl, t8.same ((g9.trans g10).trans g11)⟩
    · rintro σ H2 ⟨v2, v3, v4, v5, v6, v7, v8, v9, v10, v11, v12, v13, v14, rfl, t2⟩
      clear hs g1 htp t1
      refine ⟨_, rfl, tp, 3, rfl, l, t2, by decide, by decide, fun r3 H3 r30 r31 t3 mv3 => ⟨_, _, rfl, rfl, ?_⟩⟩
      obtain ⟨n, hn⟩ : ∃ n : Nat, 59 + r3 = (n : Int) := ⟨(59 + r3).toNat, by omega⟩
      show gName 7 (.int (59 + r3)) _ _ _
      rw [hn]
      refine ⟨one1, fun q4 h4 => ⟨_, rfl, q4, (n : Int), [V.str "b"], rfl, rfl, SqT.of upd_same, List.cons_ne_nil _ _, by omega, by omega, (by show 1 ≤ 1000; decide), fun ln hln => ?_⟩⟩
      have s4 := (same_new (o := .tup [V.str "b"]) h4).trans (same_new (o := .tup (List.replicate ((n : Int)).toNat [V.str "b"]).flatten) hln)
      have t4 := t3.same s4
      have hlo : upd (upd H3 q4 (.tup [V.str "b"])) ln (.tup (List.replicate ((n : Int)).toNat [V.str "b"]).flatten) ln = some (.tup ((bs n).map V.str)) := by
        rw [upd_same, Int.toNat_natCast, rep_flat]
        unfold bs
        rw [List.map_replicate]
      generalize upd (upd H3 q4 (.tup [V.str "b"])) ln (.tup (List.replicate ((n : Int)).toNat [V.str "b"]).flatten) = H4 at t4 hlo
      clear s4 h4 hln
      -- a line and its beginnings
      refine ⟨_, rfl, _, _, rfl, rfl, _, rfl, by omega, by omega, fun D hD => ?_⟩
      refine lc_range (lo := 0) (n := ((n : Int) + 1).toNat) (fun i H5 => ∃ xs, H5 D = some (.lst xs) ∧ Paired (RwAt H5) xs (lineR i) ∧ Same H4 H5) ⟨[], upd_same, .nil, same_new hD⟩ ?_ ?_
      · rintro i H5 hi ⟨xs, h5, p5, g5⟩
        refine ⟨rfl, ?_⟩
        refine ⟨_, rfl, _, rfl, _, rfl, sl_takeE (k := i) (by omega) (g5 _ _ hlo) fun r H6 g6 hr => ?_⟩
        have l5 : xs.length = i := by
          rw [paired_len p5]
          unfold lineR
          rw [List.length_map, List.length_range]
        have h6 := g6 _ _ h5
        refine ⟨xs, h6, Nat.lt_of_lt_of_le (show xs.length < 4000 by omega) k4000, xs ++ [V.ref r], upd_same, ?_, same_mut (g5.trans g6) hD⟩
        have e : lineR (i + 1) = lineR i ++ [bs i] := by
          unfold lineR
          rw [List.range_succ, List.map_append]
          rfl
        rw [e]
        have tk := tups_lst (vs := xs ++ [V.ref r]) h6
        refine paired_snoc (paired_mono (fun _ _ => stays_rw _ _ _ _ fun b us hb => tk _ _ (g6 _ _ hb)) p5) ⟨r, rfl, tk _ _ ?_⟩
        rw [hr, ← List.map_take, bs_take n i (by omega)]
      rintro H5 ⟨xs, h5, p5, g5⟩
      rw [show ((n : Int) + 1).toNat = n + 1 by omega] at p5
      refine ⟨D, xs, rfl, .inl ⟨SqL.of h5, fun p hp => ?_⟩⟩
      have gp := same_new (o := .tup xs) hp
      have gm : GmAt (upd H5 p (.tup xs)) p (lineR (n + 1)) := ⟨xs, upd_same, paired_mono (fun _ _ => stays_rw _ _ _ _ (tups_same gp)) p5⟩
      have zl : ∀ r ∈ lineR (n + 1), ∀ z ∈ r, z.length ≤ 1000 := fun r hr z hz => by
        obtain ⟨k, _, rfl⟩ := List.mem_map.mp hr
        exact (bs_words k z hz).2
      refine ⟨.ref p, rfl, tp, _, at_game gm zl, fun H6 g6 => ?_⟩
      refine ⟨_, rfl, _, _, rfl, rfl, _, _, rfl, _, rfl, ?_⟩
      rw [line_game (by omega) (by omega), decide_eq_true (show decide ((n : Int) < 61) = decide ((n : Int) < 61) from rfl)]
      refine iteF ?_
      have s6 := (g5.trans gp).trans g6
      have t6 := t4.same s6
      have hlo6 := s6 _ _ hlo
      clear p5 h5 hD hp gm
      refine ⟨_, rfl, .ref ln, rfl, tp, rowD (bs n), at_row ⟨ln, rfl, hlo6⟩ (fun z hz => (bs_words n z hz).2), fun H7 g7 => ?_⟩
      rw [line_mov]
      have s7 := s6.trans g7
      have t7 := t4.same s7
      suffices nx : ∀ H', TapeAt H' tp l → _ from by
        by_cases c : n ≤ 60
        · rw [if_pos c]
          refine ⟨rfl, _, rfl, _, _, rfl, rfl, rfl, _, rfl, ?_⟩
          refine ite2 (fun z => ?_) (fun _ => ?_)
          · have z' : (!decide (V.bl false = V.bl (decide ((60 : Int) < (n : Int))))) = true := z
            rw [decide_eq_false (show ¬ ((60 : Int) < (n : Int)) by omega)] at z'
            cases z'
          · exact nx _ t7
        · rw [if_neg c]
          refine ⟨rfl, _, rfl, _, _, rfl, rfl, rfl, _, rfl, ?_⟩
          refine ite2 (fun z => ?_) (fun _ => ?_)
          · have z' : (!decide (V.bl true = V.bl (decide ((60 : Int) < (n : Int))))) = true := z
            rw [decide_eq_true (show ((60 : Int) < (n : Int)) by omega)] at z'
            cases z'
          · exact nx _ t7
      clear t7
      clear hlo6 hlo g7 g6 gp s7 s6 t6 zl g5
      intro H8 t8
      clear t4
      -- many rows
      refine ⟨nought, fun e0 he0 => ⟨one1, fun D0 hD0 => ⟨_, rfl, ?_⟩⟩⟩
      have se := (same_new (o := .tup []) he0).trans (same_new (o := .lst [V.ref e0]) hD0)
      refine for_it (walk_str (z := "abcdefghijklmnopqrstuvwxyz")) (fun i σ H9 => ∃ D xs w10 w11 w12 w13 w14, σ = [some (.ref s0), some (.ref tp), v2, v3, v4, v5, v6, some (.int (n : Int)), some (.ref ln), some (.ref D), w10, w11, w12, w13, w14] ∧ H9 D = some (.lst xs) ∧ Paired (RwAt H9) xs (wideOf (alpha.take i)) ∧ TapeAt H9 tp l ∧ D ≠ tp)
        ⟨D0, [V.ref e0], _, _, _, _, _, rfl, upd_same, .cons ⟨e0, rfl, (same_new (o := .lst [V.ref e0]) hD0) _ _ upd_same⟩ .nil, t8.same se, ((t8.same (same_new (o := .tup []) he0)).new hD0).1⟩ (fun _ _ _ _ _ => trivial) ?_ ?_
      · rintro i x σ H9 H10 hi ⟨D, xs, w10, w11, w12, w13, w14, rfl, hD9, p9, t9, _⟩ ⟨rfl, c, hc, rfl⟩
        have hc' : alpha[i]? = some c := by
          unfold alpha
          rw [Array.getElem?_toList]
          exact hc
        have i26 : i < 26 := (List.getElem?_eq_some_iff.mp hc').1
        have lx : xs.length ≤ 700 := by
          rw [paired_len p9, wide_lenC, List.length_take]
          omega
        refine ⟨_, rfl, _, rfl, one1, fun q1 h1 => ⟨one1, fun q2 h2 => ?_⟩⟩
        have k1 := same_new (o := .tup [V.str (S1 c)]) h1
        have k2 := same_new (o := .lst [V.ref q1]) h2
        refine ⟨D, q2, xs, [V.ref q1], rfl, rfl, (k1.trans k2) _ _ hD9, upd_same, Nat.le_trans (by rw [List.length_singleton]; omega) k4000, fun q3 h3 => ?_⟩
        have k3 := same_new (o := .lst (xs ++ [V.ref q1])) h3
        refine ⟨_, rfl, fun q4 h4 => ?_⟩
        have k13 := (k1.trans k2).trans k3
        refine lcS (walk_str (z := "abcdefghijklmnopqrstuvw")) stays_rw few23 (fun _ => true) (fun o => [S1 c, S1 c ++ S1 o]) (by decide +kernel) (by rw [few_len]; decide) (fun _ _ => trivial) h4 ?_ ?_
        · rintro i2 x2 o H11 H12 Nx ho ⟨rfl, c2, hc2, rfl⟩ sm _ yes
          have e2 : c2 = o := by
            have z : few23[i2]? = some c2 := by
              unfold few23
              rw [Array.getElem?_toList]
              exact hc2
            rw [z] at ho
            exact Option.some.inj ho
          subst e2
          refine ⟨rfl, ?_⟩
          exact ⟨_, rfl, _, rfl, _, rfl, S1 c, S1 c2, rfl, rfl, two, two, fun q hq => yes rfl _ _ (same_new hq) ⟨q, rfl, upd_same⟩⟩
        · rintro H11 sm ⟨us, h4', pu⟩
          rw [filter_all] at pu
          have lu : us.length = 23 := by rw [paired_len pu, List.length_map, few_len]
          refine ⟨q3, q4, _, us, rfl, rfl, sm _ _ upd_same, h4', Nat.le_trans (by rw [List.length_append, List.length_singleton, lu]; omega) k4000, fun q5 h5 => ?_⟩
          have k5 := same_new (o := .lst ((xs ++ [V.ref q1]) ++ us)) h5
          have k15 := k13.trans (sm.trans k5)
          refine ⟨q5, _, _, _, _, _, _, rfl, upd_same, ?_, t9.same k15, ((t9.same (k13.trans sm)).new h5).1⟩
          rw [wide_more hc']
          have pa1 := paired_snoc (paired_mono (fun _ _ => stays_rw _ _ _ _ (tups_same k15)) p9) (show RwAt _ (V.ref q1) [S1 c] from ⟨q1, rfl, (k2.trans (k3.trans (sm.trans k5))) _ _ upd_same⟩)
          exact paired_app pa1 (paired_mono (fun _ _ => stays_rw _ _ _ _ (tups_same k5)) pu)
      rintro σ H9 ⟨D, xs, w10, w11, w12, w13, w14, rfl, hD9, p9, t9, nD⟩
      clear t8 se hD0 he0
      rw [show alpha.take ("abcdefghijklmnopqrstuvwxyz" : Str).cps.size = alpha from List.take_of_length_le (by unfold alpha; rw [Array.length_toList]; exact Nat.le_refl _)] at p9
      refine ⟨_, rfl, tp, 3, rfl, l, t9, by decide, by decide, fun r10 H10 r100 r101 t10 mv10 => ⟨_, _, rfl, rfl, ?_⟩⟩
      obtain ⟨m, hm⟩ : ∃ m : Nat, 599 + r10 = (m : Int) := ⟨(599 + r10).toNat, by omega⟩
      show gName 11 (.int (599 + r10)) _ _ _
      rw [hm]
      have hD10 := mv10 _ _ hD9 nD
      have p10 := paired_mono (fun _ _ => stays_rw _ _ _ _ (t9.keep mv10).tups) p9
      have back : ∀ x ∈ xs, ∃ ws, RwAt H10 x ws := fun x hx => by
        obtain ⟨i, hi⟩ := List.mem_iff_getElem?.mp hx
        obtain ⟨ws, _, h⟩ := paired_at p10 i x hi
        exact ⟨ws, h⟩
      refine ⟨_, rfl, D, xs, fun x => rowL (rowOf H10 x), rfl, SqL.of hD10, fun x hx => ?_, fun x _ y _ => alike_rowL _ _, fun ys p srt stb hp => ⟨_, rfl, _, rfl, p, ys, rfl, SqL.of upd_same, fun p1 hp1 => ⟨p1, _, rfl, .inl ⟨SqL.of upd_same, fun w hw => ?_⟩⟩⟩⟩
      · obtain ⟨ws, r, rfl, hr⟩ := back x hx
        refine ⟨⟨r, rfl⟩, ?_, pure_rowL _, by rw [depth_rowL]; decide⟩
        show Dp K H10 (.ref r) (.tuple (rowL (rowOf H10 (.ref r))))
        rw [rowOf_at hr]
        exact dp_row hr
      have upW := asc_up wide_asc
      obtain ⟨s1, s2, s3⟩ := sorted_rows p10 (bef_nodup upW) srt stb
      have eW : ys.map (rowOf H10) = wideOf alpha := rows_one s2 upW fun z => s3.mem_iff
      rw [eW] at s1
      have k11 := (same_new (o := .lst ys) hp).trans (same_new (o := .lst (cutV ys none (some (m : Int)))) hp1)
      have k12 := k11.trans (same_new (o := .tup (cutV ys none (some (m : Int)))) hw)
      have gw : GmAt (upd (upd (upd H10 p (.lst ys)) p1 (.lst (cutV ys none (some (m : Int))))) w (.tup (cutV ys none (some (m : Int))))) w ((wideOf alpha).take m) := by
        refine ⟨_, upd_same, ?_⟩
        have pt := paired_take (paired_mono (fun _ _ => stays_rw _ _ _ _ (tups_same k12)) s1) m
        rw [← cut_take (xs := ys)] at pt
        exact pt
      have t12 := t10.same k12
      generalize upd (upd (upd H10 p (.lst ys)) p1 (.lst (cutV ys none (some (m : Int))))) w (.tup (cutV ys none (some (m : Int)))) = H12 at gw t12
      clear k12 k11 s1 s2 s3 eW srt stb back p10 hD10 mv10 t10 p9 hD9 t9 hp hp1 hw
      -- an odd thing
      refine ⟨nought, fun q1 h1 => ⟨one1, fun q2 h2 => fun q3 h3 => ⟨one1, fun q4 h4 => ⟨one1, fun q5 h5 => ⟨(by show 8 ≤ PySem.sizeLine; decide), fun pl hpl => ?_⟩⟩⟩⟩⟩
      have g1 := same_new (o := .lst []) h1
      have g2 := same_new (o := .lst [V.str "a"]) h2
      have g3 := same_new (o := .dK []) h3
      have g4 := same_new (o := .tup [V.int 1]) h4
      have g5 := same_new (o := .tup [V.non]) h5
      have g6 := same_new (o := .lst [V.non, V.ref q1, V.ref q2, V.str "a", V.int 0, V.ref q3, V.ref q4, V.ref q5]) hpl
      have n1 := (t12.new h1).1
      have n2 := ((t12.same g1).new h2).1
      have b5 := g5.trans g6
      have b4 := g4.trans b5
      have b3 := g3.trans b4
      have b2 := g2.trans b3
      have b1 := g1.trans b2
      have npl := ((t12.same (g1.trans (g2.trans (g3.trans (g4.trans g5))))).new hpl).1
      have tb := t12.same b1
      refine ⟨_, rfl, tp, 8, rfl, l, tb, by decide, by decide, fun r13 H13 r130 r131 t13 mv13 => ?_⟩
      have kk := tb.keep mv13
      have e1 : H13 q1 = some (.lst []) := mv13 _ _ (b2 _ _ upd_same) n1
      have e2 : H13 q2 = some (.lst [V.str "a"]) := mv13 _ _ (b3 _ _ upd_same) n2
      have e3 : H13 q3 = some (.dK []) := kk _ _ (b4 _ _ upd_same) (fun _ e => nomatch e)
      have e4 : H13 q4 = some (.tup [V.int 1]) := kk.tups _ _ (b5 _ _ upd_same)
      have e5 : H13 q5 = some (.tup [V.non]) := kk.tups _ _ (g6 _ _ upd_same)
      obtain ⟨v, hv, mv⟩ := at_okI (xs := [V.non, V.ref q1, V.ref q2, V.str "a", V.int 0, V.ref q3, V.ref q4, V.ref q5]) r130 r131
      have odd : ∃ d, At K tp H13 v d ∧ rowsD d 60 = false := by
        simp only [List.mem_cons, List.not_mem_nil, or_false] at mv
        rcases mv with rfl | rfl | rfl | rfl | rfl | rfl | rfl | rfl
        · exact ⟨_, .non, rfl⟩
        · exact ⟨_, .lst n1 e1 .nil, rfl⟩
        · exact ⟨_, .lst n2 e2 (.cons (.str _ (by decide +kernel)) .nil), rfl⟩
        · exact ⟨_, .str _ (by decide +kernel), rfl⟩
        · exact ⟨_, .int 0, rfl⟩
        · exact ⟨_, .dct e3, rfl⟩
        · exact ⟨_, .tup e4 (.cons (.int 1) .nil), row_bad ⟨_, List.mem_cons_self, rfl⟩⟩
        · exact ⟨_, .tup e5 (.cons .non .nil), row_bad ⟨_, List.mem_cons_self, rfl⟩⟩
      obtain ⟨do_, hdo, ro⟩ := odd
      have gw13 := (gw.keep (tups_same b1)).keep kk.tups
      refine ⟨pl, _, r13, v, rfl, rfl, SqL.of (mv13 _ _ upd_same npl), hv, ?_⟩
      clear e1 e2 e3 e4 e5 b1 b2 b3 b4 b5 g1 g2 g3 g4 g5 g6 tb gw t12 kk mv13 hv mv h1 h2 h3 h4 h5 hpl n1 n2 npl
      -- no games
      refine ⟨_, rfl, tp, 4, rfl, l, t13, by decide, by decide, fun r14 H14 r140 r141 t14 mv14 => ?_⟩
      have hdo14 := At.tape hdo t13 mv14
      have gw14 := gw13.keep (t13.keep mv14).tups
      have hT : ∃ o, H14 tp = some o := by
        obtain ⟨_, _, _, _, _, hT, _⟩ := t14
        exact ⟨_, hT⟩
      obtain ⟨oT, hT⟩ := hT
      refine ⟨r14, rfl, r140, r141, tp, _, hT, fun x1 d1 H15 g15 hA1 bad1 => ?_⟩
      refine ⟨nought, fun q1 h1 => ⟨(by show 3 ≤ PySem.sizeLine; decide), fun q2 h2 => ⟨one1, fun q3 h3 => ?_⟩⟩⟩
      have k1 := same_new (o := .tup []) h1
      have k2 := same_new (o := .tup [V.str "p", V.int 0, V.ref q1]) h2
      have k3 := same_new (o := .tup [V.ref q2]) h3
      have okb : ∀ b ∈ [(("p" : Str), (0 : Int), ([] : List Str))], boardB b = true ∧ smallBd b := fun b hb => by
        rw [List.mem_singleton.mp hb]
        exact ⟨by decide +kernel, by show ("p" : Str).length ≤ 1000; decide +kernel, by show 0 ≤ 1000; decide, fun z hz => absurd hz (List.not_mem_nil)⟩
      intro y dx hy hdx ne
      have gx : ∀ {H5 : Hp} {y dx : Addr}, H5 y = none → H5 dx = none → Same H5 (upd (upd H5 dx (.own y)) y (.ins CH dx [])) := fun hy hdx c o ho => by
        rw [upd_ne (ne_of_none ho hy), upd_ne (ne_of_none ho hdx)]
        exact ho
      have gy := gx hy hdx
      refine ⟨y, dx, q3, [("p", 0, [])], rfl, upd_same, ⟨[.ref q2], gy _ _ upd_same, .cons ⟨q2, q1, rfl, (k3.trans gy) _ _ upd_same, (k2.trans (k3.trans gy)) _ _ upd_same⟩ .nil⟩, okb, Nat.le_refl _, (by show 1 ≤ 12; decide), fun H16 fs h16 lf hh kp => ⟨rfl, ?_⟩⟩
      have g16 : Same H15 H16 := fun b o ho => by
        have z := (k1.trans (k2.trans k3)) _ _ ho
        exact kp b o (gy _ _ z) (ne_of_none z hy)
      have hT16 := g16 _ _ (g15 _ _ hT)
      refine ⟨1, rfl, by decide, by decide, tp, _, hT16, fun x3 d3 H17 g17 hA3 bad3 => ⟨one1, fun q4 h4 => ?_⟩⟩
      have k4 := same_new (o := .tup [x3]) h4
      refine ⟨nought, fun q5 h5 => ?_⟩
      have k5 := same_new (o := .tup []) h5
      refine ⟨nought, fun q6 h6 => ⟨(by show 3 ≤ PySem.sizeLine; decide), fun q7 h7 => ⟨one1, fun q8 h8 => ?_⟩⟩⟩
      have k6 := same_new (o := .tup []) h6
      have k7 := same_new (o := .tup [V.str "p", V.int 0, V.ref q6]) h7
      have k8 := same_new (o := .tup [V.ref q7]) h8
      intro y' dx' hy' hdx' ne'
      have gy' := gx hy' hdx'
      refine ⟨y', dx', q8, [("p", 0, [])], rfl, upd_same, ⟨[.ref q7], gy' _ _ upd_same, .cons ⟨q7, q6, rfl, (k8.trans gy') _ _ upd_same, (k7.trans (k8.trans gy')) _ _ upd_same⟩ .nil⟩, okb, Nat.le_refl _, (by show 1 ≤ 12; decide), fun H18 fs' h18 lf' hh' kp' => ⟨rfl, ?_⟩⟩
      have k48 := (k4.trans k5).trans ((k6.trans k7).trans k8)
      have g18 : Same H17 H18 := fun b o ho => by
        have z := k48 _ _ ho
        exact kp' b o (gy' _ _ z) (ne_of_none z hy')
      have h5' : H18 q5 = some (.tup []) := by
        have z := ((k6.trans k7).trans k8) q5 _ (upd_same (o := .tup []))
        exact kp' _ _ (gy' _ _ z) (ne_of_none z hy')
      have h4' : H18 q4 = some (.tup [x3]) := by
        have z := (k5.trans ((k6.trans k7).trans k8)) q4 _ (upd_same (o := .tup [x3]))
        exact kp' _ _ (gy' _ _ z) (ne_of_none z hy')
      refine ⟨one1, fun q9 h9 => ⟨two, fun q10 h10 => ⟨(by show 4 ≤ PySem.sizeLine; decide), fun L hL => ?_⟩⟩⟩
      have k9 := same_new (o := .tup [V.ref y']) h9
      have k10 := same_new (o := .tup [V.ref q5, V.ref q9]) h10
      have k11 := same_new (o := .lst [x1, V.ref y, V.ref q4, V.ref q10]) hL
      have k911 := k9.trans (k10.trans k11)
      have f17 := g18.trans k911
      have f16 := g17.trans f17
      have f15 := g16.trans f16
      have f14 := g15.trans f15
      have all4 : ∀ x ∈ [x1, V.ref y, V.ref q4, V.ref q10], ∃ d, At K tp (upd (upd (upd H18 q9 (.tup [V.ref y'])) q10 (.tup [V.ref q5, V.ref q9])) L (.lst [x1, V.ref y, V.ref q4, V.ref q10])) x d ∧ rowsD d 60 = false ∧ K01.gameD d = false := fun x hx => by
        simp only [List.mem_cons, List.not_mem_nil, or_false] at hx
        rcases hx with rfl | rfl | rfl | rfl
        · exact ⟨d1, At.same f15 _ _ hA1, bad1.r, bad1.g⟩
        · exact ⟨_, .own HC (f16 _ _ h16), rfl, rfl⟩
        · refine ⟨.tuple [d3], .tup (k911 _ _ h4') (.cons (At.same f17 _ _ hA3) .nil), row_bad ⟨_, List.mem_cons_self, bad3.w⟩, game_bad ⟨_, List.mem_cons_self, bad3.r⟩⟩
        · refine ⟨.tuple [.tuple [], .tuple [.dict []]], .tup (k11 _ _ upd_same) (.cons (.tup (k911 _ _ h5') .nil) (.cons (.tup ((k10.trans k11) _ _ upd_same) (.cons (.own HC (k911 _ _ h18)) .nil)) .nil)), row_bad ⟨_, List.mem_cons_self, rfl⟩, game_bad ⟨_, List.mem_cons_of_mem _ List.mem_cons_self, row_bad ⟨_, List.mem_cons_self, rfl⟩⟩⟩
      have hdo19 := At.same f14 _ _ hdo14
      have gw19 := gw14.keep (tups_same f14)
      have hL19 : upd (upd (upd H18 q9 (.tup [V.ref y'])) q10 (.tup [V.ref q5, V.ref q9])) L (.lst [x1, V.ref y, V.ref q4, V.ref q10]) L = some (.lst [x1, V.ref y, V.ref q4, V.ref q10]) := upd_same
      generalize upd (upd (upd H18 q9 (.tup [V.ref y'])) q10 (.tup [V.ref q5, V.ref q9])) L (.lst [x1, V.ref y, V.ref q4, V.ref q10]) = H19 at all4 hdo19 gw19 hL19
      clear f14 f15 f16 f17 k911 k11 k10 k9 h4' h5' g18 k48 gy' hh' h18 kp' k8 k7 k6 k5 k4 hA3 g17 hT16 g16 kp hh h16 gy k3 k2 k1 hA1 g15 hT gw14 hdo14 t14 mv14
      refine ⟨L, rfl, ⟨_, SqL.of hL19⟩, ?_⟩
      refine for_it (walk_list (K := K) (a := L) (xs := [x1, V.ref y, V.ref q4, V.ref q10])) (fun i σ H20 => ∃ u4, σ = [some (.ref s0), some (.ref tp), v2, v3, u4, v5, v6, some (.int (n : Int)), some (.ref ln), some (.ref w), w10, some (.int (m : Int)), some v, w13, w14] ∧ Same H19 H20) ⟨_, rfl, Same.refl _⟩ (fun i σ H20 _ ⟨_, _, g⟩ => SqL.of (g _ _ hL19)) ?_ ?_
      · rintro i x σ H20 H21 hi ⟨u4, rfl, g20⟩ ⟨rfl, hx⟩
        obtain ⟨d, hd, rb, gb⟩ := all4 x (List.mem_of_getElem? hx)
        have hd20 := At.same g20 _ _ hd
        refine ⟨_, rfl, x, rfl, tp, d, hd20, fun H22 g22 => ?_⟩
        rw [gb]
        refine ⟨_, _, rfl, _, rfl, ?_⟩
        refine iteF ?_
        refine ⟨_, rfl, x, rfl, tp, d, At.same g22 _ _ hd20, fun H23 g23 => ?_⟩
        rw [movD_no rb]
        refine ⟨rfl, _, rfl, ?_⟩
        exact iteN (nt rfl) ⟨_, rfl, (g20.trans g22).trans g23⟩
      · rintro σ H20 ⟨u4, rfl, g20⟩
        have okw : ∀ r ∈ (wideOf alpha).take m, ∀ z ∈ r, z.length ≤ 1000 := fun r hr z hz => ((wide_ok r (List.mem_of_mem_take hr)).2 z hz).2
        have gw20 := gw19.keep (tups_same g20)
        refine ⟨_, rfl, .ref w, rfl, tp, _, at_game gw20 okw, fun H21 g21 => ?_⟩
        obtain ⟨zs, hz, pz⟩ := gw20.keep (tups_same g21)
        refine ⟨_, rfl, w, _, rfl, .inr (SqT.of hz), _, _, rfl, rfl, _, _, rfl, ?_⟩
        have lz : (zs.length : Int) = (m : Int) := by
          rw [paired_len pz, List.length_take, wide_len]
          omega
        rw [wide_game (by omega) (by omega), lz, decide_eq_true (show decide ((m : Int) < 601) = decide ((m : Int) < 601) from rfl)]
        refine ⟨true, rfl, iteT ?_⟩
        refine ⟨_, rfl, v, rfl, tp, do_, At.same (g20.trans g21) _ _ hdo19, fun H22 g22 => ?_⟩
        rw [movD_no ro]
        refine ⟨rfl, true, rfl, iteT ?_⟩
        refine ⟨nought, fun qe hqe => ⟨.ref qe, rfl, tp, .tuple [], .tup upd_same .nil, fun H23 g23 => ?_⟩⟩
        rw [movD_yes (ds := []) (by decide)]
        exact ⟨rfl, q _⟩
end
end K01
namespace K01
open PySem L2 Nm
theorem exm_of {K : PySem.W.Frag} {S : Addr} (h1 : PySem.W.subIn K (.ref S) (.type "BaseException") = some true) (h2 : PySem.W.isClsIn K S = true) (h3 : PySem.W.typeIn K (.ref S) = some (.type "type")) (h4 : PySem.W.subIn K (.ref S) (.ref S) = some true) : PySem.W.exmOne K (.ref S) (.ref S) = some true := by
  have h2' : (PySem.W.clsIn K S).isSome = true := h2
  simp [PySem.W.exmOne, PySem.W.kitCls, h1, h2', h3, h4]
theorem kit_own {K : PySem.W.Frag} {C : Addr} {t : String} (h : PySem.W.subIn K (.ref C) (.type t) = some false) (m : PySem.W.kitMeta t = true) : PySem.W.kitOne K (.ref C) (.type t) = some false := by
  unfold PySem.W.kitOne PySem.W.kitCls
  rw [if_neg (fun z => Bool.noConfusion z)]
  show (if PySem.W.kitMeta t = true then PySem.W.subIn K (.ref C) (.type t) else none) = some false
  rw [if_pos m]
  exact h
theorem all_mk {l : PySem.W.OpenLaw} {w : World} {K : PySem.W.Frag} {h : Heap} {mg : Str → Option Value} {fa CHall CHallError CNoRow f1 f2 f3 f4 f5 f6 f7 f8 f9 f10 f11 f12 f13 f14 f15 f16 f17 f18 f19 f20 f21 f22 f23 f24 f25 f26 f27 f28 f29 f30 : Addr} (X : K.In h) (G : h.Ns mainGlobals mg) (hfa : mg "law" = some (.ref fa))
    {od1 an1 od2 an2 od3 an3 od4 an4 od5 an5 od6 an6 od7 an7 od8 an8 od9 an9 od10 an10 od11 an11 od12 an12 od13 an13 od14 an14 od15 an15 od16 an16 od17 an17 od18 an18 od19 an19 od20 an20 od21 an21 od22 an22 od23 an23 od24 an24 od25 an25 od26 an26 od27 an27 od28 an28 od29 an29 od30 an30 : Option Addr} {sl1 sl2 sl3 sl4 sl5 sl6 sl7 sl8 sl9 sl10 sl11 sl12 sl13 sl14 sl15 sl16 sl17 sl18 sl19 sl20 sl21 sl22 sl23 sl24 sl25 sl26 sl27 sl28 sl29 sl30 : Array (Option Value)} {oc1 kV1 dc1 pm1 cd1 ct1 oc2 kV2 dc2 pm2 cd2 ct2 oc3 kV3 dc3 pm3 cd3 ct3 oc4 kV4 dc4 pm4 cd4 ct4 oc5 kV5 dc5 pm5 cd5 ct5 oc6 kV6 dc6 pm6 cd6 ct6 oc7 kV7 dc7 pm7 cd7 ct7 oc8 kV8 dc8 pm8 cd8 ct8 oc9 kV9 dc9 pm9 cd9 ct9 oc10 kV10 dc10 pm10 cd10 ct10 oc11 kV11 dc11 pm11 cd11 ct11 oc12 kV12 dc12 pm12 cd12 ct12 oc13 kV13 dc13 pm13 cd13 ct13 oc14 kV14 dc14 pm14 cd14 ct14 oc15 kV15 dc15 pm15 cd15 ct15 oc16 kV16 dc16 pm16 cd16 ct16 oc17 kV17 dc17 pm17 cd17 ct17 oc18 kV18 dc18 pm18 cd18 ct18 oc19 kV19 dc19 pm19 cd19 ct19 oc20 kV20 dc20 pm20 cd20 ct20 oc21 kV21 dc21 pm21 cd21 ct21 oc22 kV22 dc22 pm22 cd22 ct22 oc23 kV23 dc23 pm23 cd23 ct23 oc24 kV24 dc24 pm24 cd24 ct24 oc25 kV25 dc25 pm25 cd25 ct25 oc26 kV26 dc26 pm26 cd26 ct26 oc27 kV27 dc27 pm27 cd27 ct27 oc28 kV28 dc28 pm28 cd28 ct28 oc29 kV29 dc29 pm29 cd29 ct29 oc30 kV30 dc30 pm30 cd30 ct30 : Value} {tMOST_BEGUN tMOST_BOARDS tMOST_ROWS tMOST_WORDS : Tok} {enmNoRow eqNoRow : Str} {eNNoRow : Addr} {ebsNoRow ebmNoRow : List Value} {esnNoRow : List Str} {esubNoRow : List Value} {eabNoRow : Bool} {ecolNoRow : Option Bool} {eddNoRow : Option Addr} {em0NoRow em1NoRow em2NoRow em3NoRow em5NoRow : Option Value}
    (a_Hall : PySem.W.nsIn K mainGlobals "Hall" = some (some (.ref CHall)))
    (a_HallError : PySem.W.nsIn K mainGlobals "HallError" = some (some (.ref CHallError)))
    (a_NoRow : PySem.W.nsIn K mainGlobals "NoRow" = some (some (.ref CNoRow)))
    (a1 : PySem.W.nsIn K mainGlobals "is_integer" = some (some (.ref f1)))
    (l1 : K.lookup f1 = some ⟨oc1, od1, .func (PySem.W.fnOf "is_integer" "is_integer" (defArgs s_is_integer) (defBody s_is_integer) (defScope s_is_integer) .none kV1 dc1 pm1 an1 cd1 ct1), sl1⟩)
    (c1 : PySem.W.codeIn K cd1 "is_integer" = true)
    (k1 : PySem.W.keepIn K (.ref f1) = true)
    (a2 : PySem.W.nsIn K mainGlobals "is_within" = some (some (.ref f2)))
    (l2 : K.lookup f2 = some ⟨oc2, od2, .func (PySem.W.fnOf "is_within" "is_within" (defArgs s_is_within) (defBody s_is_within) (defScope s_is_within) .none kV2 dc2 pm2 an2 cd2 ct2), sl2⟩)
    (c2 : PySem.W.codeIn K cd2 "is_within" = true)
    (k2 : PySem.W.keepIn K (.ref f2) = true)
    (a3 : PySem.W.nsIn K mainGlobals "is_side" = some (some (.ref f3)))
    (l3 : K.lookup f3 = some ⟨oc3, od3, .func (PySem.W.fnOf "is_side" "is_side" (defArgs s_is_side) (defBody s_is_side) (defScope s_is_side) .none kV3 dc3 pm3 an3 cd3 ct3), sl3⟩)
    (c3 : PySem.W.codeIn K cd3 "is_side" = true)
    (k3 : PySem.W.keepIn K (.ref f3) = true)
    (a4 : PySem.W.nsIn K mainGlobals "is_lettered" = some (some (.ref f4)))
    (l4 : K.lookup f4 = some ⟨oc4, od4, .func (PySem.W.fnOf "is_lettered" "is_lettered" (defArgs s_is_lettered) (defBody s_is_lettered) (defScope s_is_lettered) .none kV4 dc4 pm4 an4 cd4 ct4), sl4⟩)
    (c4 : PySem.W.codeIn K cd4 "is_lettered" = true)
    (k4 : PySem.W.keepIn K (.ref f4) = true)
    (a5 : PySem.W.nsIn K mainGlobals "is_name" = some (some (.ref f5)))
    (l5 : K.lookup f5 = some ⟨oc5, od5, .func (PySem.W.fnOf "is_name" "is_name" (defArgs s_is_name) (defBody s_is_name) (defScope s_is_name) .none kV5 dc5 pm5 an5 cd5 ct5), sl5⟩)
    (c5 : PySem.W.codeIn K cd5 "is_name" = true)
    (k5 : PySem.W.keepIn K (.ref f5) = true)
    (a6 : PySem.W.nsIn K mainGlobals "is_word" = some (some (.ref f6)))
    (l6 : K.lookup f6 = some ⟨oc6, od6, .func (PySem.W.fnOf "is_word" "is_word" (defArgs s_is_word) (defBody s_is_word) (defScope s_is_word) .none kV6 dc6 pm6 an6 cd6 ct6), sl6⟩)
    (c6 : PySem.W.codeIn K cd6 "is_word" = true)
    (k6 : PySem.W.keepIn K (.ref f6) = true)
    (a7 : PySem.W.nsIn K mainGlobals "is_words" = some (some (.ref f7)))
    (l7 : K.lookup f7 = some ⟨oc7, od7, .func (PySem.W.fnOf "is_words" "is_words" (defArgs s_is_words) (defBody s_is_words) (defScope s_is_words) .none kV7 dc7 pm7 an7 cd7 ct7), sl7⟩)
    (c7 : PySem.W.codeIn K cd7 "is_words" = true)
    (k7 : PySem.W.keepIn K (.ref f7) = true)
    (a8 : PySem.W.nsIn K mainGlobals "is_board" = some (some (.ref f8)))
    (l8 : K.lookup f8 = some ⟨oc8, od8, .func (PySem.W.fnOf "is_board" "is_board" (defArgs s_is_board) (defBody s_is_board) (defScope s_is_board) .none kV8 dc8 pm8 an8 cd8 ct8), sl8⟩)
    (c8 : PySem.W.codeIn K cd8 "is_board" = true)
    (k8 : PySem.W.keepIn K (.ref f8) = true)
    (a9 : PySem.W.nsIn K mainGlobals "names_of" = some (some (.ref f9)))
    (l9 : K.lookup f9 = some ⟨oc9, od9, .func (PySem.W.fnOf "names_of" "names_of" (defArgs s_names_of) (defBody s_names_of) (defScope s_names_of) .none kV9 dc9 pm9 an9 cd9 ct9), sl9⟩)
    (c9 : PySem.W.codeIn K cd9 "names_of" = true)
    (k9 : PySem.W.keepIn K (.ref f9) = true)
    (a10 : PySem.W.findIn K (.ref CHall) "__init__" = some (some (.ref f10)))
    (i10 : PySem.W.isFn K (.ref f10) = true)
    (l10 : K.lookup f10 = some ⟨oc10, od10, .func (PySem.W.fnOf "__init__" "Hall.__init__" (defArgs s_Hall___init__) (defBody s_Hall___init__) (defScope s_Hall___init__) .none kV10 dc10 pm10 an10 cd10 ct10), sl10⟩)
    (c10 : PySem.W.codeIn K cd10 "Hall.__init__" = true)
    (k10 : PySem.W.keepIn K (.ref f10) = true)
    (a11 : PySem.W.findIn K (.ref CHallError) "__init__" = some (some (.ref f11)))
    (i11 : PySem.W.isFn K (.ref f11) = true)
    (l11 : K.lookup f11 = some ⟨oc11, od11, .func (PySem.W.fnOf "__init__" "HallError.__init__" (defArgs s_HallError___init__) (defBody s_HallError___init__) (defScope s_HallError___init__) .none kV11 dc11 pm11 an11 cd11 ct11), sl11⟩)
    (c11 : PySem.W.codeIn K cd11 "HallError.__init__" = true)
    (k11 : PySem.W.keepIn K (.ref f11) = true)
    (a12 : PySem.W.nsIn K mainGlobals "is_row" = some (some (.ref f12)))
    (l12 : K.lookup f12 = some ⟨oc12, od12, .func (PySem.W.fnOf "is_row" "is_row" (defArgs s_is_row) (defBody s_is_row) (defScope s_is_row) .none kV12 dc12 pm12 an12 cd12 ct12), sl12⟩)
    (c12 : PySem.W.codeIn K cd12 "is_row" = true)
    (k12 : PySem.W.keepIn K (.ref f12) = true)
    (a13 : PySem.W.nsIn K mainGlobals "is_ascending" = some (some (.ref f13)))
    (l13 : K.lookup f13 = some ⟨oc13, od13, .func (PySem.W.fnOf "is_ascending" "is_ascending" (defArgs s_is_ascending) (defBody s_is_ascending) (defScope s_is_ascending) .none kV13 dc13 pm13 an13 cd13 ct13), sl13⟩)
    (c13 : PySem.W.codeIn K cd13 "is_ascending" = true)
    (k13 : PySem.W.keepIn K (.ref f13) = true)
    (a14 : PySem.W.nsIn K mainGlobals "mover" = some (some (.ref f14)))
    (l14 : K.lookup f14 = some ⟨oc14, od14, .func (PySem.W.fnOf "mover" "mover" (defArgs s_mover) (defBody s_mover) (defScope s_mover) .none kV14 dc14 pm14 an14 cd14 ct14), sl14⟩)
    (c14 : PySem.W.codeIn K cd14 "mover" = true)
    (k14 : PySem.W.keepIn K (.ref f14) = true)
    (a15 : PySem.W.nsIn K mainGlobals "is_game" = some (some (.ref f15)))
    (l15 : K.lookup f15 = some ⟨oc15, od15, .func (PySem.W.fnOf "is_game" "is_game" (defArgs s_is_game) (defBody s_is_game) (defScope s_is_game) .none kV15 dc15 pm15 an15 cd15 ct15), sl15⟩)
    (c15 : PySem.W.codeIn K cd15 "is_game" = true)
    (k15 : PySem.W.keepIn K (.ref f15) = true)
    (a16 : PySem.W.nsIn K mainGlobals "_law_tape" = some (some (.ref f16)))
    (l16 : K.lookup f16 = some ⟨oc16, od16, .func (PySem.W.fnOf "_law_tape" "_law_tape" (defArgs s__law_tape) (defBody s__law_tape) (defScope s__law_tape) .none kV16 dc16 pm16 an16 cd16 ct16), sl16⟩)
    (c16 : PySem.W.codeIn K cd16 "_law_tape" = true)
    (k16 : PySem.W.keepIn K (.ref f16) = true)
    (a17 : PySem.W.nsIn K mainGlobals "_law_pick" = some (some (.ref f17)))
    (l17 : K.lookup f17 = some ⟨oc17, od17, .func (PySem.W.fnOf "_law_pick" "_law_pick" (defArgs s__law_pick) (defBody s__law_pick) (defScope s__law_pick) .none kV17 dc17 pm17 an17 cd17 ct17), sl17⟩)
    (c17 : PySem.W.codeIn K cd17 "_law_pick" = true)
    (k17 : PySem.W.keepIn K (.ref f17) = true)
    (a18 : PySem.W.nsIn K mainGlobals "_law_is" = some (some (.ref f18)))
    (l18 : K.lookup f18 = some ⟨oc18, od18, .func (PySem.W.fnOf "_law_is" "_law_is" (defArgs s__law_is) (defBody s__law_is) (defScope s__law_is) .none kV18 dc18 pm18 an18 cd18 ct18), sl18⟩)
    (c18 : PySem.W.codeIn K cd18 "_law_is" = true)
    (k18 : PySem.W.keepIn K (.ref f18) = true)
    (a19 : PySem.W.nsIn K mainGlobals "_law_flag" = some (some (.ref f19)))
    (l19 : K.lookup f19 = some ⟨oc19, od19, .func (PySem.W.fnOf "_law_flag" "_law_flag" (defArgs s__law_flag) (defBody s__law_flag) (defScope s__law_flag) .none kV19 dc19 pm19 an19 cd19 ct19), sl19⟩)
    (c19 : PySem.W.codeIn K cd19 "_law_flag" = true)
    (k19 : PySem.W.keepIn K (.ref f19) = true)
    (a20 : PySem.W.nsIn K mainGlobals "_law_some" = some (some (.ref f20)))
    (l20 : K.lookup f20 = some ⟨oc20, od20, .func (PySem.W.fnOf "_law_some" "_law_some" (defArgs s__law_some) (defBody s__law_some) (defScope s__law_some) .none kV20 dc20 pm20 an20 cd20 ct20), sl20⟩)
    (c20 : PySem.W.codeIn K cd20 "_law_some" = true)
    (k20 : PySem.W.keepIn K (.ref f20) = true)
    (a21 : PySem.W.nsIn K mainGlobals "_law_word" = some (some (.ref f21)))
    (l21 : K.lookup f21 = some ⟨oc21, od21, .func (PySem.W.fnOf "_law_word" "_law_word" (defArgs s__law_word) (defBody s__law_word) (defScope s__law_word) .none kV21 dc21 pm21 an21 cd21 ct21), sl21⟩)
    (c21 : PySem.W.codeIn K cd21 "_law_word" = true)
    (k21 : PySem.W.keepIn K (.ref f21) = true)
    (a22 : PySem.W.nsIn K mainGlobals "_law_game" = some (some (.ref f22)))
    (l22 : K.lookup f22 = some ⟨oc22, od22, .func (PySem.W.fnOf "_law_game" "_law_game" (defArgs s__law_game) (defBody s__law_game) (defScope s__law_game) .none kV22 dc22 pm22 an22 cd22 ct22), sl22⟩)
    (c22 : PySem.W.codeIn K cd22 "_law_game" = true)
    (k22 : PySem.W.keepIn K (.ref f22) = true)
    (a23 : PySem.W.nsIn K mainGlobals "_law_is_word" = some (some (.ref f23)))
    (l23 : K.lookup f23 = some ⟨oc23, od23, .func (PySem.W.fnOf "_law_is_word" "_law_is_word" (defArgs s__law_is_word) (defBody s__law_is_word) (defScope s__law_is_word) .none kV23 dc23 pm23 an23 cd23 ct23), sl23⟩)
    (c23 : PySem.W.codeIn K cd23 "_law_is_word" = true)
    (k23 : PySem.W.keepIn K (.ref f23) = true)
    (a24 : PySem.W.nsIn K mainGlobals "_law_is_row" = some (some (.ref f24)))
    (l24 : K.lookup f24 = some ⟨oc24, od24, .func (PySem.W.fnOf "_law_is_row" "_law_is_row" (defArgs s__law_is_row) (defBody s__law_is_row) (defScope s__law_is_row) .none kV24 dc24 pm24 an24 cd24 ct24), sl24⟩)
    (c24 : PySem.W.codeIn K cd24 "_law_is_row" = true)
    (k24 : PySem.W.keepIn K (.ref f24) = true)
    (a25 : PySem.W.nsIn K mainGlobals "_law_is_game" = some (some (.ref f25)))
    (l25 : K.lookup f25 = some ⟨oc25, od25, .func (PySem.W.fnOf "_law_is_game" "_law_is_game" (defArgs s__law_is_game) (defBody s__law_is_game) (defScope s__law_is_game) .none kV25 dc25 pm25 an25 cd25 ct25), sl25⟩)
    (c25 : PySem.W.codeIn K cd25 "_law_is_game" = true)
    (k25 : PySem.W.keepIn K (.ref f25) = true)
    (a26 : PySem.W.nsIn K mainGlobals "_law_mover" = some (some (.ref f26)))
    (l26 : K.lookup f26 = some ⟨oc26, od26, .func (PySem.W.fnOf "_law_mover" "_law_mover" (defArgs s__law_mover) (defBody s__law_mover) (defScope s__law_mover) .none kV26 dc26 pm26 an26 cd26 ct26), sl26⟩)
    (c26 : PySem.W.codeIn K cd26 "_law_mover" = true)
    (k26 : PySem.W.keepIn K (.ref f26) = true)
    (a27 : PySem.W.nsIn K mainGlobals "_law_odd_word" = some (some (.ref f27)))
    (l27 : K.lookup f27 = some ⟨oc27, od27, .func (PySem.W.fnOf "_law_odd_word" "_law_odd_word" (defArgs s__law_odd_word) (defBody s__law_odd_word) (defScope s__law_odd_word) .none kV27 dc27 pm27 an27 cd27 ct27), sl27⟩)
    (c27 : PySem.W.codeIn K cd27 "_law_odd_word" = true)
    (k27 : PySem.W.keepIn K (.ref f27) = true)
    (a28 : PySem.W.nsIn K mainGlobals "_law_bent" = some (some (.ref f28)))
    (l28 : K.lookup f28 = some ⟨oc28, od28, .func (PySem.W.fnOf "_law_bent" "_law_bent" (defArgs s__law_bent) (defBody s__law_bent) (defScope s__law_bent) .none kV28 dc28 pm28 an28 cd28 ct28), sl28⟩)
    (c28 : PySem.W.codeIn K cd28 "_law_bent" = true)
    (k28 : PySem.W.keepIn K (.ref f28) = true)
    (a29 : PySem.W.nsIn K mainGlobals "_law_deep" = some (some (.ref f29)))
    (l29 : K.lookup f29 = some ⟨oc29, od29, .func (PySem.W.fnOf "_law_deep" "_law_deep" (defArgs s__law_deep) (defBody s__law_deep) (defScope s__law_deep) .none kV29 dc29 pm29 an29 cd29 ct29), sl29⟩)
    (c29 : PySem.W.codeIn K cd29 "_law_deep" = true)
    (k29 : PySem.W.keepIn K (.ref f29) = true)
    (a30 : PySem.W.nsIn K mainGlobals "law" = some (some (.ref f30)))
    (l30 : K.lookup f30 = some ⟨oc30, od30, .func (PySem.W.fnOf "law" "law" (defArgs s_law) (defBody s_law) (defScope s_law) .none kV30 dc30 pm30 an30 cd30 ct30), sl30⟩)
    (c30 : PySem.W.codeIn K cd30 "law" = true)
    (k30 : PySem.W.keepIn K (.ref f30) = true)
    (xL_NoRow : K.lookup CNoRow = some (excClassObj enmNoRow eqNoRow CNoRow eNNoRow ebsNoRow ebmNoRow true esnNoRow esubNoRow eabNoRow ecolNoRow eddNoRow em0NoRow em1NoRow em2NoRow em3NoRow em5NoRow "ValueError.__new__"))
    (rv_NoRow : PySem.HandSPX.refsVE ebmNoRow = true)
    (sa_NoRow : PySem.W.findIn K (.ref CNoRow) "__setattr__" = some (some (.builtin "object.__setattr__")))
    (eC_NoRow : PySem.W.subIn K (.ref CNoRow) (.type "BaseException") = some true)
    (tC_NoRow : PySem.W.typeIn K (.ref CNoRow) = some (.type "type"))
    (kc_NoRow : PySem.W.keepIn K (.ref CNoRow) = true)
    (iC_NoRow : PySem.W.findIn K (.ref CNoRow) "__init__" = some (some (.ref f11)))
    (tI_NoRow : PySem.W.typeIn K (.ref f11) = some (.type "function"))
    (iS_NoRow : PySem.W.isClsIn K CNoRow = true)
    (sS_NoRow : PySem.W.subIn K (.ref CNoRow) (.ref CNoRow) = some true)
    (vV_ : PySem.W.findCls K (.type "ValueError") (.type "type") "__init__" = some (.val (.builtin "ValueError.__init__")))
    (z_VE : PySem.W.nsIn K mainGlobals "ValueError" = some none)
    (hc_a : PySem.W.findIn K (.ref CHall) "__class__" = some (some (.builtin "object.__class__")))
    (hc_n : PySem.W.specialIn K (.builtin "object.__class__") "__get__" = some (some (.builtin "getset_descriptor.__get__")))
    (hc_t : PySem.W.takesIn K (.builtin "object.__class__") = some true)
    (hc_m : PySem.W.mroIn K CHall (.type "object") = some true)
    (hc_kt : PySem.W.subIn K (.ref CHall) (.type "tuple") = some false)
    (hc_ks : PySem.W.subIn K (.ref CHall) (.type "str") = some false)
    (hc_ki : PySem.W.subIn K (.ref CHall) (.type "int") = some false)
    (hc_kb : PySem.W.subIn K (.ref CHall) (.type "bool") = some false)
    (pg_Hall : PySem.W.plainGet K CHall Str.empty = true)
    (hd_Hall : PySem.W.hasDictIn K CHall = true)
    (po_Hall : PySem.W.plainOver K CHall = true)
    (sa_Hall : PySem.W.findIn K (.ref CHall) "__setattr__" = some (some (.builtin "object.__setattr__")))
    (mk_Hall : PySem.W.makesIn K CHall = true)
    (kc_Hall : PySem.W.keepIn K (.ref CHall) = true)
    (n_Hall_boards : PySem.W.findIn K (.ref CHall) "boards" = some none)
    (n_Hall_names : PySem.W.findIn K (.ref CHall) "names" = some none)
    (z_ValueError : PySem.W.nsIn K mainGlobals "ValueError" = some none)
    (z_all : PySem.W.nsIn K mainGlobals "all" = some none)
    (z_bool : PySem.W.nsIn K mainGlobals "bool" = some none)
    (z_enumerate : PySem.W.nsIn K mainGlobals "enumerate" = some none)
    (z_int : PySem.W.nsIn K mainGlobals "int" = some none)
    (z_isinstance : PySem.W.nsIn K mainGlobals "isinstance" = some none)
    (z_len : PySem.W.nsIn K mainGlobals "len" = some none)
    (z_list : PySem.W.nsIn K mainGlobals "list" = some none)
    (z_range : PySem.W.nsIn K mainGlobals "range" = some none)
    (z_sorted : PySem.W.nsIn K mainGlobals "sorted" = some none)
    (z_str : PySem.W.nsIn K mainGlobals "str" = some none)
    (z_tuple : PySem.W.nsIn K mainGlobals "tuple" = some none)
    (z_zip : PySem.W.nsIn K mainGlobals "zip" = some none)
    (g_MOST_BEGUN : PySem.W.nsIn K mainGlobals "MOST_BEGUN" = some (some (.int 20 tMOST_BEGUN)))
    (g_MOST_BOARDS : PySem.W.nsIn K mainGlobals "MOST_BOARDS" = some (some (.int 12 tMOST_BOARDS)))
    (g_MOST_ROWS : PySem.W.nsIn K mainGlobals "MOST_ROWS" = some (some (.int 600 tMOST_ROWS)))
    (g_MOST_WORDS : PySem.W.nsIn K mainGlobals "MOST_WORDS" = some (some (.int 60 tMOST_WORDS))) :
    ∃ fd : FuncData, (∀ (s : Shared) (v : Value), BindsTo s fd ⟨[v], []⟩ [("script", v)]) ∧ ∀ base : Heap, K.In base → base.Ns mainGlobals mg → FnOk l.prog w K mg base CX0 10 fa fd ["script"] (sp_law K) := by
  have e := hfa.symm.trans (PySem.W.mg_of X G a30)
  cases e
  have F1 := fun_mk (st := s_is_integer) l1 c1 k1
  have F2 := fun_mk (st := s_is_within) l2 c2 k2
  have F3 := fun_mk (st := s_is_side) l3 c3 k3
  have F4 := fun_mk (st := s_is_lettered) l4 c4 k4
  have F5 := fun_mk (st := s_is_name) l5 c5 k5
  have F6 := fun_mk (st := s_is_word) l6 c6 k6
  have F7 := fun_mk (st := s_is_words) l7 c7 k7
  have F8 := fun_mk (st := s_is_board) l8 c8 k8
  have F9 := fun_mk (st := s_names_of) l9 c9 k9
  have F10 := fun_mk (st := s_Hall___init__) l10 c10 k10
  have F11 := fun_mk (st := s_HallError___init__) l11 c11 k11
  have F12 := fun_mk (st := s_is_row) l12 c12 k12
  have F13 := fun_mk (st := s_is_ascending) l13 c13 k13
  have F14 := fun_mk (st := s_mover) l14 c14 k14
  have F15 := fun_mk (st := s_is_game) l15 c15 k15
  have F16 := fun_mk (st := s__law_tape) l16 c16 k16
  have F17 := fun_mk (st := s__law_pick) l17 c17 k17
  have F18 := fun_mk (st := s__law_is) l18 c18 k18
  have F19 := fun_mk (st := s__law_flag) l19 c19 k19
  have F20 := fun_mk (st := s__law_some) l20 c20 k20
  have F21 := fun_mk (st := s__law_word) l21 c21 k21
  have F22 := fun_mk (st := s__law_game) l22 c22 k22
  have F23 := fun_mk (st := s__law_is_word) l23 c23 k23
  have F24 := fun_mk (st := s__law_is_row) l24 c24 k24
  have F25 := fun_mk (st := s__law_is_game) l25 c25 k25
  have F26 := fun_mk (st := s__law_mover) l26 c26 k26
  have F27 := fun_mk (st := s__law_odd_word) l27 c27 k27
  have F28 := fun_mk (st := s__law_bent) l28 c28 k28
  have F29 := fun_mk (st := s__law_deep) l29 c29 k29
  have F30 := fun_mk (st := s_law) l30 c30 k30
  have T : Txt K mg := ⟨⟨_, _, F1, PySem.W.mg_of X G a1⟩,
    ⟨_, _, F2, PySem.W.mg_of X G a2⟩,
    ⟨_, _, F3, PySem.W.mg_of X G a3⟩,
    ⟨_, _, F4, PySem.W.mg_of X G a4⟩,
    ⟨_, _, F5, PySem.W.mg_of X G a5⟩,
    ⟨_, _, F6, PySem.W.mg_of X G a6⟩,
    ⟨_, _, F7, PySem.W.mg_of X G a7⟩,
    ⟨_, _, F8, PySem.W.mg_of X G a8⟩,
    ⟨_, _, F9, PySem.W.mg_of X G a9⟩,
    ⟨_, _, F12, PySem.W.mg_of X G a12⟩,
    ⟨_, _, F13, PySem.W.mg_of X G a13⟩,
    ⟨_, _, F14, PySem.W.mg_of X G a14⟩,
    ⟨_, _, F15, PySem.W.mg_of X G a15⟩,
    ⟨_, _, F16, PySem.W.mg_of X G a16⟩,
    ⟨_, _, F17, PySem.W.mg_of X G a17⟩,
    ⟨_, _, F18, PySem.W.mg_of X G a18⟩,
    ⟨_, _, F19, PySem.W.mg_of X G a19⟩,
    ⟨_, _, F20, PySem.W.mg_of X G a20⟩,
    ⟨_, _, F21, PySem.W.mg_of X G a21⟩,
    ⟨_, _, F22, PySem.W.mg_of X G a22⟩,
    ⟨_, _, F23, PySem.W.mg_of X G a23⟩,
    ⟨_, _, F24, PySem.W.mg_of X G a24⟩,
    ⟨_, _, F25, PySem.W.mg_of X G a25⟩,
    ⟨_, _, F26, PySem.W.mg_of X G a26⟩,
    ⟨_, _, F27, PySem.W.mg_of X G a27⟩,
    ⟨_, _, F28, PySem.W.mg_of X G a28⟩,
    ⟨_, _, F29, PySem.W.mg_of X G a29⟩,
    ⟨_, _, F30, PySem.W.mg_of X G a30⟩,
    PySem.W.mg_none_of X G z_ValueError,
    PySem.W.mg_none_of X G z_all,
    PySem.W.mg_none_of X G z_bool,
    PySem.W.mg_none_of X G z_enumerate,
    PySem.W.mg_none_of X G z_int,
    PySem.W.mg_none_of X G z_isinstance,
    PySem.W.mg_none_of X G z_len,
    PySem.W.mg_none_of X G z_list,
    PySem.W.mg_none_of X G z_range,
    PySem.W.mg_none_of X G z_sorted,
    PySem.W.mg_none_of X G z_str,
    PySem.W.mg_none_of X G z_tuple,
    PySem.W.mg_none_of X G z_zip,
    ⟨_, PySem.W.mg_of X G g_MOST_BEGUN, ⟨_, rfl⟩⟩,
    ⟨_, PySem.W.mg_of X G g_MOST_BOARDS, ⟨_, rfl⟩⟩,
    ⟨_, PySem.W.mg_of X G g_MOST_ROWS, ⟨_, rfl⟩⟩,
    ⟨_, PySem.W.mg_of X G g_MOST_WORDS, ⟨_, rfl⟩⟩,
    ⟨_, _, _, ⟨pg_Hall, hd_Hall, po_Hall, sa_Hall⟩, ⟨mk_Hall, a10, i10, kc_Hall⟩, PySem.W.mg_of X G a_Hall, F10, n_Hall_boards, n_Hall_names⟩,
    PySem.W.mg_none_of X G z_VE,
    vV_,
    ⟨_, _, _, { hm := PySem.W.mg_of X G a_NoRow, ox := { cls := ⟨_, _, _, _, _, _, _, _, _, _, _, _, _, _, _, xL_NoRow, rv_NoRow⟩, sa := sa_NoRow, exC := eC_NoRow, tyC := tC_NoRow, kC := kc_NoRow }, iC := iC_NoRow, tI := tI_NoRow }, exm_of eC_NoRow iS_NoRow tC_NoRow sS_NoRow, F11⟩,
    fun C h => by
      have e := h.symm.trans (PySem.W.mg_of X G a_Hall)
      cases e
      exact ⟨⟨pg_Hall, hd_Hall, po_Hall, sa_Hall⟩, hc_a, hc_n, hc_t, hc_m, kit_own hc_kt (by decide +kernel), kit_own hc_ks (by decide +kernel), kit_own hc_ki (by decide +kernel), kit_own hc_kb (by decide +kernel)⟩⟩
  exact ⟨PySem.W.fnOf "law" "law" (defArgs s_law) (defBody s_law) (defScope s_law) .none kV30 dc30 pm30 an30 cd30 ct30, fun s v => .of_eq rfl, fun base _ _ => ok_law F30 T⟩
theorem walk {l : PySem.W.OpenLaw} {q : Program} {loose : List Str} {XP : (Str → Option Value) → Heap → Prop} {YP : World → Heap → Prop} {d : DefRec} {K : Params → PySem.W.Frag} (hn : l.most = some 63) (hdf : d.params.defaults = [])
    (hY : ∀ (w : World) (h : Heap), YP w h → (K w.params).In h)
    (F : ∀ (w : World) (mg : Str → Option Value) (fa : Addr) (h : Heap), (K w.params).In h → h.Ns mainGlobals mg → mg d.name = some (.ref fa) →
      ∃ fd : FuncData, (∀ (s : Shared) (u : Value), BindsTo s fd ⟨[u], []⟩ [("script", u)]) ∧ ∀ base : Heap, (K w.params).In base → base.Ns mainGlobals mg → FnOk l.prog w (K w.params) mg base CX0 10 fa fd ["script"] (sp_law (K w.params))) :
    PySem.W.WalkO q loose XP YP l.row.toRowW d [] (fun f vs => PySem.call f vs) :=
  L2.walk_of (n := 63) (k := 10) (x := "script") (CX := fun _ => CX0) (sp := fun w => sp_law (K w.params)) hn (by decide) hdf ⟨rfl, by decide, by decide⟩ hY F (fun _ _ a ns hl _ hS => ⟨a, ns, rfl, hS, fun _ => rfl⟩) fun _ _ _ _ _ z => z
end K01
open PySem PySem.W PyProof.Rows
set_option maxRecDepth 100000 in
set_option maxHeartbeats 0 in
theorem PySem.Challenge.cw_untoldgames_k01_rows_and_games_judged_holds : PySem.Challenge.rw_untoldgames_k01_rows_and_games_judged.Holds := by
  w_on; o_law; k_head; (case hw => w_witness2)
  k_fill
  refine K01.walk (l := PySem.Challenge.rw_untoldgames_k01_rows_and_games_judged) rfl rfl (fun w h Y => PySem.W.kIn_of Y) ?F
  case F =>
    intro w mg fa h KX G hmg
    refine' K01.all_mk KX G hmg ?a_Hall ?a_HallError ?a_NoRow ?a1 ?l1 ?c1 ?k1 ?a2 ?l2 ?c2 ?k2 ?a3 ?l3 ?c3 ?k3 ?a4 ?l4 ?c4 ?k4 ?a5 ?l5 ?c5 ?k5 ?a6 ?l6 ?c6 ?k6 ?a7 ?l7 ?c7 ?k7 ?a8 ?l8 ?c8 ?k8 ?a9 ?l9 ?c9 ?k9 ?a10 ?i10 ?l10 ?c10 ?k10 ?a11 ?i11 ?l11 ?c11 ?k11 ?a12 ?l12 ?c12 ?k12 ?a13 ?l13 ?c13 ?k13 ?a14 ?l14 ?c14 ?k14 ?a15 ?l15 ?c15 ?k15 ?a16 ?l16 ?c16 ?k16 ?a17 ?l17 ?c17 ?k17 ?a18 ?l18 ?c18 ?k18 ?a19 ?l19 ?c19 ?k19 ?a20 ?l20 ?c20 ?k20 ?a21 ?l21 ?c21 ?k21 ?a22 ?l22 ?c22 ?k22 ?a23 ?l23 ?c23 ?k23 ?a24 ?l24 ?c24 ?k24 ?a25 ?l25 ?c25 ?k25 ?a26 ?l26 ?c26 ?k26 ?a27 ?l27 ?c27 ?k27 ?a28 ?l28 ?c28 ?k28 ?a29 ?l29 ?c29 ?k29 ?a30 ?l30 ?c30 ?k30 ?xL_NoRow ?rv_NoRow ?sa_NoRow ?eC_NoRow ?tC_NoRow ?kc_NoRow ?iC_NoRow ?tI_NoRow ?iS_NoRow ?sS_NoRow ?vV_ ?z_VE ?hc_a ?hc_n ?hc_t ?hc_m ?hc_kt ?hc_ks ?hc_ki ?hc_kb ?pg_Hall ?hd_Hall ?po_Hall ?sa_Hall ?mk_Hall ?kc_Hall ?n_Hall_boards ?n_Hall_names ?z_ValueError ?z_all ?z_bool ?z_enumerate ?z_int ?z_isinstance ?z_len ?z_list ?z_range ?z_sorted ?z_str ?z_tuple ?z_zip ?g_MOST_BEGUN ?g_MOST_BOARDS ?g_MOST_ROWS ?g_MOST_WORDS
    (case a_Hall => k_is)
    (case a_HallError => k_is)
    (case a_NoRow => k_is)
    (case a1 => k_is)
    (case l1 => k_is)
    (case c1 => k_is)
    (case k1 => k_is)
    (case a2 => k_is)
    (case l2 => k_is)
    (case c2 => k_is)
    (case k2 => k_is)
    (case a3 => k_is)
    (case l3 => k_is)
    (case c3 => k_is)
    (case k3 => k_is)
    (case a4 => k_is)
    (case l4 => k_is)
    (case c4 => k_is)
    (case k4 => k_is)
    (case a5 => k_is)
    (case l5 => k_is)
    (case c5 => k_is)
    (case k5 => k_is)
    (case a6 => k_is)
    (case l6 => k_is)
    (case c6 => k_is)
    (case k6 => k_is)
    (case a7 => k_is)
    (case l7 => k_is)
    (case c7 => k_is)
    (case k7 => k_is)
    (case a8 => k_is)
    (case l8 => k_is)
    (case c8 => k_is)
    (case k8 => k_is)
    (case a9 => k_is)
    (case l9 => k_is)
    (case c9 => k_is)
    (case k9 => k_is)
    (case a10 => k_is)
    (case i10 => k_is)
    (case l10 => k_is)
    (case c10 => k_is)
    (case k10 => k_is)
    (case a11 => k_is)
    (case i11 => k_is)
    (case l11 => k_is)
    (case c11 => k_is)
    (case k11 => k_is)
    (case a12 => k_is)
    (case l12 => k_is)
    (case c12 => k_is)
    (case k12 => k_is)
    (case a13 => k_is)
    (case l13 => k_is)
    (case c13 => k_is)
    (case k13 => k_is)
    (case a14 => k_is)
    (case l14 => k_is)
    (case c14 => k_is)
    (case k14 => k_is)
    (case a15 => k_is)
    (case l15 => k_is)
    (case c15 => k_is)
    (case k15 => k_is)
    (case a16 => k_is)
    (case l16 => k_is)
    (case c16 => k_is)
    (case k16 => k_is)
    (case a17 => k_is)
    (case l17 => k_is)
    (case c17 => k_is)
    (case k17 => k_is)
    (case a18 => k_is)
    (case l18 => k_is)
    (case c18 => k_is)
    (case k18 => k_is)
    (case a19 => k_is)
    (case l19 => k_is)
    (case c19 => k_is)
    (case k19 => k_is)
    (case a20 => k_is)
    (case l20 => k_is)
    (case c20 => k_is)
    (case k20 => k_is)
    (case a21 => k_is)
    (case l21 => k_is)
    (case c21 => k_is)
    (case k21 => k_is)
    (case a22 => k_is)
    (case l22 => k_is)
    (case c22 => k_is)
    (case k22 => k_is)
    (case a23 => k_is)
    (case l23 => k_is)
    (case c23 => k_is)
    (case k23 => k_is)
    (case a24 => k_is)
    (case l24 => k_is)
    (case c24 => k_is)
    (case k24 => k_is)
    (case a25 => k_is)
    (case l25 => k_is)
    (case c25 => k_is)
    (case k25 => k_is)
    (case a26 => k_is)
    (case l26 => k_is)
    (case c26 => k_is)
    (case k26 => k_is)
    (case a27 => k_is)
    (case l27 => k_is)
    (case c27 => k_is)
    (case k27 => k_is)
    (case a28 => k_is)
    (case l28 => k_is)
    (case c28 => k_is)
    (case k28 => k_is)
    (case a29 => k_is)
    (case l29 => k_is)
    (case c29 => k_is)
    (case k29 => k_is)
    (case a30 => k_is)
    (case l30 => k_is)
    (case c30 => k_is)
    (case k30 => k_is)
    (case xL_NoRow => k_is)
    (case rv_NoRow => decide +kernel)
    (case sa_NoRow => k_is)
    (case eC_NoRow => k_is)
    (case tC_NoRow => k_is)
    (case kc_NoRow => k_is)
    (case iC_NoRow => k_is)
    (case tI_NoRow => k_is)
    (case iS_NoRow => k_is)
    (case sS_NoRow => first | rfl | k_is)
    (case vV_ => k_is)
    (case z_VE => k_is)
    (case hc_a => k_is)
    (case hc_n => k_is)
    (case hc_t => k_is)
    (case hc_m => k_is)
    (case hc_kt => k_is)
    (case hc_ks => k_is)
    (case hc_ki => k_is)
    (case hc_kb => k_is)
    (case pg_Hall => k_is)
    (case hd_Hall => k_is)
    (case po_Hall => k_is)
    (case sa_Hall => k_is)
    (case mk_Hall => k_is)
    (case kc_Hall => k_is)
    (case n_Hall_boards => k_is)
    (case n_Hall_names => k_is)
    (case z_ValueError => k_is)
    (case z_all => k_is)
    (case z_bool => k_is)
    (case z_enumerate => k_is)
    (case z_int => k_is)
    (case z_isinstance => k_is)
    (case z_len => k_is)
    (case z_list => k_is)
    (case z_range => k_is)
    (case z_sorted => k_is)
    (case z_str => k_is)
    (case z_tuple => k_is)
    (case z_zip => k_is)
    (case g_MOST_BEGUN => k_is)
    (case g_MOST_BOARDS => k_is)
    (case g_MOST_ROWS => k_is)
    (case g_MOST_WORDS => k_is)
#print axioms PySem.Challenge.cw_untoldgames_k01_rows_and_games_judged_holds
